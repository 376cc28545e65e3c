import Derived.Test.YtpgahclpbdpbnaaGreatDoorGAE
import Derived.Laws.Concat
import Derived.Deep.QuietTactic
import Derived.BigQuiet
set_option maxHeartbeats 8000000
set_option maxRecDepth 100000
namespace Go.Proofs.YtpgahclpbdpbnaaGreatDoor.Clk
open Go.RowKit
theorem zbF {w:World} {g:Nat} {y m d h i s:Int} (k:Blk w g 147 (d6c y m d h i s)):(∀W,Ext w.drew W->W.cell? ⟨g,0,none⟩=some (.int .i64 y))/\ (∀W,Ext w.drew W->W.cell? ⟨g,1,none⟩=some (.int .i64 m))/\ (∀W,Ext w.drew W->W.cell? ⟨g,2,none⟩=some (.int .i64 d))/\ (∀W,Ext w.drew W->W.cell? ⟨g,3,none⟩=some (.int .i64 h))/\ (∀W,Ext w.drew W->W.cell? ⟨g,4,none⟩=some (.int .i64 i))/\ (∀W,Ext w.drew W->W.cell? ⟨g,5,none⟩=some (.int .i64 s)):=
 ⟨fun _ hW=>(hW.cell (p:=⟨g,0,none⟩) k.lt).trans (k.cell 0),fun _ hW=>(hW.cell (p:=⟨g,1,none⟩) k.lt).trans (k.cell 1),fun _ hW=>(hW.cell (p:=⟨g,2,none⟩) k.lt).trans (k.cell 2),fun _ hW=>(hW.cell (p:=⟨g,3,none⟩) k.lt).trans (k.cell 3),fun _ hW=>(hW.cell (p:=⟨g,4,none⟩) k.lt).trans (k.cell 4),fun _ hW=>(hW.cell (p:=⟨g,5,none⟩) k.lt).trans (k.cell 5)⟩
theorem zop (y m d h i s:Int) (w:World):Calls Tryz.prog 192 #[.agg #[.int .i64 y,.int .i64 m,.int .i64 d,.int .i64 h,.int .i64 i,.int .i64 s]] w fun e w'=>e= .returned (.bool (okB ⟨y,m,d,h,i,s⟩))/\ Below w.heap.size w w':=by
 by_cases c1:y<1950
 · have F:Hid (okB ⟨y,m,d,h,i,s⟩=false):=zaB (by unfold D6.ok;simp only;omega)
   have t1:decide (y<1950)=true:=by simpa using c1
   go_enter Tryz.func192,Tryz.ntmps192
   go_wp2
   go_ret
   exact⟨by rw[F.out];rfl,(Below.refl _ _).alloc (Nat.le_refl _) _⟩
 have t1:decide (y<1950)=false:=by simpa using c1
 by_cases c2:2199<y
 · have F:Hid (okB ⟨y,m,d,h,i,s⟩=false):=zaB (by unfold D6.ok;simp only;omega)
   have t2:decide (2199<y)=true:=by simpa using c2
   go_enter Tryz.func192,Tryz.ntmps192
   go_wp2
   go_ret
   exact⟨by rw[F.out];rfl,(Below.refl _ _).alloc (Nat.le_refl _) _⟩
 have t2:decide (2199<y)=false:=by simpa using c2
 by_cases c3:m<1
 · have F:Hid (okB ⟨y,m,d,h,i,s⟩=false):=zaB (by unfold D6.ok;simp only;omega)
   have t3:decide (m<1)=true:=by simpa using c3
   go_enter Tryz.func192,Tryz.ntmps192
   go_wp2
   go_ret
   exact⟨by rw[F.out];rfl,(Below.refl _ _).alloc (Nat.le_refl _) _⟩
 have t3:decide (m<1)=false:=by simpa using c3
 by_cases c4:12<m
 · have F:Hid (okB ⟨y,m,d,h,i,s⟩=false):=zaB (by unfold D6.ok;simp only;omega)
   have t4:decide (12<m)=true:=by simpa using c4
   go_enter Tryz.func192,Tryz.ntmps192
   go_wp2
   go_ret
   exact⟨by rw[F.out];rfl,(Below.refl _ _).alloc (Nat.le_refl _) _⟩
 have t4:decide (12<m)=false:=by simpa using c4
 by_cases e5:1<=d
 rotate_left
 · have t5:decide (1<=d)=false:=by simpa using e5
   have F:Hid (okB ⟨y,m,d,h,i,s⟩=false):=zaB (by unfold D6.ok;simp only;omega)
   clear e5
   go_enter Tryz.func192,Tryz.ntmps192
   go_wp2
   obtain⟨w3,HW3,B3⟩:∃w3,w3=w.alloc (.cells #[.int .i64 y,.int .i64 m,.int .i64 d,.int .i64 h,.int .i64 i,.int .i64 s] 147)/\ Below w.heap.size w w3:=⟨_,rfl,(Below.refl _ _).alloc (Nat.le_refl _) _⟩
   rw[<-HW3]
   obtain⟨k0,k1,k2,k3,k4,k5⟩:=zbF (show Blk w3 w.heap.size 147 (d6c y m d h i s)by rw[HW3];exact Blk.new w 147 _)
   clear HW3
   refine zaa Ext Ext.refl (fun _ _ _=>Ext.trans) ((0,false)::(1,false)::(2,false)::(3,false)::(4,false)::(5,false)::(6,false)::(7,false)::(8,false)::(9,false)::(10,true)::(11,false)::(12,false)::(13,false)::(14,false)::(15,false)::(16,false)::(17,false)::(18,false)::(19,false)::(20,false)::(21,false)::(22,false)::(23,false)::(24,false)::(25,false)::(26,false)::(27,false)::(28,false)::(29,false)::(30,false)::(31,false)::(32,false)::(33,false)::(34,false)::(35,false)::(36,false)::(37,false)::(38,false)::(39,false)::(40,false)::(41,false)::(42,false)::(43,false)::[]) (by kernel_rfl) (by kernel_rfl) rfl (by kernel_rfl) (fun _ _ _ _ _ h=>h) ?_
   repeat(first|(refine zab _ rfl (by rfl) (fun W hW=>by go_simp;first|done|rfl) ?_;simp only[Act.put,zwe,zwg,zwf])|(refine zaw rfl (by rfl) ?_;simp only[Act.put,zwe,zwg,zwf]))
   refine zai ?_
   go_wp2
   go_ret
   exact⟨by rw[F.out];rfl,Ext.drew B3⟩
 by_cases e6:d<=ml y m
 rotate_left
 · have t5:decide (1<=d)=true:=by simpa using e5
   have t6:decide (d<=ml y m)=false:=by simpa using e6
   have F:Hid (okB ⟨y,m,d,h,i,s⟩=false):=zaB (by unfold D6.ok;simp only;omega)
   clear e5 e6
   go_enter Tryz.func192,Tryz.ntmps192
   go_wp2
   obtain⟨w3,HW3,B3⟩:∃w3,w3=w.alloc (.cells #[.int .i64 y,.int .i64 m,.int .i64 d,.int .i64 h,.int .i64 i,.int .i64 s] 147)/\ Below w.heap.size w w3:=⟨_,rfl,(Below.refl _ _).alloc (Nat.le_refl _) _⟩
   rw[<-HW3]
   obtain⟨k0,k1,k2,k3,k4,k5⟩:=zbF (show Blk w3 w.heap.size 147 (d6c y m d h i s)by rw[HW3];exact Blk.new w 147 _)
   clear HW3
   refine zaa Ext Ext.refl (fun _ _ _=>Ext.trans) ((0,false)::(1,false)::(2,false)::(3,false)::(4,false)::(5,false)::(6,false)::(7,false)::(8,false)::(9,false)::(10,true)::(11,false)::(12,false)::(13,false)::(14,false)::(15,false)::(16,false)::(17,false)::(18,false)::(19,false)::(20,false)::(21,false)::(22,false)::(23,false)::(24,false)::(25,false)::(26,false)::(27,false)::(28,false)::(29,false)::(30,false)::(31,false)::(32,false)::(33,false)::(34,false)::(35,false)::(36,false)::(37,false)::(38,false)::(39,false)::(40,false)::(41,false)::(42,false)::(43,false)::[]) (by kernel_rfl) (by kernel_rfl) rfl (by kernel_rfl) (fun _ _ _ _ _ h=>h) ?_
   repeat(refine zab _ rfl (by rfl) (fun W hW=>by go_simp;first|done|rfl) ?_;simp only[Act.put,zwe,zwg,zwf])
   refine zad rfl (by rfl) (fun K hK=> ?_)
   go_simp
   refine(zce y m _ (by omega) (by omega) (by omega) (by omega)).mono ?_
   rintro e w4 ⟨rfl,hb4⟩
   refine hK _ _ hb4 ?_
   clear hK K k0 k1 k2
   obtain⟨g3,g4,g5⟩:(∀W,Ext w4 W->W.cell? ⟨w.heap.size,3,none⟩=some (.int .i64 h))/\ (∀W,Ext w4 W->W.cell? ⟨w.heap.size,4,none⟩=some (.int .i64 i))/\ (∀W,Ext w4 W->W.cell? ⟨w.heap.size,5,none⟩=some (.int .i64 s)):=⟨fun W hW=>k3 W (Ext.trans hb4 hW),fun W hW=>k4 W (Ext.trans hb4 hW),fun W hW=>k5 W (Ext.trans hb4 hW)⟩
   clear k3 k4 k5
   repeat(first|(refine zab _ rfl (by rfl) (fun W hW=>by go_simp;first|done|rfl) ?_;simp only[Act.put,zwe,zwg,zwf])|(refine zaw rfl (by rfl) ?_;simp only[Act.put,zwe,zwg,zwf]))
   refine zai ?_
   go_wp2
   go_ret
   exact⟨by rw[F.out];rfl,Ext.trans B3 (Ext.of_drew hb4)⟩
 by_cases e7:0<=h
 rotate_left
 · have t5:decide (1<=d)=true:=by simpa using e5
   have t6:decide (d<=ml y m)=true:=by simpa using e6
   have t7:decide (0<=h)=false:=by simpa using e7
   have F:Hid (okB ⟨y,m,d,h,i,s⟩=false):=zaB (by unfold D6.ok;simp only;omega)
   clear e5 e6 e7
   go_enter Tryz.func192,Tryz.ntmps192
   go_wp2
   obtain⟨w3,HW3,B3⟩:∃w3,w3=w.alloc (.cells #[.int .i64 y,.int .i64 m,.int .i64 d,.int .i64 h,.int .i64 i,.int .i64 s] 147)/\ Below w.heap.size w w3:=⟨_,rfl,(Below.refl _ _).alloc (Nat.le_refl _) _⟩
   rw[<-HW3]
   obtain⟨k0,k1,k2,k3,k4,k5⟩:=zbF (show Blk w3 w.heap.size 147 (d6c y m d h i s)by rw[HW3];exact Blk.new w 147 _)
   clear HW3
   refine zaa Ext Ext.refl (fun _ _ _=>Ext.trans) ((0,false)::(1,false)::(2,false)::(3,false)::(4,false)::(5,false)::(6,false)::(7,false)::(8,false)::(9,false)::(10,true)::(11,false)::(12,false)::(13,false)::(14,false)::(15,false)::(16,false)::(17,false)::(18,false)::(19,false)::(20,false)::(21,false)::(22,false)::(23,false)::(24,false)::(25,false)::(26,false)::(27,false)::(28,false)::(29,false)::(30,false)::(31,false)::(32,false)::(33,false)::(34,false)::(35,false)::(36,false)::(37,false)::(38,false)::(39,false)::(40,false)::(41,false)::(42,false)::(43,false)::[]) (by kernel_rfl) (by kernel_rfl) rfl (by kernel_rfl) (fun _ _ _ _ _ h=>h) ?_
   repeat(refine zab _ rfl (by rfl) (fun W hW=>by go_simp;first|done|rfl) ?_;simp only[Act.put,zwe,zwg,zwf])
   refine zad rfl (by rfl) (fun K hK=> ?_)
   go_simp
   refine(zce y m _ (by omega) (by omega) (by omega) (by omega)).mono ?_
   rintro e w4 ⟨rfl,hb4⟩
   refine hK _ _ hb4 ?_
   clear hK K k0 k1 k2
   obtain⟨g3,g4,g5⟩:(∀W,Ext w4 W->W.cell? ⟨w.heap.size,3,none⟩=some (.int .i64 h))/\ (∀W,Ext w4 W->W.cell? ⟨w.heap.size,4,none⟩=some (.int .i64 i))/\ (∀W,Ext w4 W->W.cell? ⟨w.heap.size,5,none⟩=some (.int .i64 s)):=⟨fun W hW=>k3 W (Ext.trans hb4 hW),fun W hW=>k4 W (Ext.trans hb4 hW),fun W hW=>k5 W (Ext.trans hb4 hW)⟩
   clear k3 k4 k5
   repeat(first|(refine zab _ rfl (by rfl) (fun W hW=>by go_simp;first|done|rfl) ?_;simp only[Act.put,zwe,zwg,zwf])|(refine zaw rfl (by rfl) ?_;simp only[Act.put,zwe,zwg,zwf]))
   refine zai ?_
   go_wp2
   go_ret
   exact⟨by rw[F.out];rfl,Ext.trans B3 (Ext.of_drew hb4)⟩
 by_cases e8:h<24
 rotate_left
 · have t5:decide (1<=d)=true:=by simpa using e5
   have t6:decide (d<=ml y m)=true:=by simpa using e6
   have t7:decide (0<=h)=true:=by simpa using e7
   have t8:decide (h<24)=false:=by simpa using e8
   have F:Hid (okB ⟨y,m,d,h,i,s⟩=false):=zaB (by unfold D6.ok;simp only;omega)
   clear e5 e6 e7 e8
   go_enter Tryz.func192,Tryz.ntmps192
   go_wp2
   obtain⟨w3,HW3,B3⟩:∃w3,w3=w.alloc (.cells #[.int .i64 y,.int .i64 m,.int .i64 d,.int .i64 h,.int .i64 i,.int .i64 s] 147)/\ Below w.heap.size w w3:=⟨_,rfl,(Below.refl _ _).alloc (Nat.le_refl _) _⟩
   rw[<-HW3]
   obtain⟨k0,k1,k2,k3,k4,k5⟩:=zbF (show Blk w3 w.heap.size 147 (d6c y m d h i s)by rw[HW3];exact Blk.new w 147 _)
   clear HW3
   refine zaa Ext Ext.refl (fun _ _ _=>Ext.trans) ((0,false)::(1,false)::(2,false)::(3,false)::(4,false)::(5,false)::(6,false)::(7,false)::(8,false)::(9,false)::(10,true)::(11,false)::(12,false)::(13,false)::(14,false)::(15,false)::(16,false)::(17,false)::(18,false)::(19,false)::(20,false)::(21,false)::(22,false)::(23,false)::(24,false)::(25,false)::(26,false)::(27,false)::(28,false)::(29,false)::(30,false)::(31,false)::(32,false)::(33,false)::(34,false)::(35,false)::(36,false)::(37,false)::(38,false)::(39,false)::(40,false)::(41,false)::(42,false)::(43,false)::[]) (by kernel_rfl) (by kernel_rfl) rfl (by kernel_rfl) (fun _ _ _ _ _ h=>h) ?_
   repeat(refine zab _ rfl (by rfl) (fun W hW=>by go_simp;first|done|rfl) ?_;simp only[Act.put,zwe,zwg,zwf])
   refine zad rfl (by rfl) (fun K hK=> ?_)
   go_simp
   refine(zce y m _ (by omega) (by omega) (by omega) (by omega)).mono ?_
   rintro e w4 ⟨rfl,hb4⟩
   refine hK _ _ hb4 ?_
   clear hK K k0 k1 k2
   obtain⟨g3,g4,g5⟩:(∀W,Ext w4 W->W.cell? ⟨w.heap.size,3,none⟩=some (.int .i64 h))/\ (∀W,Ext w4 W->W.cell? ⟨w.heap.size,4,none⟩=some (.int .i64 i))/\ (∀W,Ext w4 W->W.cell? ⟨w.heap.size,5,none⟩=some (.int .i64 s)):=⟨fun W hW=>k3 W (Ext.trans hb4 hW),fun W hW=>k4 W (Ext.trans hb4 hW),fun W hW=>k5 W (Ext.trans hb4 hW)⟩
   clear k3 k4 k5
   repeat(first|(refine zab _ rfl (by rfl) (fun W hW=>by go_simp;first|done|rfl) ?_;simp only[Act.put,zwe,zwg,zwf])|(refine zaw rfl (by rfl) ?_;simp only[Act.put,zwe,zwg,zwf]))
   refine zai ?_
   go_wp2
   go_ret
   exact⟨by rw[F.out];rfl,Ext.trans B3 (Ext.of_drew hb4)⟩
 by_cases e9:0<=i
 rotate_left
 · have t5:decide (1<=d)=true:=by simpa using e5
   have t6:decide (d<=ml y m)=true:=by simpa using e6
   have t7:decide (0<=h)=true:=by simpa using e7
   have t8:decide (h<24)=true:=by simpa using e8
   have t9:decide (0<=i)=false:=by simpa using e9
   have F:Hid (okB ⟨y,m,d,h,i,s⟩=false):=zaB (by unfold D6.ok;simp only;omega)
   clear e5 e6 e7 e8 e9
   go_enter Tryz.func192,Tryz.ntmps192
   go_wp2
   obtain⟨w3,HW3,B3⟩:∃w3,w3=w.alloc (.cells #[.int .i64 y,.int .i64 m,.int .i64 d,.int .i64 h,.int .i64 i,.int .i64 s] 147)/\ Below w.heap.size w w3:=⟨_,rfl,(Below.refl _ _).alloc (Nat.le_refl _) _⟩
   rw[<-HW3]
   obtain⟨k0,k1,k2,k3,k4,k5⟩:=zbF (show Blk w3 w.heap.size 147 (d6c y m d h i s)by rw[HW3];exact Blk.new w 147 _)
   clear HW3
   refine zaa Ext Ext.refl (fun _ _ _=>Ext.trans) ((0,false)::(1,false)::(2,false)::(3,false)::(4,false)::(5,false)::(6,false)::(7,false)::(8,false)::(9,false)::(10,true)::(11,false)::(12,false)::(13,false)::(14,false)::(15,false)::(16,false)::(17,false)::(18,false)::(19,false)::(20,false)::(21,false)::(22,false)::(23,false)::(24,false)::(25,false)::(26,false)::(27,false)::(28,false)::(29,false)::(30,false)::(31,false)::(32,false)::(33,false)::(34,false)::(35,false)::(36,false)::(37,false)::(38,false)::(39,false)::(40,false)::(41,false)::(42,false)::(43,false)::[]) (by kernel_rfl) (by kernel_rfl) rfl (by kernel_rfl) (fun _ _ _ _ _ h=>h) ?_
   repeat(refine zab _ rfl (by rfl) (fun W hW=>by go_simp;first|done|rfl) ?_;simp only[Act.put,zwe,zwg,zwf])
   refine zad rfl (by rfl) (fun K hK=> ?_)
   go_simp
   refine(zce y m _ (by omega) (by omega) (by omega) (by omega)).mono ?_
   rintro e w4 ⟨rfl,hb4⟩
   refine hK _ _ hb4 ?_
   clear hK K k0 k1 k2
   obtain⟨g3,g4,g5⟩:(∀W,Ext w4 W->W.cell? ⟨w.heap.size,3,none⟩=some (.int .i64 h))/\ (∀W,Ext w4 W->W.cell? ⟨w.heap.size,4,none⟩=some (.int .i64 i))/\ (∀W,Ext w4 W->W.cell? ⟨w.heap.size,5,none⟩=some (.int .i64 s)):=⟨fun W hW=>k3 W (Ext.trans hb4 hW),fun W hW=>k4 W (Ext.trans hb4 hW),fun W hW=>k5 W (Ext.trans hb4 hW)⟩
   clear k3 k4 k5
   repeat(first|(refine zab _ rfl (by rfl) (fun W hW=>by go_simp;first|done|rfl) ?_;simp only[Act.put,zwe,zwg,zwf])|(refine zaw rfl (by rfl) ?_;simp only[Act.put,zwe,zwg,zwf]))
   refine zai ?_
   go_wp2
   go_ret
   exact⟨by rw[F.out];rfl,Ext.trans B3 (Ext.of_drew hb4)⟩
 by_cases e10:i<60
 rotate_left
 · have t5:decide (1<=d)=true:=by simpa using e5
   have t6:decide (d<=ml y m)=true:=by simpa using e6
   have t7:decide (0<=h)=true:=by simpa using e7
   have t8:decide (h<24)=true:=by simpa using e8
   have t9:decide (0<=i)=true:=by simpa using e9
   have t10:decide (i<60)=false:=by simpa using e10
   have F:Hid (okB ⟨y,m,d,h,i,s⟩=false):=zaB (by unfold D6.ok;simp only;omega)
   clear e5 e6 e7 e8 e9 e10
   go_enter Tryz.func192,Tryz.ntmps192
   go_wp2
   obtain⟨w3,HW3,B3⟩:∃w3,w3=w.alloc (.cells #[.int .i64 y,.int .i64 m,.int .i64 d,.int .i64 h,.int .i64 i,.int .i64 s] 147)/\ Below w.heap.size w w3:=⟨_,rfl,(Below.refl _ _).alloc (Nat.le_refl _) _⟩
   rw[<-HW3]
   obtain⟨k0,k1,k2,k3,k4,k5⟩:=zbF (show Blk w3 w.heap.size 147 (d6c y m d h i s)by rw[HW3];exact Blk.new w 147 _)
   clear HW3
   refine zaa Ext Ext.refl (fun _ _ _=>Ext.trans) ((0,false)::(1,false)::(2,false)::(3,false)::(4,false)::(5,false)::(6,false)::(7,false)::(8,false)::(9,false)::(10,true)::(11,false)::(12,false)::(13,false)::(14,false)::(15,false)::(16,false)::(17,false)::(18,false)::(19,false)::(20,false)::(21,false)::(22,false)::(23,false)::(24,false)::(25,false)::(26,false)::(27,false)::(28,false)::(29,false)::(30,false)::(31,false)::(32,false)::(33,false)::(34,false)::(35,false)::(36,false)::(37,false)::(38,false)::(39,false)::(40,false)::(41,false)::(42,false)::(43,false)::[]) (by kernel_rfl) (by kernel_rfl) rfl (by kernel_rfl) (fun _ _ _ _ _ h=>h) ?_
   repeat(refine zab _ rfl (by rfl) (fun W hW=>by go_simp;first|done|rfl) ?_;simp only[Act.put,zwe,zwg,zwf])
   refine zad rfl (by rfl) (fun K hK=> ?_)
   go_simp
   refine(zce y m _ (by omega) (by omega) (by omega) (by omega)).mono ?_
   rintro e w4 ⟨rfl,hb4⟩
   refine hK _ _ hb4 ?_
   clear hK K k0 k1 k2
   obtain⟨g3,g4,g5⟩:(∀W,Ext w4 W->W.cell? ⟨w.heap.size,3,none⟩=some (.int .i64 h))/\ (∀W,Ext w4 W->W.cell? ⟨w.heap.size,4,none⟩=some (.int .i64 i))/\ (∀W,Ext w4 W->W.cell? ⟨w.heap.size,5,none⟩=some (.int .i64 s)):=⟨fun W hW=>k3 W (Ext.trans hb4 hW),fun W hW=>k4 W (Ext.trans hb4 hW),fun W hW=>k5 W (Ext.trans hb4 hW)⟩
   clear k3 k4 k5
   repeat(first|(refine zab _ rfl (by rfl) (fun W hW=>by go_simp;first|done|rfl) ?_;simp only[Act.put,zwe,zwg,zwf])|(refine zaw rfl (by rfl) ?_;simp only[Act.put,zwe,zwg,zwf]))
   refine zai ?_
   go_wp2
   go_ret
   exact⟨by rw[F.out];rfl,Ext.trans B3 (Ext.of_drew hb4)⟩
 by_cases e11:0<=s
 rotate_left
 · have t5:decide (1<=d)=true:=by simpa using e5
   have t6:decide (d<=ml y m)=true:=by simpa using e6
   have t7:decide (0<=h)=true:=by simpa using e7
   have t8:decide (h<24)=true:=by simpa using e8
   have t9:decide (0<=i)=true:=by simpa using e9
   have t10:decide (i<60)=true:=by simpa using e10
   have t11:decide (0<=s)=false:=by simpa using e11
   have F:Hid (okB ⟨y,m,d,h,i,s⟩=false):=zaB (by unfold D6.ok;simp only;omega)
   clear e5 e6 e7 e8 e9 e10 e11
   go_enter Tryz.func192,Tryz.ntmps192
   go_wp2
   obtain⟨w3,HW3,B3⟩:∃w3,w3=w.alloc (.cells #[.int .i64 y,.int .i64 m,.int .i64 d,.int .i64 h,.int .i64 i,.int .i64 s] 147)/\ Below w.heap.size w w3:=⟨_,rfl,(Below.refl _ _).alloc (Nat.le_refl _) _⟩
   rw[<-HW3]
   obtain⟨k0,k1,k2,k3,k4,k5⟩:=zbF (show Blk w3 w.heap.size 147 (d6c y m d h i s)by rw[HW3];exact Blk.new w 147 _)
   clear HW3
   refine zaa Ext Ext.refl (fun _ _ _=>Ext.trans) ((0,false)::(1,false)::(2,false)::(3,false)::(4,false)::(5,false)::(6,false)::(7,false)::(8,false)::(9,false)::(10,true)::(11,false)::(12,false)::(13,false)::(14,false)::(15,false)::(16,false)::(17,false)::(18,false)::(19,false)::(20,false)::(21,false)::(22,false)::(23,false)::(24,false)::(25,false)::(26,false)::(27,false)::(28,false)::(29,false)::(30,false)::(31,false)::(32,false)::(33,false)::(34,false)::(35,false)::(36,false)::(37,false)::(38,false)::(39,false)::(40,false)::(41,false)::(42,false)::(43,false)::[]) (by kernel_rfl) (by kernel_rfl) rfl (by kernel_rfl) (fun _ _ _ _ _ h=>h) ?_
   repeat(refine zab _ rfl (by rfl) (fun W hW=>by go_simp;first|done|rfl) ?_;simp only[Act.put,zwe,zwg,zwf])
   refine zad rfl (by rfl) (fun K hK=> ?_)
   go_simp
   refine(zce y m _ (by omega) (by omega) (by omega) (by omega)).mono ?_
   rintro e w4 ⟨rfl,hb4⟩
   refine hK _ _ hb4 ?_
   clear hK K k0 k1 k2
   obtain⟨g3,g4,g5⟩:(∀W,Ext w4 W->W.cell? ⟨w.heap.size,3,none⟩=some (.int .i64 h))/\ (∀W,Ext w4 W->W.cell? ⟨w.heap.size,4,none⟩=some (.int .i64 i))/\ (∀W,Ext w4 W->W.cell? ⟨w.heap.size,5,none⟩=some (.int .i64 s)):=⟨fun W hW=>k3 W (Ext.trans hb4 hW),fun W hW=>k4 W (Ext.trans hb4 hW),fun W hW=>k5 W (Ext.trans hb4 hW)⟩
   clear k3 k4 k5
   repeat(first|(refine zab _ rfl (by rfl) (fun W hW=>by go_simp;first|done|rfl) ?_;simp only[Act.put,zwe,zwg,zwf])|(refine zaw rfl (by rfl) ?_;simp only[Act.put,zwe,zwg,zwf]))
   refine zai ?_
   go_wp2
   go_ret
   exact⟨by rw[F.out];rfl,Ext.trans B3 (Ext.of_drew hb4)⟩
 by_cases e12:s<60
 rotate_left
 · have t5:decide (1<=d)=true:=by simpa using e5
   have t6:decide (d<=ml y m)=true:=by simpa using e6
   have t7:decide (0<=h)=true:=by simpa using e7
   have t8:decide (h<24)=true:=by simpa using e8
   have t9:decide (0<=i)=true:=by simpa using e9
   have t10:decide (i<60)=true:=by simpa using e10
   have t11:decide (0<=s)=true:=by simpa using e11
   have t12:decide (s<60)=false:=by simpa using e12
   have F:Hid (okB ⟨y,m,d,h,i,s⟩=false):=zaB (by unfold D6.ok;simp only;omega)
   clear e5 e6 e7 e8 e9 e10 e11 e12
   go_enter Tryz.func192,Tryz.ntmps192
   go_wp2
   obtain⟨w3,HW3,B3⟩:∃w3,w3=w.alloc (.cells #[.int .i64 y,.int .i64 m,.int .i64 d,.int .i64 h,.int .i64 i,.int .i64 s] 147)/\ Below w.heap.size w w3:=⟨_,rfl,(Below.refl _ _).alloc (Nat.le_refl _) _⟩
   rw[<-HW3]
   obtain⟨k0,k1,k2,k3,k4,k5⟩:=zbF (show Blk w3 w.heap.size 147 (d6c y m d h i s)by rw[HW3];exact Blk.new w 147 _)
   clear HW3
   refine zaa Ext Ext.refl (fun _ _ _=>Ext.trans) ((0,false)::(1,false)::(2,false)::(3,false)::(4,false)::(5,false)::(6,false)::(7,false)::(8,false)::(9,false)::(10,true)::(11,false)::(12,false)::(13,false)::(14,false)::(15,false)::(16,false)::(17,false)::(18,false)::(19,false)::(20,false)::(21,false)::(22,false)::(23,false)::(24,false)::(25,false)::(26,false)::(27,false)::(28,false)::(29,false)::(30,false)::(31,false)::(32,false)::(33,false)::(34,false)::(35,false)::(36,false)::(37,false)::(38,false)::(39,false)::(40,false)::(41,false)::(42,false)::(43,false)::[]) (by kernel_rfl) (by kernel_rfl) rfl (by kernel_rfl) (fun _ _ _ _ _ h=>h) ?_
   repeat(refine zab _ rfl (by rfl) (fun W hW=>by go_simp;first|done|rfl) ?_;simp only[Act.put,zwe,zwg,zwf])
   refine zad rfl (by rfl) (fun K hK=> ?_)
   go_simp
   refine(zce y m _ (by omega) (by omega) (by omega) (by omega)).mono ?_
   rintro e w4 ⟨rfl,hb4⟩
   refine hK _ _ hb4 ?_
   clear hK K k0 k1 k2
   obtain⟨g3,g4,g5⟩:(∀W,Ext w4 W->W.cell? ⟨w.heap.size,3,none⟩=some (.int .i64 h))/\ (∀W,Ext w4 W->W.cell? ⟨w.heap.size,4,none⟩=some (.int .i64 i))/\ (∀W,Ext w4 W->W.cell? ⟨w.heap.size,5,none⟩=some (.int .i64 s)):=⟨fun W hW=>k3 W (Ext.trans hb4 hW),fun W hW=>k4 W (Ext.trans hb4 hW),fun W hW=>k5 W (Ext.trans hb4 hW)⟩
   clear k3 k4 k5
   repeat(first|(refine zab _ rfl (by rfl) (fun W hW=>by go_simp;first|done|rfl) ?_;simp only[Act.put,zwe,zwg,zwf])|(refine zaw rfl (by rfl) ?_;simp only[Act.put,zwe,zwg,zwf]))
   refine zai ?_
   go_wp2
   go_ret
   exact⟨by rw[F.out];rfl,Ext.trans B3 (Ext.of_drew hb4)⟩
 have t5:decide (1<=d)=true:=by simpa using e5
 have t6:decide (d<=ml y m)=true:=by simpa using e6
 have t7:decide (0<=h)=true:=by simpa using e7
 have t8:decide (h<24)=true:=by simpa using e8
 have t9:decide (0<=i)=true:=by simpa using e9
 have t10:decide (i<60)=true:=by simpa using e10
 have t11:decide (0<=s)=true:=by simpa using e11
 have t12:decide (s<60)=true:=by simpa using e12
 have F:Hid (okB ⟨y,m,d,h,i,s⟩=true):=okB_true (by unfold D6.ok;simp only;omega)
 clear e5 e6 e7 e8 e9 e10 e11 e12
 go_enter Tryz.func192,Tryz.ntmps192
 go_wp2
 obtain⟨w3,HW3,B3⟩:∃w3,w3=w.alloc (.cells #[.int .i64 y,.int .i64 m,.int .i64 d,.int .i64 h,.int .i64 i,.int .i64 s] 147)/\ Below w.heap.size w w3:=⟨_,rfl,(Below.refl _ _).alloc (Nat.le_refl _) _⟩
 rw[<-HW3]
 obtain⟨k0,k1,k2,k3,k4,k5⟩:=zbF (show Blk w3 w.heap.size 147 (d6c y m d h i s)by rw[HW3];exact Blk.new w 147 _)
 clear HW3
 refine zaa Ext Ext.refl (fun _ _ _=>Ext.trans) ((0,false)::(1,false)::(2,false)::(3,false)::(4,false)::(5,false)::(6,false)::(7,false)::(8,false)::(9,false)::(10,true)::(11,false)::(12,false)::(13,false)::(14,false)::(15,false)::(16,false)::(17,false)::(18,false)::(19,false)::(20,false)::(21,false)::(22,false)::(23,false)::(24,false)::(25,false)::(26,false)::(27,false)::(28,false)::(29,false)::(30,false)::(31,false)::(32,false)::(33,false)::(34,false)::(35,false)::(36,false)::(37,false)::(38,false)::(39,false)::(40,false)::(41,false)::(42,false)::(43,false)::[]) (by kernel_rfl) (by kernel_rfl) rfl (by kernel_rfl) (fun _ _ _ _ _ h=>h) ?_
 repeat(refine zab _ rfl (by rfl) (fun W hW=>by go_simp;first|done|rfl) ?_;simp only[Act.put,zwe,zwg,zwf])
 refine zad rfl (by rfl) (fun K hK=> ?_)
 go_simp
 refine(zce y m _ (by omega) (by omega) (by omega) (by omega)).mono ?_
 rintro e w4 ⟨rfl,hb4⟩
 refine hK _ _ hb4 ?_
 clear hK K k0 k1 k2
 obtain⟨g3,g4,g5⟩:(∀W,Ext w4 W->W.cell? ⟨w.heap.size,3,none⟩=some (.int .i64 h))/\ (∀W,Ext w4 W->W.cell? ⟨w.heap.size,4,none⟩=some (.int .i64 i))/\ (∀W,Ext w4 W->W.cell? ⟨w.heap.size,5,none⟩=some (.int .i64 s)):=⟨fun W hW=>k3 W (Ext.trans hb4 hW),fun W hW=>k4 W (Ext.trans hb4 hW),fun W hW=>k5 W (Ext.trans hb4 hW)⟩
 clear k3 k4 k5
 repeat(first|(refine zab _ rfl (by rfl) (fun W hW=>by go_simp;first|done|rfl) ?_;simp only[Act.put,zwe,zwg,zwf])|(refine zaw rfl (by rfl) ?_;simp only[Act.put,zwe,zwg,zwf]))
 refine zai ?_
 go_wp2
 go_ret
 exact⟨by rw[F.out];rfl,Ext.trans B3 (Ext.of_drew hb4)⟩
theorem zcr (y:Int) (w:World) (hy1:1950<=y) (hy2:y<=2200):Calls Tryz.prog 178 #[.int .i64 y,.int .i64 1,.int .i64 1] w fun e w'=>e= .returned (.int .i64 (dby y-711857))/\ Below w.heap.size w w':=
 (zhs y 1 1 w hy1 hy2 (by omega) (by omega) (by omega) (by omega)).mono fun _ _ ⟨he,hb⟩=>⟨by rw[he,zcQ];exact zbw (by omega),hb⟩
def Kept (w wr:World):Prop:=Blk wr w.heap.size 147 (d6c 0 0 0 0 0 0)/\ Below w.heap.size w wr
theorem Kept.below {w wr w':World} (h:Kept w wr) (hb:Below wr.heap.size wr w'):Kept w w':=⟨h.1.below hb h.1.lt,h.2.trans (hb.mono h.2.size)⟩
theorem zkJ {n t s y m d:Int} (h:zl2 n y m d) (h0:0<=t) (h1:t<86400) (hs:s=(n-7305)*86400+t):IsDate s ⟨y,m,d,t/3600,t/60%60,t%60⟩:=by
 have:=zhn h h0 h1 hs
 rw[show t%3600/60=t/60%60 by omega]at this
 exact this
theorem zkK (s:Int) (w:World):Calls Tryz.prog 126 #[.int .i64 s] w (zkA w s):=by
 have K0:=zwd (Blk.new w 147 (d6c 0 0 0 0 0 0))
 have KB:=zwd ((Below.refl w.heap.size w).alloc (Nat.le_refl _) (.cells (d6c 0 0 0 0 0 0) 147))
 simp only[d6c]at K0 KB
 by_cases hlo:s< -631152000
 · have t1:decide (s< -631152000)=true:=by simpa using hlo
   go_enter Tryz.func126,Tryz.ntmps126
   go_wp2_with fail
   refine(zcr 1970 _ (by omega) (by omega)).mono ?_
   rintro e w1 ⟨rfl,hb1⟩
   rw[zcd]
   have KP:Hid (Kept w w1):=zwd ⟨K0.out.below hb1 (by simp),Below.step KB.out hb1⟩
   clear hb1 K0 KB
   go_wp2_with (refine wpList_store_rowTo rfl 147 (.tmp 2) (.tmp 19) rfl rfl w.heap.size (d6c 0 0 0 0 0 0) rfl rfl 147 (d6c 0 0 0 0 0 0) KP.out.1 (Tryz.size22 ..) rfl (zhm ..) ?_)
   exact bodyPost_ret (zcp rfl _ _ w.heap.size 147 (d6c 0 0 0 0 0 0) (0,0) (.array 6 3) rfl (setRow_heap _ _ _ _ 147 _ KP.out.1) Tryz.underlying147 rfl (Tryz.size22 ..)) rfl ⟨ze5,false,.inr ⟨rfl,rfl,.inl hlo⟩,rfl,below_setRow KP.out.2 (Nat.le_refl _) _⟩
 · have t1:decide (s< -631152000)=false:=by simpa using hlo
   by_cases hhi:7258118399<s
   · have t2:decide (7258118399<s)=true:=by simpa using hhi
     go_enter Tryz.func126,Tryz.ntmps126
     go_wp2_with fail
     refine(zcr 1970 _ (by omega) (by omega)).mono ?_
     rintro e w1 ⟨rfl,hb1⟩
     rw[zcd]
     have KP:Hid (Kept w w1):=zwd ⟨K0.out.below hb1 (by simp),Below.step KB.out hb1⟩
     clear hb1 K0 KB
     go_wp2_with (refine wpList_store_rowTo rfl 147 (.tmp 2) (.tmp 19) rfl rfl w.heap.size (d6c 0 0 0 0 0 0) rfl rfl 147 (d6c 0 0 0 0 0 0) KP.out.1 (Tryz.size22 ..) rfl (zhm ..) ?_)
     exact bodyPost_ret (zcp rfl _ _ w.heap.size 147 (d6c 0 0 0 0 0 0) (0,0) (.array 6 3) rfl (setRow_heap _ _ _ _ 147 _ KP.out.1) Tryz.underlying147 rfl (Tryz.size22 ..)) rfl ⟨ze5,false,.inr ⟨rfl,rfl,.inr hhi⟩,rfl,below_setRow KP.out.2 (Nat.le_refl _) _⟩
   · have t2:decide (7258118399<s)=false:=by simpa using hhi
     have hp0:0<=s+631152000:=by omega
     have hp1:s+631152000<7889270400:=by omega
     go_enter Tryz.func126,Tryz.ntmps126
     go_wp2_with fail
     refine(zcr 1970 _ (by omega) (by omega)).mono ?_
     rintro e w1 ⟨rfl,hb1⟩
     rw[zcd]
     have KP:Hid (Kept w w1):=zwd ⟨K0.out.below hb1 (by simp),Below.step KB.out hb1⟩
     clear hb1 K0 KB
     go_wp2
     have hn0:0<=(s+631152000)/86400:=by omega
     have hn1:(s+631152000)/86400<=91310:=by omega
     have ht0:0<=(s+631152000)%86400:=by omega
     have ht1:(s+631152000)%86400<86400:=by omega
     have HS:Hid (s=((s+631152000)/86400-7305)*86400+(s+631152000)%86400):=zwd (by omega)
     clear t1 t2 hlo hhi hp0 hp1
     generalize(s+631152000)/86400=n at hn0 hn1 HS⊢
     generalize(s+631152000)%86400=t at ht0 ht1 HS⊢
     go_loopw [5,7] (fun a k wr=>∃y:Int,1950<=y/\ y<=2199/\ dby y-711857<=n/\ k= .int .i64 y/\ a= .int .i64 (n-(dby y-711857))/\ Kept w wr) (fun a _ _=>(intOf a).toNat)
     case atStart=>exact⟨1950,by omega,by omega,by rw[zbY];omega,rfl,by rw[zbY];simp,KP.out⟩
     case round=>
      obtain⟨y,hy1,hy2,hy3,rfl,rfl,hk⟩:=hrel
      have KR:=zwd hk
      clear hk KP
      have dm:=zcc hy1
      rw[zbY]at dm
      have dm':=zcc (show y<=2200 by omega)
      rw[zcW]at dm'
      have DS:=zwd (zfs y)
      have dl:=zoj y
      by_cases hge:365+lp y<=n-(dby y-711857)
      · have hy':y+1<=2199:=by
         rcases(show y<2199 \/2199<=y by omega)with h|h
         · omega
         · have:=zcc (show 2200<=y+1 by omega)
           rw[zcW,DS.out]at this
           omega
        have e1:dby y+365+lp y-711857-(dby y-711857)=365+lp y:=by omega
        go_wp2_with fail
        refine(zcr (y+1) _ (by omega) (by omega)).mono ?_
        rintro e wA ⟨rfl,hbA⟩
        have KA:=zwd (KR.out.below hbA)
        clear hbA
        go_wp2_with fail
        refine(zcr y _ (by omega) (by omega)).mono ?_
        rintro e wB ⟨rfl,hbB⟩
        have KQ:=zwd (KA.out.below hbB)
        clear hbB KA
        rw[DS.out]
        go_wp2_with fail
        refine(zcr (y+1) _ (by omega) (by omega)).mono ?_
        rintro e wA ⟨rfl,hbA⟩
        have KA:=zwd (KQ.out.below hbA)
        clear hbA
        go_wp2_with fail
        refine(zcr y _ (by omega) (by omega)).mono ?_
        rintro e wB ⟨rfl,hbB⟩
        have KS:=zwd (KA.out.below hbB)
        clear hbB KA KQ
        rw[DS.out]
        go_wp2
        go_roundw
        case rel=>exact⟨y+1,by omega,hy',by rw[DS.out];omega,rfl,by rw[DS.out];go_num,KS.out⟩
        case measure=>simp[intOf];omega
      · have hlt:n-(dby y-711857)<365+lp y:=by omega
        have e1:dby y+365+lp y-711857-(dby y-711857)=365+lp y:=by omega
        go_wp2_with fail
        refine(zcr (y+1) _ (by omega) (by omega)).mono ?_
        rintro e wA ⟨rfl,hbA⟩
        have KA:=zwd (KR.out.below hbA)
        clear hbA
        go_wp2_with fail
        refine(zcr y _ (by omega) (by omega)).mono ?_
        rintro e wB ⟨rfl,hbB⟩
        have KQ:=zwd (KA.out.below hbB)
        clear hbB KA
        rw[DS.out]
        go_wp2
        obtain⟨r,HR⟩:∃r,r=n-(dby y-711857):=⟨_,rfl⟩
        rw[<-HR]
        have hr0:0<=r:=by omega
        have hr1:r<365+lp y:=by omega
        have HRH:=zwd HR
        clear HR hge hlt e1
        go_loopw [5,8] (fun a k wr=>∃m:Int,1<=m/\ m<=12/\ cum y m<=r/\ k= .int .i64 m/\ a= .int .i64 (r-cum y m)/\ Kept w wr) (fun a _ _=>(intOf a).toNat)
        case atStart=>exact⟨1,by omega,by omega,by rw[zcQ];omega,rfl,by rw[zcQ];simp,KQ.out⟩
        case round=>
         obtain⟨m,hm1,hm2,hm3,rfl,rfl,hk⟩:=hrel
         have KM:=zwd hk
         clear hk KQ KR
         have c0:=zcX (y:=y) hm1
         rw[zcQ]at c0
         have mr:=zd5 y m
         have CS:=zwd (zeD y m hm1 hm2)
         by_cases hge':ml y m<=r-cum y m
         · have hm':m<=11:=by
            rcases(show m<=11 \/m=12 by omega)with h|h
            · exact h
            · have e:=CS.out
              rw[h,show(12:Int)+1=13 from rfl,zhk]at e
              rw[h]at hge'
              omega
           go_wp2_with fail
           refine(zce y m _ (by omega) (by omega) hm1 hm2).mono ?_
           rintro e wA ⟨rfl,hbA⟩
           have KA:=zwd (KM.out.below hbA)
           clear hbA
           go_wp2_with fail
           refine(zce y m _ (by omega) (by omega) hm1 hm2).mono ?_
           rintro e wB ⟨rfl,hbB⟩
           have KC:=zwd (KA.out.below hbB)
           clear hbB KA
           go_wp2
           go_roundw
           case rel=>exact⟨m+1,by omega,by omega,by rw[CS.out];omega,rfl,by rw[CS.out];go_num,KC.out⟩
           case measure=>simp[intOf];omega
         · have hlt':r-cum y m<ml y m:=by omega
           go_wp2_with fail
           refine(zce y m _ (by omega) (by omega) hm1 hm2).mono ?_
           rintro e wA ⟨rfl,hbA⟩
           have KA:=zwd (KM.out.below hbA)
           clear hbA
           have ID:Hid (zl2 n y m (r-cum y m+1)):=by have:=HRH.out;unfold Hid zl2;omega
           have DD:=zwd (zkJ ID.out ht0 ht1 HS.out)
           have KA1:Hid (wA.heap[w.heap.size]?=some (.cells (d6c 0 0 0 0 0 0) 147 (0,0))):=KA.out.1
           go_wp2_with (refine wpList_store_rowTo rfl 147 (.tmp 2) (.tmp 69) rfl rfl w.heap.size (d6c y m (r-cum y m+1) (t/3600) (t/60%60) (t%60)) rfl rfl 147 (d6c 0 0 0 0 0 0) KA1.out (Tryz.size22 ..) rfl (zhm ..) ?_)
           exact bodyPost_ret (zcp rfl _ _ w.heap.size 147 (d6c y m (r-cum y m+1) (t/3600) (t/60%60) (t%60)) (0,0) (.array 6 3) rfl (setRow_heap _ _ _ _ 147 _ KA1.out) Tryz.underlying147 rfl (Tryz.size22 ..)) rfl ⟨_,true,.inl ⟨rfl,DD.out⟩,rfl,below_setRow KA.out.2 (Nat.le_refl _) _⟩
theorem zsW (n:Int):digs 2 n=[48+n/10%10,48+n%10]:=by simp[digs]
theorem zec (n:Int) (w:World) (h0:0<=n) (h1:n<=100000):Calls Tryz.prog 127 #[.int .i64 n] w fun e w'=>e= .returned (.string (strOfNums (digs 2 n)))/\ Below w.heap.size w w':=by
 have kc:(convert 26 9 (.slice (some ⟨w.heap.size,0,none⟩) 2 2)).run Tryz.prog (w.alloc (.cells #[.int .u8 (48+n/10%10),.int .u8 (48+n%10)] 5))= .ok (.string (strOfNums (digs 2 n))) (w.alloc (.cells #[.int .u8 (48+n/10%10),.int .u8 (48+n%10)] 5)):=by
  rw[zsW]
  exact zbx 2 (zaY w [48+n/10%10,48+n%10] (0,0) (by simp;omega))
 have b0:0<=n/10%10:=by omega
 have b1:n/10%10<10:=by omega
 have b2:0<=n%10:=by omega
 have b3:n%10<10:=by omega
 go_enter Tryz.func127,Tryz.ntmps127
 go_wp2
 go_ret
 exact⟨rfl,(Below.refl _ _).alloc (Nat.le_refl _) _⟩
def D6.behind (a:D6):List Int:=digs 2 a.m++digs 2 a.d++digs 2 a.h++digs 2 a.i++digs 2 a.s++[90]
theorem zvZ:strOfNums [90]=⟨#[90]⟩:=by kernel_rfl
theorem size2 (n:Int):(strOfNums (digs 2 n)).size=2:=by rw[strOfNums_size,digs_length]
theorem ziJ (y m d h i s:Int) (w:World) (hok:(⟨y,m,d,h,i,s⟩:D6).ok):Calls Tryz.prog 128 #[.agg #[.int .i64 y,.int .i64 m,.int .i64 d,.int .i64 h,.int .i64 i,.int .i64 s]] w fun e w'=>e= .returned (.string (strOfNums (⟨y,m,d,h,i,s⟩:D6).behind))/\ Below w.heap.size w w':=by
 obtain⟨h1,h2,h3,h4,h5,h6,h7,h8,h9,h10,h11,h12⟩:=hok
 simp only at h1 h2 h3 h4 h5 h6 h7 h8 h9 h10 h11 h12
 have hl:=zd5 y m
 have HE:Hid (strOfNums (⟨y,m,d,h,i,s⟩:D6).behind=strOfNums (digs 2 m)++strOfNums (digs 2 d)++strOfNums (digs 2 h)++strOfNums (digs 2 i)++strOfNums (digs 2 s)++⟨#[90]⟩):=by
  unfold Hid D6.behind
  simp only[zey,zvZ]
 have z1:=size2 m
 have z2:=size2 d
 have z3:=size2 h
 have z4:=size2 i
 have z5:=size2 s
 have T1:=zwd (fun W=>zec m W (by omega) (by omega))
 have T2:=zwd (fun W=>zec d W (by omega) (by omega))
 have T3:=zwd (fun W=>zec h W (by omega) (by omega))
 have T4:=zwd (fun W=>zec i W (by omega) (by omega))
 have T5:=zwd (fun W=>zec s W (by omega) (by omega))
 generalize strOfNums (digs 2 m)=S1 at HE z1 T1
 generalize strOfNums (digs 2 d)=S2 at HE z2 T2
 generalize strOfNums (digs 2 h)=S3 at HE z3 T3
 generalize strOfNums (digs 2 i)=S4 at HE z4 T4
 generalize strOfNums (digs 2 s)=S5 at HE z5 T5
 go_enter Tryz.func128,Tryz.ntmps128
 go_wp2
 obtain⟨w3,HW3,B3⟩:∃w3,w3=w.alloc (.cells #[.int .i64 y,.int .i64 m,.int .i64 d,.int .i64 h,.int .i64 i,.int .i64 s] 147)/\ Below w.heap.size w w3:=⟨_,rfl,(Below.refl _ _).alloc (Nat.le_refl _) _⟩
 rw[<-HW3]
 obtain⟨k0,k1,k2,k3,k4,k5⟩:=zbF (show Blk w3 w.heap.size 147 (d6c y m d h i s)by rw[HW3];exact Blk.new w 147 _)
 clear HW3
 refine zaa Ext Ext.refl (fun _ _ _=>Ext.trans) ((0,false)::(1,false)::(3,false)::(4,false)::(7,false)::(8,false)::(11,false)::(12,false)::(15,false)::(16,false)::(2,true)::(5,true)::(6,false)::(9,true)::(10,false)::(13,true)::(14,false)::(17,true)::(18,false)::(19,false)::(20,false)::[]) (by kernel_rfl) (by kernel_rfl) rfl (by kernel_rfl) (fun _ _ _ _ _ h=>h) ?_
 repeat(refine zab _ rfl (by rfl) (fun W hW=>by go_simp;first|done|rfl) ?_;simp only[Act.put,zwe,zwg,zwf])
 clear k0 k1 k2 k3 k4 k5
 refine zad rfl (by rfl) (fun K hK=> ?_)
 go_simp
 refine(T1.out _).mono ?_
 rintro e v1 ⟨rfl,hb1⟩
 refine hK _ _ hb1 ?_
 clear hK K
 refine zad rfl (by rfl) (fun K hK=> ?_)
 go_simp
 refine(T2.out _).mono ?_
 rintro e v2 ⟨rfl,hb2⟩
 refine hK _ _ hb2 ?_
 clear hK K
 repeat(refine zab _ rfl (by rfl) (fun W hW=>by go_simp;first|done|rfl) ?_;simp only[Act.put,zwe,zwg,zwf])
 refine zad rfl (by rfl) (fun K hK=> ?_)
 go_simp
 refine(T3.out _).mono ?_
 rintro e v3 ⟨rfl,hb3⟩
 refine hK _ _ hb3 ?_
 clear hK K
 repeat(refine zab _ rfl (by rfl) (fun W hW=>by go_simp;first|done|rfl) ?_;simp only[Act.put,zwe,zwg,zwf])
 refine zad rfl (by rfl) (fun K hK=> ?_)
 go_simp
 refine(T4.out _).mono ?_
 rintro e v4 ⟨rfl,hb4⟩
 refine hK _ _ hb4 ?_
 clear hK K
 repeat(refine zab _ rfl (by rfl) (fun W hW=>by go_simp;first|done|rfl) ?_;simp only[Act.put,zwe,zwg,zwf])
 refine zad rfl (by rfl) (fun K hK=> ?_)
 go_simp
 refine(T5.out _).mono ?_
 rintro e v5 ⟨rfl,hb5⟩
 refine hK _ _ hb5 ?_
 clear hK K
 repeat(refine zab _ rfl (by rfl) (fun W hW=>by go_simp;first|done|rfl) ?_;simp only[Act.put,zwe,zwg,zwf])
 refine zai ?_
 go_wp2
 go_ret
 exact⟨by rw[HE.out];rfl,Ext.trans (Ext.trans (Ext.trans (Ext.trans (Ext.trans B3 (Ext.of_drew hb1)) hb2) hb3) hb4) hb5⟩
theorem zl4 (a:D6):a.long=digs 2 (a.y/100)++digs 2 a.y++a.behind:=by simp[D6.long,D6.txt,D6.behind,zvA]
theorem zkL (a:D6):a.long.drop 2=digs 2 a.y++a.behind:=by rw[znf];simp[D6.behind]
theorem zht (a:D6):(strOfNums a.behind).size=11:=by rw[strOfNums_size];simp[D6.behind,digs_length]
theorem zqj (s:Int) (w:World):Calls Tryz.prog 79 #[.int .i64 s] w (ziI (zon s) w):=by
 have C:=zwd (zkK s w)
 go_enter Tryz.func79,Tryz.ntmps79
 go_wp2_with fail
 refine C.out.mono ?_
 rintro e w1 ⟨a,ok,hR,rfl,hb1⟩
 clear C
 have B1:=zwd hb1
 clear hb1
 rcases hR with⟨rfl,hd⟩|⟨rfl,rfl,ho⟩
 · have HD:=zwd hd
   obtain⟨y,m,d,h,i,s'⟩:=a
   have hy1:1950<=y:=hd.1.1
   have hy2:y<=2199:=hd.1.2.1
   clear hd
   have T1:=zwd (fun W=>zec (y/100) W (by omega) (by omega))
   have T2:=zwd (fun W=>zec y W (by omega) (by omega))
   have T3:=zwd (fun W=>ziJ y m d h i s' W HD.out.1)
   have z1:=size2 (y/100)
   have z2:=size2 y
   have z3:=zht ⟨y,m,d,h,i,s'⟩
   have HE:Hid (strOfNums (⟨y,m,d,h,i,s'⟩:D6).long=strOfNums (digs 2 (y/100))++strOfNums (digs 2 y)++strOfNums (⟨y,m,d,h,i,s'⟩:D6).behind):=by
    unfold Hid
    rw[zl4,zey,zey]
   generalize strOfNums (digs 2 (y/100))=S1 at HE z1 T1
   generalize strOfNums (digs 2 y)=S2 at HE z2 T2
   generalize strOfNums (⟨y,m,d,h,i,s'⟩:D6).behind=S3 at HE z3 T3
   have hq:IntKind.i64.wrap (y.tdiv 100)=y/100:=by rw[Int.tdiv_eq_ediv_of_nonneg (by omega)];exact IntWalk.i64_in _ (by omega)
   have hq':IntKind.i64.wrap (y/100)=y/100:=IntWalk.i64_in _ (by omega)
   have hq2:y.tdiv 100=y/100:=Int.tdiv_eq_ediv_of_nonneg (by omega)
   simp only[D6.cells,d6c]
   go_wp2
   obtain⟨w3,HW3,B3⟩:∃w3,w3=w1.alloc (.cells #[.int .i64 y,.int .i64 m,.int .i64 d,.int .i64 h,.int .i64 i,.int .i64 s'] 147)/\ Below w.heap.size w w3:=⟨_,rfl,B1.out.alloc B1.out.size _⟩
   rw[<-HW3]
   obtain⟨k0,k1,k2,k3,k4,k5⟩:=zbF (show Blk w3 w1.heap.size 147 (d6c y m d h i s')by rw[HW3];exact Blk.new w1 147 _)
   clear HW3
   refine zaa Ext Ext.refl (fun _ _ _=>Ext.trans) ((0,false)::(1,false)::(2,false)::(4,false)::(5,false)::(8,false)::(3,true)::(6,true)::(7,false)::(9,true)::(10,false)::(11,false)::(12,false)::[]) (by kernel_rfl) (by kernel_rfl) rfl (by kernel_rfl) (fun _ _ _ _ _ h=>h) ?_
   repeat(refine zab _ rfl (by rfl) (fun W hW=>by go_simp;first|done|rfl) ?_;simp only[Act.put,zwe,zwg,zwf])
   clear k0 k1 k2 k3 k4 k5
   refine zad rfl (by rfl) (fun K hK=> ?_)
   go_simp
   refine(T1.out _).mono ?_
   rintro e v1 ⟨rfl,hb1⟩
   refine hK _ _ hb1 ?_
   clear hK K
   refine zad rfl (by rfl) (fun K hK=> ?_)
   go_simp
   refine(T2.out _).mono ?_
   rintro e v2 ⟨rfl,hb2⟩
   refine hK _ _ hb2 ?_
   clear hK K
   repeat(refine zab _ rfl (by rfl) (fun W hW=>by go_simp;first|done|rfl) ?_;simp only[Act.put,zwe,zwg,zwf])
   refine zad rfl (by rfl) (fun K hK=> ?_)
   go_simp
   refine(T3.out _).mono ?_
   rintro e v3 ⟨rfl,hb3⟩
   refine hK _ _ hb3 ?_
   clear hK K
   repeat(refine zab _ rfl (by rfl) (fun W hW=>by go_simp;first|done|rfl) ?_;simp only[Act.put,zwe,zwg,zwf])
   refine zai ?_
   go_wp2
   go_ret2
   exact⟨_,true,.inl ⟨rfl,_,HD.out,by rw[HE.out]⟩,rfl,Ext.trans (Ext.trans (Ext.trans B3 (Ext.of_drew hb1)) hb2) hb3⟩
 · simp only[D6.cells,d6c,ze5]
   go_wp2
   go_ret2
   exact⟨_,false,.inr ⟨rfl,rfl,ho⟩,rfl,B1.out.alloc B1.out.size _⟩
theorem zoq (s:Int) (w:World):Calls Tryz.prog 78 #[.int .i64 s] w (ziI (zhq s) w):=by
 have C:=zwd (zkK s w)
 go_enter Tryz.func78,Tryz.ntmps78
 go_wp2_with fail
 refine C.out.mono ?_
 rintro e w1 ⟨a,ok,hR,rfl,hb1⟩
 clear C
 have B1:=zwd hb1
 clear hb1
 rcases hR with⟨rfl,hd⟩|⟨rfl,rfl,ho⟩
 · have HD:=zwd hd
   obtain⟨y,m,d,h,i,s'⟩:=a
   have hy1:1950<=y:=hd.1.1
   have hy2:y<=2199:=hd.1.2.1
   clear hd
   simp only[D6.cells,d6c]
   by_cases hy:2049<y
   · have hy':decide (2049<y)=true:=by simpa using hy
     go_wp2
     go_ret2
     exact⟨_,false,.inr ⟨rfl,rfl,.inr ⟨_,HD.out,by simp only;omega⟩⟩,rfl,B1.out.alloc B1.out.size _⟩
   · have hy':decide (2049<y)=false:=by simpa using hy
     have T1:=zwd (fun W=>zec y W (by omega) (by omega))
     have T2:=zwd (fun W=>ziJ y m d h i s' W HD.out.1)
     have z1:=size2 y
     have z2:=zht ⟨y,m,d,h,i,s'⟩
     have HE:Hid (strOfNums ((⟨y,m,d,h,i,s'⟩:D6).long.drop 2)=strOfNums (digs 2 y)++strOfNums (⟨y,m,d,h,i,s'⟩:D6).behind):=by
      unfold Hid
      rw[zkL,zey]
     generalize strOfNums (digs 2 y)=S1 at HE z1 T1
     generalize strOfNums (⟨y,m,d,h,i,s'⟩:D6).behind=S2 at HE z2 T2
     go_wp2
     obtain⟨w3,HW3,B3⟩:∃w3,w3=w1.alloc (.cells #[.int .i64 y,.int .i64 m,.int .i64 d,.int .i64 h,.int .i64 i,.int .i64 s'] 147)/\ Below w.heap.size w w3:=⟨_,rfl,B1.out.alloc B1.out.size _⟩
     rw[<-HW3]
     obtain⟨k0,k1,k2,k3,k4,k5⟩:=zbF (show Blk w3 w1.heap.size 147 (d6c y m d h i s')by rw[HW3];exact Blk.new w1 147 _)
     clear HW3
     refine zaa Ext Ext.refl (fun _ _ _=>Ext.trans) ((0,false)::(1,false)::(3,false)::(2,true)::(4,true)::(5,false)::(6,false)::(7,false)::[]) (by kernel_rfl) (by kernel_rfl) rfl (by kernel_rfl) (fun _ _ _ _ _ h=>h) ?_
     repeat(refine zab _ rfl (by rfl) (fun W hW=>by go_simp;first|done|rfl) ?_;simp only[Act.put,zwe,zwg,zwf])
     clear k0 k1 k2 k3 k4 k5
     refine zad rfl (by rfl) (fun K hK=> ?_)
     go_simp
     refine(T1.out _).mono ?_
     rintro e v1 ⟨rfl,hb1⟩
     refine hK _ _ hb1 ?_
     clear hK K
     refine zad rfl (by rfl) (fun K hK=> ?_)
     go_simp
     refine(T2.out _).mono ?_
     rintro e v2 ⟨rfl,hb2⟩
     refine hK _ _ hb2 ?_
     clear hK K
     repeat(refine zab _ rfl (by rfl) (fun W hW=>by go_simp;first|done|rfl) ?_;simp only[Act.put,zwe,zwg,zwf])
     refine zai ?_
     go_wp2
     go_ret2
     exact⟨_,true,.inl ⟨rfl,_,HD.out,by simp only;omega,by rw[HE.out]⟩,rfl,Ext.trans (Ext.trans B3 (Ext.of_drew hb1)) hb2⟩
 · simp only[D6.cells,d6c,ze5]
   go_wp2
   go_ret2
   exact⟨_,false,.inr ⟨rfl,rfl,.inl ho⟩,rfl,B1.out.alloc B1.out.size _⟩
theorem rtext_any (s:Int) (w:World):Calls Tryz.prog 48 #[.int .i64 s] w (ziI (TextR s) w):=by
 have C:=zwd (zoq s w)
 go_enter Tryz.func48,Tryz.ntmps48
 go_wp2_with fail
 refine C.out.mono ?_
 rintro e w1 ⟨S,ok,hR,rfl,hb1⟩
 clear C
 have B1:=zwd hb1
 have HR:=zwd hR
 clear hb1 hR
 cases ok
 · go_wp2_with fail
   refine(zqj s _).mono ?_
   rintro e w2 ⟨S',ok',hR',rfl,hb2⟩
   have B2:=zwd (Below.step B1.out hb2)
   have HT:Hid (TextR s S' ok'):= .inr ⟨by
    rcases HR.out with⟨h,_⟩|⟨h,e,h'⟩
    · cases h
    · rw[<-e];exact HR.out,hR'⟩
   clear hb2 hR'
   go_wp2
   go_ret2
   exact⟨S',ok',HT.out,rfl,B2.out⟩
 · go_wp2
   go_ret2
   exact⟨S,true,.inl ⟨rfl,HR.out⟩,rfl,B1.out⟩
theorem zng:cum 1970 1=0:=by decide
theorem zhu (y m d h i s:Int) (w:World):Calls Tryz.prog 154 #[.agg #[.int .i64 y,.int .i64 m,.int .i64 d,.int .i64 h,.int .i64 i,.int .i64 s]] w (zt3 w ⟨y,m,d,h,i,s⟩):=by
 have C:=zwd (fun W=>zop y m d h i s W)
 have B0:=zwd ((Below.refl w.heap.size w).alloc (Nat.le_refl _) (.cells #[.int .i64 y,.int .i64 m,.int .i64 d,.int .i64 h,.int .i64 i,.int .i64 s] 147))
 by_cases hok:(⟨y,m,d,h,i,s⟩:D6).ok
 · have OT:=zwd (okB_true hok)
   rw[OT.out]at C
   have RS:Hid (secsR ⟨y,m,d,h,i,s⟩=secs ⟨y,m,d,h,i,s⟩):=by unfold Hid secsR;rw[if_pos OT.out]
   have dr:=D6.days_rng hok
   have HS:Hid (secs ⟨y,m,d,h,i,s⟩=(d-1+(dby y-711857)+cum y m-(1-1+(dby 1970-711857)+cum 1970 1))*86400+(h*3600+i*60+s)):=by
    unfold Hid secs D6.days D6.clk
    rw[zcd,zng]
    simp only
    omega
   have hr:0<=d-1+(dby y-711857)+cum y m/\ d-1+(dby y-711857)+cum y m<=91310:=by
    unfold D6.days at dr
    simp only at dr
    omega
   clear dr
   obtain⟨h1,h2,h3,h4,h5,h6,h7,h8,h9,h10,h11,h12⟩:=hok
   simp only at h1 h2 h3 h4 h5 h6 h7 h8 h9 h10 h11 h12
   have hl:=zd5 y m
   have K:=zwd (Blk.new w 147 (d6c y m d h i s))
   simp only[d6c]at K
   go_enter Tryz.func154,Tryz.ntmps154
   go_wp2_with fail
   refine(C.out _).mono ?_
   rintro e w2 ⟨rfl,hb2⟩
   have K2:Hid (Blk w2 w.heap.size 147 (d6c y m d h i s)):=zwd (K.out.below hb2 (by simp))
   have BB:Hid (Below w.heap.size w w2):=Below.step B0.out hb2
   clear hb2 C B0 K
   have r0:w2.cell? ⟨w.heap.size,0,none⟩=some (.int .i64 y):=K2.out.cell 0
   have r1:w2.cell? ⟨w.heap.size,1,none⟩=some (.int .i64 m):=K2.out.cell 1
   have r2:w2.cell? ⟨w.heap.size,2,none⟩=some (.int .i64 d):=K2.out.cell 2
   go_wp2_with fail
   refine(zhs y m d _ (by omega) (by omega) (by omega) (by omega) (by omega) (by omega)).mono ?_
   rintro e w3 ⟨rfl,hb3⟩
   have K3:=zwd (K2.out.below hb3 K2.out.lt)
   have B3:=zwd (Below.step BB.out hb3)
   clear hb3 K2 BB r0 r1 r2
   go_wp2_with fail
   refine(zhs 1970 1 1 _ (by omega) (by omega) (by omega) (by omega) (by omega) (by omega)).mono ?_
   rintro e w4 ⟨rfl,hb4⟩
   have K4:=zwd (K3.out.below hb4 K3.out.lt)
   have B4:=zwd (Below.step B3.out hb4)
   clear hb4 K3 B3
   have r3:w4.cell? ⟨w.heap.size,3,none⟩=some (.int .i64 h):=K4.out.cell 3
   have r4:w4.cell? ⟨w.heap.size,4,none⟩=some (.int .i64 i):=K4.out.cell 4
   have r5:w4.cell? ⟨w.heap.size,5,none⟩=some (.int .i64 s):=K4.out.cell 5
   rw[zcd,zng]at HS⊢
   generalize d-1+(dby y-711857)+cum y m=n at hr HS⊢
   go_wp2
   go_ret2
   exact⟨by rw[RS.out,HS.out,OT.out];go_num,B4.out⟩
 · have OF:=zwd (zaB hok)
   rw[OF.out]at C
   have RS:Hid (secsR ⟨y,m,d,h,i,s⟩=0):=by unfold Hid secsR;rw[if_neg (by rw[OF.out];simp)]
   clear hok
   go_enter Tryz.func154,Tryz.ntmps154
   go_wp2_with fail
   refine(C.out _).mono ?_
   rintro e w2 ⟨rfl,hb2⟩
   go_wp2
   go_ret2
   exact⟨by rw[RS.out,OF.out];rfl,Below.step B0.out hb2⟩
def pz (l:List Int) (k:Nat):Int:=(pk l k 2).getD 999
theorem zqk {l:List Int} {k:Nat} (h:k+1<l.length):pk l k 2=nz 0 [l[k]?.getD 0,l[k+1]?.getD 0]:=by
 unfold pk
 rw[List.drop_eq_getElem_cons (by omega),List.drop_eq_getElem_cons (by omega),List.getElem?_eq_getElem (by omega),List.getElem?_eq_getElem (by omega)]
 rfl
theorem zl5 {B:Nat} {w W:World} (k:Below B w W) (m:Nat):Below B w (W.drewN m):= {k with}
theorem zaH (t:ByteArray) (k:Nat) (x:Int) (w:World) (hx:x=k) (h:k+1<t.size) (hs:t.size<=100):Calls Tryz.prog 153 #[.string t,.int .i64 x] w fun e w'=>e= .returned (.int .i64 (pz (zae t) k))/\ Below w.heap.size w w':=by
 have hi:=zd3 t k (by omega) x hx
 have hi2:=zd3 t (k+1) (by omega) (x+1) (by omega)
 have b0:=zfj t k
 have b1:=zfj t (k+1)
 have E:Hid (pz (zae t) k=(nz 0 [nth t k,nth t (k+1)]).getD 999):=by unfold Hid pz;rw[zqk (by rw[zaK];exact h)];rfl
 generalize nth t k=c at hi b0 E
 generalize nth t (k+1)=d at hi2 b1 E
 have hx1:0<=x:=by omega
 have hx2:x<=100:=by omega
 clear hx
 by_cases c1:c<48
 · have t1:decide (c<48)=true:=by simpa using c1
   have V:Hid (pz (zae t) k=999):=by unfold Hid;rw[E.out,nz,if_neg (by omega)];rfl
   go_enter Tryz.func153,Tryz.ntmps153
   go_wp2
   go_ret
   exact⟨zbw V.out.symm,Below.refl _ _⟩
 have t1:decide (c<48)=false:=by simpa using c1
 by_cases c2:57<c
 · have t2:decide (57<c)=true:=by simpa using c2
   have V:Hid (pz (zae t) k=999):=by unfold Hid;rw[E.out,nz,if_neg (by omega)];rfl
   go_enter Tryz.func153,Tryz.ntmps153
   go_wp2
   go_ret
   exact⟨zbw V.out.symm,Below.refl _ _⟩
 have t2:decide (57<c)=false:=by simpa using c2
 by_cases c3:d<48
 · have t3:decide (d<48)=true:=by simpa using c3
   have V:Hid (pz (zae t) k=999):=by unfold Hid;rw[E.out,nz,if_pos (by omega),nz,if_neg (by omega)];rfl
   go_enter Tryz.func153,Tryz.ntmps153
   go_wp2
   go_ret
   exact⟨zbw V.out.symm,Below.refl _ _⟩
 have t3:decide (d<48)=false:=by simpa using c3
 by_cases c4:57<d
 · have t4:decide (57<d)=true:=by simpa using c4
   have V:Hid (pz (zae t) k=999):=by unfold Hid;rw[E.out,nz,if_pos (by omega),nz,if_neg (by omega)];rfl
   go_enter Tryz.func153,Tryz.ntmps153
   go_wp2
   go_ret
   exact⟨zbw V.out.symm,Below.refl _ _⟩
 have t4:decide (57<d)=false:=by simpa using c4
 have V:Hid (pz (zae t) k=(c-48)*10+(d-48)):=by unfold Hid;rw[E.out,nz,if_pos (by omega),nz,if_pos (by omega),nz];simp
 have w1:IntKind.i64.wrap (x+1)=x+1:=IntWalk.i64_in _ (by omega)
 have u1:IntKind.u8.wrap (c-48)=c-48:=IntWalk.u8_in _ (by omega)
 have u2:IntKind.u8.wrap (d-48)=d-48:=IntWalk.u8_in _ (by omega)
 have w2:IntKind.i64.wrap (c-48)=c-48:=IntWalk.i64_in _ (by omega)
 have w3:IntKind.i64.wrap (d-48)=d-48:=IntWalk.i64_in _ (by omega)
 have w4:IntKind.i64.wrap ((c-48)*10)=(c-48)*10:=IntWalk.i64_in _ (by omega)
 have w5:IntKind.i64.wrap ((c-48)*10+(d-48))=(c-48)*10+(d-48):=IntWalk.i64_in _ (by omega)
 go_enter Tryz.func153,Tryz.ntmps153
 go_wp2
 go_quiet (fail)
 go_wp2
 go_ret
 exact⟨zbw V.out.symm,zl5 (Below.refl _ _) _⟩
theorem zt6:∀(xs ys:List Int) (v:Int),nz v (xs++ys)=(nz v xs).bind (fun n=>nz n ys)
 | [],ys,v=>rfl
 |x::xs,ys,v=>by
   simp only[List.cons_append,nz]
   split
   · exact zt6 xs ys _
   · rfl
theorem zsX (c d v:Int):nz v [c,d]=(nz 0 [c,d]).map (fun n=>v*100+n):=by
 simp only[nz]
 split
 · split
   · simp
     omega
   · rfl
 · rfl
theorem zql {l:List Int} (h:4<=l.length):pk l 0 4=(pk l 0 2).bind (fun a=>(pk l 2 2).map (fun b=>a*100+b)):=by
 have e:(l.drop 0).take 4=[l[0]?.getD 0,l[1]?.getD 0]++[l[2]?.getD 0,l[3]?.getD 0]:=by
  rw[List.drop_eq_getElem_cons (by omega),List.drop_eq_getElem_cons (by omega),List.drop_eq_getElem_cons (by omega),List.drop_eq_getElem_cons (by omega),List.getElem?_eq_getElem (by omega),List.getElem?_eq_getElem (by omega),List.getElem?_eq_getElem (by omega),List.getElem?_eq_getElem (by omega)]
  rfl
 rw[zqk (k:=0) (by omega),zqk (k:=2) (by omega),pk,e,zt6]
 cases nz 0 [l[0]?.getD 0,l[0+1]?.getD 0]with
 |none=>rfl
 |some a=>exact zsX _ _ a
theorem zkM {l:List Int} {o:Nat} {Y y0:Int} (hy:pk l 0 o=some y0):(∃a,zcR l o=some a/\ a.y=y0/\ (⟨Y,pz l o,pz l (o+2),pz l (o+4),pz l (o+6),pz l (o+8)⟩:D6)= {a with y:=Y}) \/
 (zcR l o=none/\ ¬(⟨Y,pz l o,pz l (o+2),pz l (o+4),pz l (o+6),pz l (o+8)⟩:D6).ok):=by
 unfold zcR pz
 rw[hy]
 cases h1:pk l o 2 with
 |none=>exact .inr ⟨rfl,by unfold D6.ok;simp⟩
 |some m=>
   cases h2:pk l (o+2) 2 with
   |none=>exact .inr ⟨rfl,by have:=zd5 Y m;unfold D6.ok;simp;omega⟩
   |some d=>
     cases h3:pk l (o+4) 2 with
     |none=>exact .inr ⟨rfl,by unfold D6.ok;simp⟩
     |some hh=>
       cases h4:pk l (o+6) 2 with
       |none=>exact .inr ⟨rfl,by unfold D6.ok;simp⟩
       |some i=>
         cases h5:pk l (o+8) 2 with
         |none=>exact .inr ⟨rfl,by unfold D6.ok;simp⟩
         |some s=>exact .inl ⟨_,rfl,rfl,rfl⟩
theorem zl6 {a:D6} (h:¬a.ok):secsR a=0/\ okB a=false:=by
 refine⟨?_,zaB h⟩
 unfold secsR
 rw[if_neg (by rw[zaB h];simp)]
theorem zsY {l:List Int} {a b:Int} (h1:l.length=15/\ l[14]?.getD 0=90) (ha:pk l 0 2=some a) (hb:pk l 2 2=some b):
 secsR ⟨a*100+b,pz l 4,pz l 6,pz l 8,pz l 10,pz l 12⟩=readV (readD l true)/\ okB ⟨a*100+b,pz l 4,pz l 6,pz l 8,pz l 10,pz l 12⟩=readB (readD l true):=by
 have hy:pk l 0 4=some (a*100+b):=by rw[zql (by omega),ha,hb];rfl
 rw[zf4,if_pos h1]
 rcases zkM (Y:=a*100+b) hy with⟨c,hc,hcy,e⟩|⟨hn,hno⟩
 · rw[hc]
   have e':(⟨a*100+b,pz l 4,pz l 6,pz l 8,pz l 10,pz l 12⟩:D6)=c:=by rw[<-hcy]at e⊢;exact e
   rw[e']
   exact⟨rfl,rfl⟩
 · rw[hn]
   exact zl6 hno
theorem zhv {l:List Int} (h1:l.length=15) (h:pk l 0 2=none \/pk l 2 2=none):readD l true=none:=by
 have hy:pk l 0 4=none:=by
  rw[zql (by omega)]
  rcases h with h|h
  · rw[h];rfl
  · rw[h];cases pk l 0 2<;>rfl
 rw[zf4]
 split
 · rw[za9 (.inl hy)];rfl
 · rfl
theorem zqm {l:List Int} {Y:Int} (h1:l.length=13/\ l[12]?.getD 0=90) (hY:Y=if pz l 0<50 then pz l 0+2000 else pz l 0+1900):
 secsR ⟨Y,pz l 2,pz l 4,pz l 6,pz l 8,pz l 10⟩=readV (readD l false)/\ okB ⟨Y,pz l 2,pz l 4,pz l 6,pz l 8,pz l 10⟩=readB (readD l false):=by
 rw[zhr,if_pos h1]
 cases hp:pk l 0 2 with
 |none=>
   rw[za9 (.inl hp)]
   have:pz l 0=999:=by unfold pz;rw[hp];rfl
   rw[this,if_neg (by omega)]at hY
   subst hY
   exact zl6 (by unfold D6.ok;simp)
 |some y=>
   have hz:pz l 0=y:=by unfold pz;rw[hp];rfl
   have hf:Y=zdp y:=by rw[hY,hz];unfold zdp;split<;>split<;>omega
   rcases zkM (Y:=Y) hp with⟨c,hc,hcy,e⟩|⟨hn,hno⟩
   · rw[hc]
     have e':(⟨Y,pz l 2,pz l 4,pz l 6,pz l 8,pz l 10⟩:D6)= {c with y:=zdp c.y}:=by rw[hcy,<-hf];exact e
     rw[e']
     exact⟨rfl,rfl⟩
   · rw[hn]
     exact zl6 hno
theorem zqn (l:List Int) (k:Nat):0<=pz l k/\ pz l k<=999:=by
 unfold pz
 cases h:pk l k 2 with
 |none=>simp
 |some v=>
   have r:=zkC _ 0 v (by omega) h
   have hl:((l.drop k).take 2).length<=2:=List.length_take_le _ _
   refine⟨r.1,?_⟩
   simp only[Option.getD_some]
   generalize((l.drop k).take 2).length=n at r hl
   rcases(show n=0 \/n=1 \/n=2 by omega)with rfl|rfl|rfl<;>omega
theorem zqo {l:List Int} {k:Nat} (h:pz l k≠999):pk l k 2=some (pz l k):=by
 unfold pz at h⊢
 cases hk:pk l k 2 with
 |none=>rw[hk]at h;exact absurd rfl h
 |some v=>rfl
theorem zqp {l:List Int} {k:Nat} (h:pz l k=999):pk l k 2=none:=by
 cases hk:pk l k 2 with
 |none=>rfl
 |some v=>
   unfold pz at h
   rw[hk]at h
   have r:=zkC _ 0 v (by omega) hk
   have hl:((l.drop k).take 2).length<=2:=List.length_take_le _ _
   simp only[Option.getD_some]at h
   subst h
   generalize((l.drop k).take 2).length=n at r hl
   rcases(show n=0 \/n=1 \/n=2 by omega)with rfl|rfl|rfl<;>omega
theorem zl7 (t:ByteArray) (w:World) (h1:t.size=13) (h2:nth t 12=90):Calls Tryz.prog 101 #[.string t,.bool false] w (zaZ w (readD (zae t) false)):=by
 have hi:=zd3 t 12 (by omega) 12 rfl
 rw[h2]at hi
 have hl:(zae t).length=13/\ (zae t)[12]?.getD 0=90:=⟨by rw[zaK];exact h1,h2⟩
 have Bw:Hid (Below w.heap.size w w):=zwd (Below.refl _ _)
 have h1':(t.size:Int)=13:=by omega
 have r0:=zqn (zae t) 0
 have HY:Hid (∀Y,(Y=if pz (zae t) 0<50 then pz (zae t) 0+2000 else pz (zae t) 0+1900)->secsR ⟨Y,pz (zae t) 2,pz (zae t) 4,pz (zae t) 6,pz (zae t) 8,pz (zae t) 10⟩=readV (readD (zae t) false)/\ okB ⟨Y,pz (zae t) 2,pz (zae t) 4,pz (zae t) 6,pz (zae t) 8,pz (zae t) 10⟩=readB (readD (zae t) false)):=zwd (fun Y hY=>zqm hl hY)
 clear hl h2
 by_cases c:pz (zae t) 0<50
 · have EQ:=zwd (HY.out (pz (zae t) 0+2000) (by rw[if_pos c]))
   have t1:decide (pz (zae t) 0<50)=true:=by simpa using c
   clear HY
   go_enter Tryz.func101,Tryz.ntmps101
   go_wp2_with fail
   refine(zaH t 0 _ _ (by rfl) (by omega) (by omega)).mono ?_
   rintro e p0 ⟨rfl,hb_p0⟩
   have Bp0:=zwd (Below.step Bw.out hb_p0)
   clear hb_p0
   go_wp2_with fail
   refine(zaH t 2 _ _ (by rfl) (by omega) (by omega)).mono ?_
   rintro e q0 ⟨rfl,hb_q0⟩
   have Bq0:=zwd (Below.step Bp0.out hb_q0)
   clear hb_q0
   go_wp2_with fail
   refine(zaH t 4 _ _ (by rfl) (by omega) (by omega)).mono ?_
   rintro e q1 ⟨rfl,hb_q1⟩
   have Bq1:=zwd (Below.step Bq0.out hb_q1)
   clear hb_q1
   go_wp2_with fail
   refine(zaH t 6 _ _ (by rfl) (by omega) (by omega)).mono ?_
   rintro e q2 ⟨rfl,hb_q2⟩
   have Bq2:=zwd (Below.step Bq1.out hb_q2)
   clear hb_q2
   go_wp2_with fail
   refine(zaH t 8 _ _ (by rfl) (by omega) (by omega)).mono ?_
   rintro e q3 ⟨rfl,hb_q3⟩
   have Bq3:=zwd (Below.step Bq2.out hb_q3)
   clear hb_q3
   go_wp2_with fail
   refine(zaH t 10 _ _ (by rfl) (by omega) (by omega)).mono ?_
   rintro e q4 ⟨rfl,hb_q4⟩
   have Bq4:=zwd (Below.step Bq3.out hb_q4)
   clear hb_q4
   go_wp2_with fail
   refine(zhu (pz (zae t) 0+2000) (pz (zae t) 2) (pz (zae t) 4) (pz (zae t) 6) (pz (zae t) 8) (pz (zae t) 10) _).mono ?_
   rintro e qz ⟨rfl,hbz⟩
   have BZ:=zwd (Below.step Bq4.out hbz)
   clear hbz
   go_wp2
   go_ret2
   exact⟨by rw[<-EQ.out.1,<-EQ.out.2];rfl,BZ.out⟩
 · have EQ:=zwd (HY.out (pz (zae t) 0+1900) (by rw[if_neg c]))
   have t1:decide (pz (zae t) 0<50)=false:=by simpa using c
   clear HY
   go_enter Tryz.func101,Tryz.ntmps101
   go_wp2_with fail
   refine(zaH t 0 _ _ (by rfl) (by omega) (by omega)).mono ?_
   rintro e p0 ⟨rfl,hb_p0⟩
   have Bp0:=zwd (Below.step Bw.out hb_p0)
   clear hb_p0
   go_wp2_with fail
   refine(zaH t 2 _ _ (by rfl) (by omega) (by omega)).mono ?_
   rintro e q0 ⟨rfl,hb_q0⟩
   have Bq0:=zwd (Below.step Bp0.out hb_q0)
   clear hb_q0
   go_wp2_with fail
   refine(zaH t 4 _ _ (by rfl) (by omega) (by omega)).mono ?_
   rintro e q1 ⟨rfl,hb_q1⟩
   have Bq1:=zwd (Below.step Bq0.out hb_q1)
   clear hb_q1
   go_wp2_with fail
   refine(zaH t 6 _ _ (by rfl) (by omega) (by omega)).mono ?_
   rintro e q2 ⟨rfl,hb_q2⟩
   have Bq2:=zwd (Below.step Bq1.out hb_q2)
   clear hb_q2
   go_wp2_with fail
   refine(zaH t 8 _ _ (by rfl) (by omega) (by omega)).mono ?_
   rintro e q3 ⟨rfl,hb_q3⟩
   have Bq3:=zwd (Below.step Bq2.out hb_q3)
   clear hb_q3
   go_wp2_with fail
   refine(zaH t 10 _ _ (by rfl) (by omega) (by omega)).mono ?_
   rintro e q4 ⟨rfl,hb_q4⟩
   have Bq4:=zwd (Below.step Bq3.out hb_q4)
   clear hb_q4
   go_wp2_with fail
   refine(zhu (pz (zae t) 0+1900) (pz (zae t) 2) (pz (zae t) 4) (pz (zae t) 6) (pz (zae t) 8) (pz (zae t) 10) _).mono ?_
   rintro e qz ⟨rfl,hbz⟩
   have BZ:=zwd (Below.step Bq4.out hbz)
   clear hbz
   go_wp2
   go_ret2
   exact⟨by rw[<-EQ.out.1,<-EQ.out.2];rfl,BZ.out⟩
theorem zor (t:ByteArray) (w:World) (h1:t.size=15) (h2:nth t 14=90):Calls Tryz.prog 101 #[.string t,.bool true] w (zaZ w (readD (zae t) true)):=by
 have hi:=zd3 t 14 (by omega) 14 rfl
 rw[h2]at hi
 have hl:(zae t).length=15/\ (zae t)[14]?.getD 0=90:=⟨by rw[zaK];exact h1,h2⟩
 have Bw:Hid (Below w.heap.size w w):=zwd (Below.refl _ _)
 have h1':(t.size:Int)=15:=by omega
 have r0:=zqn (zae t) 0
 have r2:=zqn (zae t) 2
 have HL:=zwd hl
 clear h2 hl
 by_cases c:pz (zae t) 0=999
 · have RD:=zwd (zhv HL.out.1 (.inl (zqp c)))
   have t1:(pz (zae t) 0==999)=true:=by simpa using c
   clear c
   go_enter Tryz.func101,Tryz.ntmps101
   go_wp2_with fail
   refine(zaH t 0 _ _ (by rfl) (by omega) (by omega)).mono ?_
   rintro e p0 ⟨rfl,hb_p0⟩
   have Bp0:=zwd (Below.step Bw.out hb_p0)
   clear hb_p0
   go_wp2
   go_ret2
   exact zaZ.bad RD.out Bp0.out
 · have t1:(pz (zae t) 0==999)=false:=by simpa using c
   by_cases c2:pz (zae t) 2=999
   · have RD:=zwd (zhv HL.out.1 (.inr (zqp c2)))
     have t2:(pz (zae t) 2==999)=true:=by simpa using c2
     clear c c2
     go_enter Tryz.func101,Tryz.ntmps101
     go_wp2_with fail
     refine(zaH t 0 _ _ (by rfl) (by omega) (by omega)).mono ?_
     rintro e p0 ⟨rfl,hb_p0⟩
     have Bp0:=zwd (Below.step Bw.out hb_p0)
     clear hb_p0
     go_wp2_with fail
     refine(zaH t 2 _ _ (by rfl) (by omega) (by omega)).mono ?_
     rintro e p1 ⟨rfl,hb_p1⟩
     have Bp1:=zwd (Below.step Bp0.out hb_p1)
     clear hb_p1
     go_wp2
     go_ret2
     exact zaZ.bad RD.out Bp1.out
   · have t2:(pz (zae t) 2==999)=false:=by simpa using c2
     have EQ:=zwd (zsY HL.out (zqo c) (zqo c2))
     clear c c2
     go_enter Tryz.func101,Tryz.ntmps101
     go_wp2_with fail
     refine(zaH t 0 _ _ (by rfl) (by omega) (by omega)).mono ?_
     rintro e p0 ⟨rfl,hb_p0⟩
     have Bp0:=zwd (Below.step Bw.out hb_p0)
     clear hb_p0
     go_wp2_with fail
     refine(zaH t 2 _ _ (by rfl) (by omega) (by omega)).mono ?_
     rintro e p1 ⟨rfl,hb_p1⟩
     have Bp1:=zwd (Below.step Bp0.out hb_p1)
     clear hb_p1
     go_wp2_with fail
     refine(zaH t 2 _ _ (by rfl) (by omega) (by omega)).mono ?_
     rintro e p2 ⟨rfl,hb_p2⟩
     have Bp2:=zwd (Below.step Bp1.out hb_p2)
     clear hb_p2
     go_wp2_with fail
     refine(zaH t 4 _ _ (by rfl) (by omega) (by omega)).mono ?_
     rintro e q0 ⟨rfl,hb_q0⟩
     have Bq0:=zwd (Below.step Bp2.out hb_q0)
     clear hb_q0
     go_wp2_with fail
     refine(zaH t 6 _ _ (by rfl) (by omega) (by omega)).mono ?_
     rintro e q1 ⟨rfl,hb_q1⟩
     have Bq1:=zwd (Below.step Bq0.out hb_q1)
     clear hb_q1
     go_wp2_with fail
     refine(zaH t 8 _ _ (by rfl) (by omega) (by omega)).mono ?_
     rintro e q2 ⟨rfl,hb_q2⟩
     have Bq2:=zwd (Below.step Bq1.out hb_q2)
     clear hb_q2
     go_wp2_with fail
     refine(zaH t 10 _ _ (by rfl) (by omega) (by omega)).mono ?_
     rintro e q3 ⟨rfl,hb_q3⟩
     have Bq3:=zwd (Below.step Bq2.out hb_q3)
     clear hb_q3
     go_wp2_with fail
     refine(zaH t 12 _ _ (by rfl) (by omega) (by omega)).mono ?_
     rintro e q4 ⟨rfl,hb_q4⟩
     have Bq4:=zwd (Below.step Bq3.out hb_q4)
     clear hb_q4
     go_wp2_with fail
     refine(zhu (pz (zae t) 0*100+pz (zae t) 2) (pz (zae t) 4) (pz (zae t) 6) (pz (zae t) 8) (pz (zae t) 10) (pz (zae t) 12) _).mono ?_
     rintro e qz ⟨rfl,hbz⟩
     have BZ:=zwd (Below.step Bq4.out hbz)
     clear hbz
     go_wp2
     go_ret2
     exact⟨by rw[<-EQ.out.1,<-EQ.out.2];rfl,BZ.out⟩
end Go.Proofs.YtpgahclpbdpbnaaGreatDoor.Clk
