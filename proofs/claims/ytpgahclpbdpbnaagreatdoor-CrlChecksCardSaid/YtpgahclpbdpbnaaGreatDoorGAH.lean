import Derived.Test.YtpgahclpbdpbnaaGreatDoorGAG
import Derived.Test.YtpgahclpbdpbnaaGreatDoorGAA
import Derived.Test.YtpgahclpbdpbnaaGreatDoorGAC
set_option maxHeartbeats 4000000
set_option maxRecDepth 100000
namespace Go.Proofs.YtpgahclpbdpbnaaGreatDoor
open Go.RowKit
set_option linter.unusedVariables false
def ze6 (zs:List Int) (many:Int):Int:=8*(zs.length:Int)-many
def zcC (zs:List Int) (many:Int):Prop:=¬many<0/\ ¬8*(zs.length:Int)<many/\ (zs.length:Int)=(many+7)/8
instance (zs:List Int) (many:Int):Decidable (zcC zs many):=by unfold zcC;infer_instance
def zaG (zs:List Int) (many:Int):T×Int:=
 if zcC zs many then(if 0<ze6 zs many/\ (zs[zs.length-1]?.getD 0)%2^(ze6 zs many).toNat≠0 then(zbz,1)else(.node 3 (ze6 zs many::zs) [],0))else(zbz,1)
theorem zhz (a:Option Addr) (n ca:Nat) (zs:List Int) (many:Int) (w:World) (hr:Row w a n zs) (hn:n<=100000) (hnil:a=none->ca=0):Calls Tryz.prog 53 #[.slice a n ca,.int .i64 many] w (zaQ (zaG zs many) w):=by
 have S0:=zwd (RB.start w)
 have R0:=zwd (hr.below S0.out.below)
 have HL:=zwd hr.1
 have HB:=zwd hr.2.1
 have NI:=zwd hnil
 clear hr hnil
 have FB:zcC zs many↔(¬many<0/\ ¬8*(n:Int)<many/\ (n:Int)=(many+7)/8):=by unfold zcC;rw[HL.out]
 go_enter Tryz.func53,Tryz.ntmps53
 by_cases hfit:zcC zs many
 rotate_left
 · have F:Hid (zaG zs many=(.node 0 [] [],1)):=if_neg hfit
   rw[FB]at hfit
   have RN:=zwd (Row.nil (w.alloc (.cells #[.int .i64 0,.slice none 0 0,.slice none 0 0] 30)))
   by_cases h1:many<0
   · go_wp2_with fail
     exact zbp (zs:=[]) (c:=0) F.out rfl rfl rfl S0.out.box S0.out.below (RN.out _) (fun h=>absurd h (by simp)) ⟨fun _=>rfl,Nat.le_refl _⟩ rfl (by simp)
   by_cases h2:8*(n:Int)<many
   · go_wp2_with fail
     exact zbp (zs:=[]) (c:=0) F.out rfl rfl rfl S0.out.box S0.out.below (RN.out _) (fun h=>absurd h (by simp)) ⟨fun _=>rfl,Nat.le_refl _⟩ rfl (by simp)
   have h3:¬(n:Int)=(many+7)/8:=fun h=>hfit ⟨h1,h2,h⟩
   have t3:((n:Int) !=(many+7)/8)=true:=by simpa using h3
   go_wp2_with fail
   exact zbp (zs:=[]) (c:=0) F.out rfl rfl rfl S0.out.box S0.out.below (RN.out _) (fun h=>absurd h (by simp)) ⟨fun _=>rfl,Nat.le_refl _⟩ rfl (by simp)
 have BZ:Hid (zaG zs many=if 0<ze6 zs many/\ (zs[zs.length-1]?.getD 0)%2^(ze6 zs many).toNat≠0 then(zbz,1)else(.node 3 (ze6 zs many::zs) [],0)):=if_pos hfit
 rw[FB]at hfit
 clear FB
 obtain⟨h1,h2,h3⟩:=hfit
 have t3:((n:Int) !=(many+7)/8)=false:=by simpa using h3
 have LZ:Hid (ze6 zs many=8*(n:Int)-many):=by unfold ze6;rw[HL.out];exact zwd rfl
 have hq:8*(n:Int)-many=0 \/8*(n:Int)-many=1 \/8*(n:Int)-many=2 \/8*(n:Int)-many=3 \/8*(n:Int)-many=4 \/8*(n:Int)-many=5 \/8*(n:Int)-many=6 \/8*(n:Int)-many=7:=by omega
 have H3:=zwd h3
 clear h3
 rcases hq with hq|hq|hq|hq|hq|hq|hq|hq
 · have F:Hid (zaG zs many=(.node 3 (0::zs) [],0)):=by rw[BZ.out,LZ.out,hq];simp[Hid]
   clear BZ LZ
   go_wp2_with fail
   generalize hw0:w.alloc (.cells #[.int .i64 0,.slice none 0 0,.slice none 0 0] 30)=w0 at*
   have hlt0:w.heap.size<w0.heap.size:=S0.out.box.lt
   clear hw0
   refine zaa Ext Ext.refl (fun _ _ _=>Ext.trans) ((0,false)::(1,false)::(2,false)::(3,false)::(4,false)::(5,false)::(6,false)::(7,false)::(8,false)::(9,false)::(10,false)::(11,false)::(12,false)::(13,false)::[]) (by kernel_rfl) (by kernel_rfl) rfl (by kernel_rfl) (fun _ _ _ _ _ h=>h) ?_
   repeat(first|(refine zab _ rfl (by rfl) (fun W hW=>by go_simp;first|done|rfl) ?_;simp only[Act.put,zwe,zwg,zwf])|(refine zaw rfl (by rfl) ?_;simp only[Act.put,zwe,zwg,zwf]))
   refine zai ?_
   have E1:Hid (Ext w0 w0.drew):=Ext.drew (Ext.refl w0)
   generalize w0.drew=w1 at E1⊢
   have R1:=zwd (R0.out.below E1.out)
   have S1:=zwd (S0.out.go E1.out)
   have hlt1:w.heap.size<w1.heap.size:=S1.out.box.lt
   clear R0 S0 E1 hlt0
   have O3:=zwd (zbd w1 0)
   have R3:=zwd (R1.out.below ((Below.refl w1.heap.size w1).alloc (Nat.le_refl _) (.cells #[.int .u8 0] 5)))
   go_wp2_with (at_builtin;go_must (refine zag (W0:=w1) (L:=[0]) (zs:=zs) rfl _ _ rfl rfl O3.out rfl R3.out NI.out (by simp;omega) ?_;intro V4 w4 ho4;have O4:=zwd ho4;have S4:=zwd (S1.out.go ho4.2);obtain⟨p0,p1,p2,f0,f1,f2⟩:=S4.out.box.six;obtain⟨b4,c4,rfl,hr4⟩:=ho4.row (by intro y hy;rcases List.mem_cons.1 hy with rfl|hy;omega;exact HB.out y hy);have R4:=zwd hr4;clear ho4 hr4))
   exact zah (zs:=0::zs) (c:=c4) F.out rfl rfl rfl S4.out R4.out (fun h0=>by obtain⟨b,off,e,hb⟩:=zbn O4.out h0;exact⟨b,off,e,Nat.lt_of_lt_of_le hlt1 hb⟩) ⟨O4.out.nilc,zaJ O4.out.1⟩ rfl (by have:=HL.out;simp;omega)
 · obtain⟨k,rfl⟩:∃k,n=k+1:=⟨n-1,by have:=H3.out;omega⟩
   obtain⟨b,off,rfl,hbl,hc⟩:=R0.out.2.2 (by omega)
   have l0:=zaf (hc k (by omega))
   have z0:=R0.out.byte k
   have BQ:Hid (zaG zs many=if zs[k]?.getD 0%2≠0 then(zbz,1)else(.node 3 (1::zs) [],0)):=by rw[BZ.out,LZ.out,hq,HL.out];simp[Hid]
   clear BZ LZ hc hbl
   generalize zs[k]?.getD 0=x at*
   have hq2:8*((k:Int)+1)-many=1:=by omega
   have h22:¬8*((k:Int)+1)<many:=by omega
   have t33:((k:Int)+1 !=(many+7)/8)=false:=t3
   have wk:IntKind.i64.wrap (k:Int)=k:=IntWalk.i64_in _ (by omega)
   have kk:(k:Int)<(k:Int)+1:=by omega
   have w8:IntKind.u8.wrap 2=2:=IntWalk.u8_in _ (by omega)
   have tm:x.tmod 2=x%2:=Int.tmod_eq_emod_of_nonneg z0.1
   clear hq h2 t3
   go_wp2_with fail
   generalize hw0:w.alloc (.cells #[.int .i64 0,.slice none 0 0,.slice none 0 0] 30)=w0 at*
   have hlt0:w.heap.size<w0.heap.size:=S0.out.box.lt
   clear hw0
   by_cases hx:x%2=0
   · have F:Hid (zaG zs many=(.node 3 (1::zs) [],0)):=by rw[BQ.out,if_neg (by simpa using hx)];exact zwd rfl
     clear BQ
     refine zaa Ext Ext.refl (fun _ _ _=>Ext.trans) ((0,false)::(1,false)::(2,false)::(3,false)::(4,false)::(5,false)::(6,false)::(7,false)::(8,false)::(9,false)::(10,false)::(11,false)::(12,false)::(13,false)::[]) (by kernel_rfl) (by kernel_rfl) rfl (by kernel_rfl) (fun _ _ _ _ _ h=>h) ?_
     repeat(first|(refine zab _ rfl (by rfl) (fun W hW=>by go_simp;first|done|rfl) ?_;simp only[Act.put,zwe,zwg,zwf])|(refine zaw rfl (by rfl) ?_;simp only[Act.put,zwe,zwg,zwf]))
     refine zai ?_
     clear l0
     have E1:Hid (Ext w0 w0.drew):=Ext.drew (Ext.refl w0)
     generalize w0.drew=w1 at E1⊢
     have R1:=zwd (R0.out.below E1.out)
     have S1:=zwd (S0.out.go E1.out)
     have hlt1:w.heap.size<w1.heap.size:=S1.out.box.lt
     clear R0 S0 E1 hlt0
     have O3:=zwd (zbd w1 1)
     have R3:=zwd (R1.out.below ((Below.refl w1.heap.size w1).alloc (Nat.le_refl _) (.cells #[.int .u8 1] 5)))
     go_wp2_with (at_builtin;go_must (refine zag (W0:=w1) (L:=[1]) (zs:=zs) rfl _ _ rfl rfl O3.out rfl R3.out NI.out (by simp;omega) ?_;intro V4 w4 ho4;have O4:=zwd ho4;have S4:=zwd (S1.out.go ho4.2);obtain⟨p0,p1,p2,f0,f1,f2⟩:=S4.out.box.six;obtain⟨b4,c4,rfl,hr4⟩:=ho4.row (by intro y hy;rcases List.mem_cons.1 hy with rfl|hy;omega;exact HB.out y hy);have R4:=zwd hr4;clear ho4 hr4))
     exact zah (zs:=1::zs) (c:=c4) F.out rfl rfl rfl S4.out R4.out (fun h0=>by obtain⟨b,off,e,hb⟩:=zbn O4.out h0;exact⟨b,off,e,Nat.lt_of_lt_of_le hlt1 hb⟩) ⟨O4.out.nilc,zaJ O4.out.1⟩ rfl (by have:=HL.out;simp;omega)
   · have F:Hid (zaG zs many=(.node 0 [] [],1)):=by rw[BQ.out,if_pos (by simpa using hx)];exact zwd rfl
     have tx:(x%2 !=0)=true:=by simpa using hx
     clear BQ
     have RN:=zwd (Row.nil w0.drew)
     have S4:=zwd (S0.out.go (Ext.drew (Ext.refl w0)))
     refine zaa Ext Ext.refl (fun _ _ _=>Ext.trans) ((0,false)::(1,false)::(2,false)::(3,false)::(4,false)::(5,false)::(6,false)::(7,false)::(8,false)::(9,false)::(10,false)::(11,false)::(12,false)::(13,false)::[]) (by kernel_rfl) (by kernel_rfl) rfl (by kernel_rfl) (fun _ _ _ _ _ h=>h) ?_
     repeat(first|(refine zab _ rfl (by rfl) (fun W hW=>by go_simp;first|done|rfl) ?_;simp only[Act.put,zwe,zwg,zwf])|(refine zaw rfl (by rfl) ?_;simp only[Act.put,zwe,zwg,zwf]))
     refine zai ?_
     clear l0
     generalize w0.drew=w1 at S4 RN⊢
     obtain⟨p0,p1,p2,f0,f1,f2⟩:=S4.out.box.six
     go_wp2_with fail
     exact zah (zs:=[]) (c:=0) F.out rfl rfl rfl S4.out (RN.out _) (fun h=>absurd h (by simp)) ⟨fun _=>rfl,Nat.le_refl _⟩ rfl (by simp)
 · obtain⟨k,rfl⟩:∃k,n=k+1:=⟨n-1,by have:=H3.out;omega⟩
   obtain⟨b,off,rfl,hbl,hc⟩:=R0.out.2.2 (by omega)
   have l0:=zaf (hc k (by omega))
   have z0:=R0.out.byte k
   have BQ:Hid (zaG zs many=if zs[k]?.getD 0%4≠0 then(zbz,1)else(.node 3 (2::zs) [],0)):=by rw[BZ.out,LZ.out,hq,HL.out];simp[Hid]
   clear BZ LZ hc hbl
   generalize zs[k]?.getD 0=x at*
   have hq2:8*((k:Int)+1)-many=2:=by omega
   have h22:¬8*((k:Int)+1)<many:=by omega
   have t33:((k:Int)+1 !=(many+7)/8)=false:=t3
   have wk:IntKind.i64.wrap (k:Int)=k:=IntWalk.i64_in _ (by omega)
   have kk:(k:Int)<(k:Int)+1:=by omega
   have w8:IntKind.u8.wrap 4=4:=IntWalk.u8_in _ (by omega)
   have tm:x.tmod 4=x%4:=Int.tmod_eq_emod_of_nonneg z0.1
   clear hq h2 t3
   go_wp2_with fail
   generalize hw0:w.alloc (.cells #[.int .i64 0,.slice none 0 0,.slice none 0 0] 30)=w0 at*
   have hlt0:w.heap.size<w0.heap.size:=S0.out.box.lt
   clear hw0
   by_cases hx:x%4=0
   · have F:Hid (zaG zs many=(.node 3 (2::zs) [],0)):=by rw[BQ.out,if_neg (by simpa using hx)];exact zwd rfl
     clear BQ
     refine zaa Ext Ext.refl (fun _ _ _=>Ext.trans) ((0,false)::(1,false)::(2,false)::(3,false)::(4,false)::(5,false)::(6,false)::(7,false)::(8,false)::(9,false)::(10,false)::(11,false)::(12,false)::(13,false)::[]) (by kernel_rfl) (by kernel_rfl) rfl (by kernel_rfl) (fun _ _ _ _ _ h=>h) ?_
     repeat(first|(refine zab _ rfl (by rfl) (fun W hW=>by go_simp;first|done|rfl) ?_;simp only[Act.put,zwe,zwg,zwf])|(refine zaw rfl (by rfl) ?_;simp only[Act.put,zwe,zwg,zwf]))
     refine zai ?_
     clear l0
     have E1:Hid (Ext w0 w0.drew):=Ext.drew (Ext.refl w0)
     generalize w0.drew=w1 at E1⊢
     have R1:=zwd (R0.out.below E1.out)
     have S1:=zwd (S0.out.go E1.out)
     have hlt1:w.heap.size<w1.heap.size:=S1.out.box.lt
     clear R0 S0 E1 hlt0
     have O3:=zwd (zbd w1 2)
     have R3:=zwd (R1.out.below ((Below.refl w1.heap.size w1).alloc (Nat.le_refl _) (.cells #[.int .u8 2] 5)))
     go_wp2_with (at_builtin;go_must (refine zag (W0:=w1) (L:=[2]) (zs:=zs) rfl _ _ rfl rfl O3.out rfl R3.out NI.out (by simp;omega) ?_;intro V4 w4 ho4;have O4:=zwd ho4;have S4:=zwd (S1.out.go ho4.2);obtain⟨p0,p1,p2,f0,f1,f2⟩:=S4.out.box.six;obtain⟨b4,c4,rfl,hr4⟩:=ho4.row (by intro y hy;rcases List.mem_cons.1 hy with rfl|hy;omega;exact HB.out y hy);have R4:=zwd hr4;clear ho4 hr4))
     exact zah (zs:=2::zs) (c:=c4) F.out rfl rfl rfl S4.out R4.out (fun h0=>by obtain⟨b,off,e,hb⟩:=zbn O4.out h0;exact⟨b,off,e,Nat.lt_of_lt_of_le hlt1 hb⟩) ⟨O4.out.nilc,zaJ O4.out.1⟩ rfl (by have:=HL.out;simp;omega)
   · have F:Hid (zaG zs many=(.node 0 [] [],1)):=by rw[BQ.out,if_pos (by simpa using hx)];exact zwd rfl
     have tx:(x%4 !=0)=true:=by simpa using hx
     clear BQ
     have RN:=zwd (Row.nil w0.drew)
     have S4:=zwd (S0.out.go (Ext.drew (Ext.refl w0)))
     refine zaa Ext Ext.refl (fun _ _ _=>Ext.trans) ((0,false)::(1,false)::(2,false)::(3,false)::(4,false)::(5,false)::(6,false)::(7,false)::(8,false)::(9,false)::(10,false)::(11,false)::(12,false)::(13,false)::[]) (by kernel_rfl) (by kernel_rfl) rfl (by kernel_rfl) (fun _ _ _ _ _ h=>h) ?_
     repeat(first|(refine zab _ rfl (by rfl) (fun W hW=>by go_simp;first|done|rfl) ?_;simp only[Act.put,zwe,zwg,zwf])|(refine zaw rfl (by rfl) ?_;simp only[Act.put,zwe,zwg,zwf]))
     refine zai ?_
     clear l0
     generalize w0.drew=w1 at S4 RN⊢
     obtain⟨p0,p1,p2,f0,f1,f2⟩:=S4.out.box.six
     go_wp2_with fail
     exact zah (zs:=[]) (c:=0) F.out rfl rfl rfl S4.out (RN.out _) (fun h=>absurd h (by simp)) ⟨fun _=>rfl,Nat.le_refl _⟩ rfl (by simp)
 · obtain⟨k,rfl⟩:∃k,n=k+1:=⟨n-1,by have:=H3.out;omega⟩
   obtain⟨b,off,rfl,hbl,hc⟩:=R0.out.2.2 (by omega)
   have l0:=zaf (hc k (by omega))
   have z0:=R0.out.byte k
   have BQ:Hid (zaG zs many=if zs[k]?.getD 0%8≠0 then(zbz,1)else(.node 3 (3::zs) [],0)):=by rw[BZ.out,LZ.out,hq,HL.out];simp[Hid]
   clear BZ LZ hc hbl
   generalize zs[k]?.getD 0=x at*
   have hq2:8*((k:Int)+1)-many=3:=by omega
   have h22:¬8*((k:Int)+1)<many:=by omega
   have t33:((k:Int)+1 !=(many+7)/8)=false:=t3
   have wk:IntKind.i64.wrap (k:Int)=k:=IntWalk.i64_in _ (by omega)
   have kk:(k:Int)<(k:Int)+1:=by omega
   have w8:IntKind.u8.wrap 8=8:=IntWalk.u8_in _ (by omega)
   have tm:x.tmod 8=x%8:=Int.tmod_eq_emod_of_nonneg z0.1
   clear hq h2 t3
   go_wp2_with fail
   generalize hw0:w.alloc (.cells #[.int .i64 0,.slice none 0 0,.slice none 0 0] 30)=w0 at*
   have hlt0:w.heap.size<w0.heap.size:=S0.out.box.lt
   clear hw0
   by_cases hx:x%8=0
   · have F:Hid (zaG zs many=(.node 3 (3::zs) [],0)):=by rw[BQ.out,if_neg (by simpa using hx)];exact zwd rfl
     clear BQ
     refine zaa Ext Ext.refl (fun _ _ _=>Ext.trans) ((0,false)::(1,false)::(2,false)::(3,false)::(4,false)::(5,false)::(6,false)::(7,false)::(8,false)::(9,false)::(10,false)::(11,false)::(12,false)::(13,false)::[]) (by kernel_rfl) (by kernel_rfl) rfl (by kernel_rfl) (fun _ _ _ _ _ h=>h) ?_
     repeat(first|(refine zab _ rfl (by rfl) (fun W hW=>by go_simp;first|done|rfl) ?_;simp only[Act.put,zwe,zwg,zwf])|(refine zaw rfl (by rfl) ?_;simp only[Act.put,zwe,zwg,zwf]))
     refine zai ?_
     clear l0
     have E1:Hid (Ext w0 w0.drew):=Ext.drew (Ext.refl w0)
     generalize w0.drew=w1 at E1⊢
     have R1:=zwd (R0.out.below E1.out)
     have S1:=zwd (S0.out.go E1.out)
     have hlt1:w.heap.size<w1.heap.size:=S1.out.box.lt
     clear R0 S0 E1 hlt0
     have O3:=zwd (zbd w1 3)
     have R3:=zwd (R1.out.below ((Below.refl w1.heap.size w1).alloc (Nat.le_refl _) (.cells #[.int .u8 3] 5)))
     go_wp2_with (at_builtin;go_must (refine zag (W0:=w1) (L:=[3]) (zs:=zs) rfl _ _ rfl rfl O3.out rfl R3.out NI.out (by simp;omega) ?_;intro V4 w4 ho4;have O4:=zwd ho4;have S4:=zwd (S1.out.go ho4.2);obtain⟨p0,p1,p2,f0,f1,f2⟩:=S4.out.box.six;obtain⟨b4,c4,rfl,hr4⟩:=ho4.row (by intro y hy;rcases List.mem_cons.1 hy with rfl|hy;omega;exact HB.out y hy);have R4:=zwd hr4;clear ho4 hr4))
     exact zah (zs:=3::zs) (c:=c4) F.out rfl rfl rfl S4.out R4.out (fun h0=>by obtain⟨b,off,e,hb⟩:=zbn O4.out h0;exact⟨b,off,e,Nat.lt_of_lt_of_le hlt1 hb⟩) ⟨O4.out.nilc,zaJ O4.out.1⟩ rfl (by have:=HL.out;simp;omega)
   · have F:Hid (zaG zs many=(.node 0 [] [],1)):=by rw[BQ.out,if_pos (by simpa using hx)];exact zwd rfl
     have tx:(x%8 !=0)=true:=by simpa using hx
     clear BQ
     have RN:=zwd (Row.nil w0.drew)
     have S4:=zwd (S0.out.go (Ext.drew (Ext.refl w0)))
     refine zaa Ext Ext.refl (fun _ _ _=>Ext.trans) ((0,false)::(1,false)::(2,false)::(3,false)::(4,false)::(5,false)::(6,false)::(7,false)::(8,false)::(9,false)::(10,false)::(11,false)::(12,false)::(13,false)::[]) (by kernel_rfl) (by kernel_rfl) rfl (by kernel_rfl) (fun _ _ _ _ _ h=>h) ?_
     repeat(first|(refine zab _ rfl (by rfl) (fun W hW=>by go_simp;first|done|rfl) ?_;simp only[Act.put,zwe,zwg,zwf])|(refine zaw rfl (by rfl) ?_;simp only[Act.put,zwe,zwg,zwf]))
     refine zai ?_
     clear l0
     generalize w0.drew=w1 at S4 RN⊢
     obtain⟨p0,p1,p2,f0,f1,f2⟩:=S4.out.box.six
     go_wp2_with fail
     exact zah (zs:=[]) (c:=0) F.out rfl rfl rfl S4.out (RN.out _) (fun h=>absurd h (by simp)) ⟨fun _=>rfl,Nat.le_refl _⟩ rfl (by simp)
 · obtain⟨k,rfl⟩:∃k,n=k+1:=⟨n-1,by have:=H3.out;omega⟩
   obtain⟨b,off,rfl,hbl,hc⟩:=R0.out.2.2 (by omega)
   have l0:=zaf (hc k (by omega))
   have z0:=R0.out.byte k
   have BQ:Hid (zaG zs many=if zs[k]?.getD 0%16≠0 then(zbz,1)else(.node 3 (4::zs) [],0)):=by rw[BZ.out,LZ.out,hq,HL.out];simp[Hid]
   clear BZ LZ hc hbl
   generalize zs[k]?.getD 0=x at*
   have hq2:8*((k:Int)+1)-many=4:=by omega
   have h22:¬8*((k:Int)+1)<many:=by omega
   have t33:((k:Int)+1 !=(many+7)/8)=false:=t3
   have wk:IntKind.i64.wrap (k:Int)=k:=IntWalk.i64_in _ (by omega)
   have kk:(k:Int)<(k:Int)+1:=by omega
   have w8:IntKind.u8.wrap 16=16:=IntWalk.u8_in _ (by omega)
   have tm:x.tmod 16=x%16:=Int.tmod_eq_emod_of_nonneg z0.1
   clear hq h2 t3
   go_wp2_with fail
   generalize hw0:w.alloc (.cells #[.int .i64 0,.slice none 0 0,.slice none 0 0] 30)=w0 at*
   have hlt0:w.heap.size<w0.heap.size:=S0.out.box.lt
   clear hw0
   by_cases hx:x%16=0
   · have F:Hid (zaG zs many=(.node 3 (4::zs) [],0)):=by rw[BQ.out,if_neg (by simpa using hx)];exact zwd rfl
     clear BQ
     refine zaa Ext Ext.refl (fun _ _ _=>Ext.trans) ((0,false)::(1,false)::(2,false)::(3,false)::(4,false)::(5,false)::(6,false)::(7,false)::(8,false)::(9,false)::(10,false)::(11,false)::(12,false)::(13,false)::[]) (by kernel_rfl) (by kernel_rfl) rfl (by kernel_rfl) (fun _ _ _ _ _ h=>h) ?_
     repeat(first|(refine zab _ rfl (by rfl) (fun W hW=>by go_simp;first|done|rfl) ?_;simp only[Act.put,zwe,zwg,zwf])|(refine zaw rfl (by rfl) ?_;simp only[Act.put,zwe,zwg,zwf]))
     refine zai ?_
     clear l0
     have E1:Hid (Ext w0 w0.drew):=Ext.drew (Ext.refl w0)
     generalize w0.drew=w1 at E1⊢
     have R1:=zwd (R0.out.below E1.out)
     have S1:=zwd (S0.out.go E1.out)
     have hlt1:w.heap.size<w1.heap.size:=S1.out.box.lt
     clear R0 S0 E1 hlt0
     have O3:=zwd (zbd w1 4)
     have R3:=zwd (R1.out.below ((Below.refl w1.heap.size w1).alloc (Nat.le_refl _) (.cells #[.int .u8 4] 5)))
     go_wp2_with (at_builtin;go_must (refine zag (W0:=w1) (L:=[4]) (zs:=zs) rfl _ _ rfl rfl O3.out rfl R3.out NI.out (by simp;omega) ?_;intro V4 w4 ho4;have O4:=zwd ho4;have S4:=zwd (S1.out.go ho4.2);obtain⟨p0,p1,p2,f0,f1,f2⟩:=S4.out.box.six;obtain⟨b4,c4,rfl,hr4⟩:=ho4.row (by intro y hy;rcases List.mem_cons.1 hy with rfl|hy;omega;exact HB.out y hy);have R4:=zwd hr4;clear ho4 hr4))
     exact zah (zs:=4::zs) (c:=c4) F.out rfl rfl rfl S4.out R4.out (fun h0=>by obtain⟨b,off,e,hb⟩:=zbn O4.out h0;exact⟨b,off,e,Nat.lt_of_lt_of_le hlt1 hb⟩) ⟨O4.out.nilc,zaJ O4.out.1⟩ rfl (by have:=HL.out;simp;omega)
   · have F:Hid (zaG zs many=(.node 0 [] [],1)):=by rw[BQ.out,if_pos (by simpa using hx)];exact zwd rfl
     have tx:(x%16 !=0)=true:=by simpa using hx
     clear BQ
     have RN:=zwd (Row.nil w0.drew)
     have S4:=zwd (S0.out.go (Ext.drew (Ext.refl w0)))
     refine zaa Ext Ext.refl (fun _ _ _=>Ext.trans) ((0,false)::(1,false)::(2,false)::(3,false)::(4,false)::(5,false)::(6,false)::(7,false)::(8,false)::(9,false)::(10,false)::(11,false)::(12,false)::(13,false)::[]) (by kernel_rfl) (by kernel_rfl) rfl (by kernel_rfl) (fun _ _ _ _ _ h=>h) ?_
     repeat(first|(refine zab _ rfl (by rfl) (fun W hW=>by go_simp;first|done|rfl) ?_;simp only[Act.put,zwe,zwg,zwf])|(refine zaw rfl (by rfl) ?_;simp only[Act.put,zwe,zwg,zwf]))
     refine zai ?_
     clear l0
     generalize w0.drew=w1 at S4 RN⊢
     obtain⟨p0,p1,p2,f0,f1,f2⟩:=S4.out.box.six
     go_wp2_with fail
     exact zah (zs:=[]) (c:=0) F.out rfl rfl rfl S4.out (RN.out _) (fun h=>absurd h (by simp)) ⟨fun _=>rfl,Nat.le_refl _⟩ rfl (by simp)
 · obtain⟨k,rfl⟩:∃k,n=k+1:=⟨n-1,by have:=H3.out;omega⟩
   obtain⟨b,off,rfl,hbl,hc⟩:=R0.out.2.2 (by omega)
   have l0:=zaf (hc k (by omega))
   have z0:=R0.out.byte k
   have BQ:Hid (zaG zs many=if zs[k]?.getD 0%32≠0 then(zbz,1)else(.node 3 (5::zs) [],0)):=by rw[BZ.out,LZ.out,hq,HL.out];simp[Hid]
   clear BZ LZ hc hbl
   generalize zs[k]?.getD 0=x at*
   have hq2:8*((k:Int)+1)-many=5:=by omega
   have h22:¬8*((k:Int)+1)<many:=by omega
   have t33:((k:Int)+1 !=(many+7)/8)=false:=t3
   have wk:IntKind.i64.wrap (k:Int)=k:=IntWalk.i64_in _ (by omega)
   have kk:(k:Int)<(k:Int)+1:=by omega
   have w8:IntKind.u8.wrap 32=32:=IntWalk.u8_in _ (by omega)
   have tm:x.tmod 32=x%32:=Int.tmod_eq_emod_of_nonneg z0.1
   clear hq h2 t3
   go_wp2_with fail
   generalize hw0:w.alloc (.cells #[.int .i64 0,.slice none 0 0,.slice none 0 0] 30)=w0 at*
   have hlt0:w.heap.size<w0.heap.size:=S0.out.box.lt
   clear hw0
   by_cases hx:x%32=0
   · have F:Hid (zaG zs many=(.node 3 (5::zs) [],0)):=by rw[BQ.out,if_neg (by simpa using hx)];exact zwd rfl
     clear BQ
     refine zaa Ext Ext.refl (fun _ _ _=>Ext.trans) ((0,false)::(1,false)::(2,false)::(3,false)::(4,false)::(5,false)::(6,false)::(7,false)::(8,false)::(9,false)::(10,false)::(11,false)::(12,false)::(13,false)::[]) (by kernel_rfl) (by kernel_rfl) rfl (by kernel_rfl) (fun _ _ _ _ _ h=>h) ?_
     repeat(first|(refine zab _ rfl (by rfl) (fun W hW=>by go_simp;first|done|rfl) ?_;simp only[Act.put,zwe,zwg,zwf])|(refine zaw rfl (by rfl) ?_;simp only[Act.put,zwe,zwg,zwf]))
     refine zai ?_
     clear l0
     have E1:Hid (Ext w0 w0.drew):=Ext.drew (Ext.refl w0)
     generalize w0.drew=w1 at E1⊢
     have R1:=zwd (R0.out.below E1.out)
     have S1:=zwd (S0.out.go E1.out)
     have hlt1:w.heap.size<w1.heap.size:=S1.out.box.lt
     clear R0 S0 E1 hlt0
     have O3:=zwd (zbd w1 5)
     have R3:=zwd (R1.out.below ((Below.refl w1.heap.size w1).alloc (Nat.le_refl _) (.cells #[.int .u8 5] 5)))
     go_wp2_with (at_builtin;go_must (refine zag (W0:=w1) (L:=[5]) (zs:=zs) rfl _ _ rfl rfl O3.out rfl R3.out NI.out (by simp;omega) ?_;intro V4 w4 ho4;have O4:=zwd ho4;have S4:=zwd (S1.out.go ho4.2);obtain⟨p0,p1,p2,f0,f1,f2⟩:=S4.out.box.six;obtain⟨b4,c4,rfl,hr4⟩:=ho4.row (by intro y hy;rcases List.mem_cons.1 hy with rfl|hy;omega;exact HB.out y hy);have R4:=zwd hr4;clear ho4 hr4))
     exact zah (zs:=5::zs) (c:=c4) F.out rfl rfl rfl S4.out R4.out (fun h0=>by obtain⟨b,off,e,hb⟩:=zbn O4.out h0;exact⟨b,off,e,Nat.lt_of_lt_of_le hlt1 hb⟩) ⟨O4.out.nilc,zaJ O4.out.1⟩ rfl (by have:=HL.out;simp;omega)
   · have F:Hid (zaG zs many=(.node 0 [] [],1)):=by rw[BQ.out,if_pos (by simpa using hx)];exact zwd rfl
     have tx:(x%32 !=0)=true:=by simpa using hx
     clear BQ
     have RN:=zwd (Row.nil w0.drew)
     have S4:=zwd (S0.out.go (Ext.drew (Ext.refl w0)))
     refine zaa Ext Ext.refl (fun _ _ _=>Ext.trans) ((0,false)::(1,false)::(2,false)::(3,false)::(4,false)::(5,false)::(6,false)::(7,false)::(8,false)::(9,false)::(10,false)::(11,false)::(12,false)::(13,false)::[]) (by kernel_rfl) (by kernel_rfl) rfl (by kernel_rfl) (fun _ _ _ _ _ h=>h) ?_
     repeat(first|(refine zab _ rfl (by rfl) (fun W hW=>by go_simp;first|done|rfl) ?_;simp only[Act.put,zwe,zwg,zwf])|(refine zaw rfl (by rfl) ?_;simp only[Act.put,zwe,zwg,zwf]))
     refine zai ?_
     clear l0
     generalize w0.drew=w1 at S4 RN⊢
     obtain⟨p0,p1,p2,f0,f1,f2⟩:=S4.out.box.six
     go_wp2_with fail
     exact zah (zs:=[]) (c:=0) F.out rfl rfl rfl S4.out (RN.out _) (fun h=>absurd h (by simp)) ⟨fun _=>rfl,Nat.le_refl _⟩ rfl (by simp)
 · obtain⟨k,rfl⟩:∃k,n=k+1:=⟨n-1,by have:=H3.out;omega⟩
   obtain⟨b,off,rfl,hbl,hc⟩:=R0.out.2.2 (by omega)
   have l0:=zaf (hc k (by omega))
   have z0:=R0.out.byte k
   have BQ:Hid (zaG zs many=if zs[k]?.getD 0%64≠0 then(zbz,1)else(.node 3 (6::zs) [],0)):=by rw[BZ.out,LZ.out,hq,HL.out];simp[Hid]
   clear BZ LZ hc hbl
   generalize zs[k]?.getD 0=x at*
   have hq2:8*((k:Int)+1)-many=6:=by omega
   have h22:¬8*((k:Int)+1)<many:=by omega
   have t33:((k:Int)+1 !=(many+7)/8)=false:=t3
   have wk:IntKind.i64.wrap (k:Int)=k:=IntWalk.i64_in _ (by omega)
   have kk:(k:Int)<(k:Int)+1:=by omega
   have w8:IntKind.u8.wrap 64=64:=IntWalk.u8_in _ (by omega)
   have tm:x.tmod 64=x%64:=Int.tmod_eq_emod_of_nonneg z0.1
   clear hq h2 t3
   go_wp2_with fail
   generalize hw0:w.alloc (.cells #[.int .i64 0,.slice none 0 0,.slice none 0 0] 30)=w0 at*
   have hlt0:w.heap.size<w0.heap.size:=S0.out.box.lt
   clear hw0
   by_cases hx:x%64=0
   · have F:Hid (zaG zs many=(.node 3 (6::zs) [],0)):=by rw[BQ.out,if_neg (by simpa using hx)];exact zwd rfl
     clear BQ
     refine zaa Ext Ext.refl (fun _ _ _=>Ext.trans) ((0,false)::(1,false)::(2,false)::(3,false)::(4,false)::(5,false)::(6,false)::(7,false)::(8,false)::(9,false)::(10,false)::(11,false)::(12,false)::(13,false)::[]) (by kernel_rfl) (by kernel_rfl) rfl (by kernel_rfl) (fun _ _ _ _ _ h=>h) ?_
     repeat(first|(refine zab _ rfl (by rfl) (fun W hW=>by go_simp;first|done|rfl) ?_;simp only[Act.put,zwe,zwg,zwf])|(refine zaw rfl (by rfl) ?_;simp only[Act.put,zwe,zwg,zwf]))
     refine zai ?_
     clear l0
     have E1:Hid (Ext w0 w0.drew):=Ext.drew (Ext.refl w0)
     generalize w0.drew=w1 at E1⊢
     have R1:=zwd (R0.out.below E1.out)
     have S1:=zwd (S0.out.go E1.out)
     have hlt1:w.heap.size<w1.heap.size:=S1.out.box.lt
     clear R0 S0 E1 hlt0
     have O3:=zwd (zbd w1 6)
     have R3:=zwd (R1.out.below ((Below.refl w1.heap.size w1).alloc (Nat.le_refl _) (.cells #[.int .u8 6] 5)))
     go_wp2_with (at_builtin;go_must (refine zag (W0:=w1) (L:=[6]) (zs:=zs) rfl _ _ rfl rfl O3.out rfl R3.out NI.out (by simp;omega) ?_;intro V4 w4 ho4;have O4:=zwd ho4;have S4:=zwd (S1.out.go ho4.2);obtain⟨p0,p1,p2,f0,f1,f2⟩:=S4.out.box.six;obtain⟨b4,c4,rfl,hr4⟩:=ho4.row (by intro y hy;rcases List.mem_cons.1 hy with rfl|hy;omega;exact HB.out y hy);have R4:=zwd hr4;clear ho4 hr4))
     exact zah (zs:=6::zs) (c:=c4) F.out rfl rfl rfl S4.out R4.out (fun h0=>by obtain⟨b,off,e,hb⟩:=zbn O4.out h0;exact⟨b,off,e,Nat.lt_of_lt_of_le hlt1 hb⟩) ⟨O4.out.nilc,zaJ O4.out.1⟩ rfl (by have:=HL.out;simp;omega)
   · have F:Hid (zaG zs many=(.node 0 [] [],1)):=by rw[BQ.out,if_pos (by simpa using hx)];exact zwd rfl
     have tx:(x%64 !=0)=true:=by simpa using hx
     clear BQ
     have RN:=zwd (Row.nil w0.drew)
     have S4:=zwd (S0.out.go (Ext.drew (Ext.refl w0)))
     refine zaa Ext Ext.refl (fun _ _ _=>Ext.trans) ((0,false)::(1,false)::(2,false)::(3,false)::(4,false)::(5,false)::(6,false)::(7,false)::(8,false)::(9,false)::(10,false)::(11,false)::(12,false)::(13,false)::[]) (by kernel_rfl) (by kernel_rfl) rfl (by kernel_rfl) (fun _ _ _ _ _ h=>h) ?_
     repeat(first|(refine zab _ rfl (by rfl) (fun W hW=>by go_simp;first|done|rfl) ?_;simp only[Act.put,zwe,zwg,zwf])|(refine zaw rfl (by rfl) ?_;simp only[Act.put,zwe,zwg,zwf]))
     refine zai ?_
     clear l0
     generalize w0.drew=w1 at S4 RN⊢
     obtain⟨p0,p1,p2,f0,f1,f2⟩:=S4.out.box.six
     go_wp2_with fail
     exact zah (zs:=[]) (c:=0) F.out rfl rfl rfl S4.out (RN.out _) (fun h=>absurd h (by simp)) ⟨fun _=>rfl,Nat.le_refl _⟩ rfl (by simp)
 · obtain⟨k,rfl⟩:∃k,n=k+1:=⟨n-1,by have:=H3.out;omega⟩
   obtain⟨b,off,rfl,hbl,hc⟩:=R0.out.2.2 (by omega)
   have l0:=zaf (hc k (by omega))
   have z0:=R0.out.byte k
   have BQ:Hid (zaG zs many=if zs[k]?.getD 0%128≠0 then(zbz,1)else(.node 3 (7::zs) [],0)):=by rw[BZ.out,LZ.out,hq,HL.out];simp[Hid]
   clear BZ LZ hc hbl
   generalize zs[k]?.getD 0=x at*
   have hq2:8*((k:Int)+1)-many=7:=by omega
   have h22:¬8*((k:Int)+1)<many:=by omega
   have t33:((k:Int)+1 !=(many+7)/8)=false:=t3
   have wk:IntKind.i64.wrap (k:Int)=k:=IntWalk.i64_in _ (by omega)
   have kk:(k:Int)<(k:Int)+1:=by omega
   have w8:IntKind.u8.wrap 128=128:=IntWalk.u8_in _ (by omega)
   have tm:x.tmod 128=x%128:=Int.tmod_eq_emod_of_nonneg z0.1
   clear hq h2 t3
   go_wp2_with fail
   generalize hw0:w.alloc (.cells #[.int .i64 0,.slice none 0 0,.slice none 0 0] 30)=w0 at*
   have hlt0:w.heap.size<w0.heap.size:=S0.out.box.lt
   clear hw0
   by_cases hx:x%128=0
   · have F:Hid (zaG zs many=(.node 3 (7::zs) [],0)):=by rw[BQ.out,if_neg (by simpa using hx)];exact zwd rfl
     clear BQ
     refine zaa Ext Ext.refl (fun _ _ _=>Ext.trans) ((0,false)::(1,false)::(2,false)::(3,false)::(4,false)::(5,false)::(6,false)::(7,false)::(8,false)::(9,false)::(10,false)::(11,false)::(12,false)::(13,false)::[]) (by kernel_rfl) (by kernel_rfl) rfl (by kernel_rfl) (fun _ _ _ _ _ h=>h) ?_
     repeat(first|(refine zab _ rfl (by rfl) (fun W hW=>by go_simp;first|done|rfl) ?_;simp only[Act.put,zwe,zwg,zwf])|(refine zaw rfl (by rfl) ?_;simp only[Act.put,zwe,zwg,zwf]))
     refine zai ?_
     clear l0
     have E1:Hid (Ext w0 w0.drew):=Ext.drew (Ext.refl w0)
     generalize w0.drew=w1 at E1⊢
     have R1:=zwd (R0.out.below E1.out)
     have S1:=zwd (S0.out.go E1.out)
     have hlt1:w.heap.size<w1.heap.size:=S1.out.box.lt
     clear R0 S0 E1 hlt0
     have O3:=zwd (zbd w1 7)
     have R3:=zwd (R1.out.below ((Below.refl w1.heap.size w1).alloc (Nat.le_refl _) (.cells #[.int .u8 7] 5)))
     go_wp2_with (at_builtin;go_must (refine zag (W0:=w1) (L:=[7]) (zs:=zs) rfl _ _ rfl rfl O3.out rfl R3.out NI.out (by simp;omega) ?_;intro V4 w4 ho4;have O4:=zwd ho4;have S4:=zwd (S1.out.go ho4.2);obtain⟨p0,p1,p2,f0,f1,f2⟩:=S4.out.box.six;obtain⟨b4,c4,rfl,hr4⟩:=ho4.row (by intro y hy;rcases List.mem_cons.1 hy with rfl|hy;omega;exact HB.out y hy);have R4:=zwd hr4;clear ho4 hr4))
     exact zah (zs:=7::zs) (c:=c4) F.out rfl rfl rfl S4.out R4.out (fun h0=>by obtain⟨b,off,e,hb⟩:=zbn O4.out h0;exact⟨b,off,e,Nat.lt_of_lt_of_le hlt1 hb⟩) ⟨O4.out.nilc,zaJ O4.out.1⟩ rfl (by have:=HL.out;simp;omega)
   · have F:Hid (zaG zs many=(.node 0 [] [],1)):=by rw[BQ.out,if_pos (by simpa using hx)];exact zwd rfl
     have tx:(x%128 !=0)=true:=by simpa using hx
     clear BQ
     have RN:=zwd (Row.nil w0.drew)
     have S4:=zwd (S0.out.go (Ext.drew (Ext.refl w0)))
     refine zaa Ext Ext.refl (fun _ _ _=>Ext.trans) ((0,false)::(1,false)::(2,false)::(3,false)::(4,false)::(5,false)::(6,false)::(7,false)::(8,false)::(9,false)::(10,false)::(11,false)::(12,false)::(13,false)::[]) (by kernel_rfl) (by kernel_rfl) rfl (by kernel_rfl) (fun _ _ _ _ _ h=>h) ?_
     repeat(first|(refine zab _ rfl (by rfl) (fun W hW=>by go_simp;first|done|rfl) ?_;simp only[Act.put,zwe,zwg,zwf])|(refine zaw rfl (by rfl) ?_;simp only[Act.put,zwe,zwg,zwf]))
     refine zai ?_
     clear l0
     generalize w0.drew=w1 at S4 RN⊢
     obtain⟨p0,p1,p2,f0,f1,f2⟩:=S4.out.box.six
     go_wp2_with fail
     exact zah (zs:=[]) (c:=0) F.out rfl rfl rfl S4.out (RN.out _) (fun h=>absurd h (by simp)) ⟨fun _=>rfl,Nat.le_refl _⟩ rfl (by simp)
end Go.Proofs.YtpgahclpbdpbnaaGreatDoor
namespace Go.Proofs.YtpgahclpbdpbnaaGreatDoor
open Go.RowKit
set_option linter.unusedVariables false
def ofZ (t:T):List Int×Int×Int:=
 if t.body=[] \/7<t.body[(0:Nat)]?.getD 0 then([],0,2)
 else if(zaG (t.body.drop 1) (8*((t.body.drop 1).length:Int)-t.body[(0:Nat)]?.getD 0)).2=0/\ zaW (zaG (t.body.drop 1) (8*((t.body.drop 1).length:Int)-t.body[(0:Nat)]?.getD 0)).1 t=true
 then(t.body.drop 1,8*((t.body.drop 1).length:Int)-t.body[(0:Nat)]?.getD 0,0)else([],0,2)
def zl8 (x:List Int×Int×Int) (w:World) (e:Ending) (w':World):Prop:=
 ∃a c,e= .returned (.tuple #[.slice a x.1.length c,.int .i64 x.2.1,.int .i64 x.2.2])/\ Row w' a x.1.length x.1/\ (a=none->c=0)/\ x.1.length<=c/\ Below w.heap.size w w'
theorem zbP {x:List Int×Int×Int} {w w':World} (h:x=([],0,2)) (hb:Below w.heap.size w w'):zl8 x w (.returned (.tuple #[.slice none 0 0,.int .i64 0,.int .i64 2])) w':=by
 subst h
 exact⟨Option.none,0,rfl,Row.nil _ _,fun _=>rfl,Nat.le_refl _,hb⟩
theorem znn (zs:List Int) (many:Int):(zaG zs many).2=0 \/(zaG zs many).2=1:=by
 unfold zaG
 split
 · split
   · exact .inr rfl
   · exact .inl rfl
 · exact .inr rfl
theorem zuC (t:T) (v:Value) (w:World) (hin:t.In w v) (hcap:ziG v) (hwt:t.body.length<=100000):Calls Tryz.prog 60 #[v] w (zl8 (ofZ t) w):=by
 obtain⟨A,n,c,K,m,d,rfl,hw,hr,hn,hc,hm,hm',hks⟩:=hin.open
 have hnc:=hcap.is
 have BX:=zwd (Box.start hin)
 have GZ:Hid (ofZ t=ofZ t):=rfl
 have HL:=zwd hr.1
 have R0:=zwd (hr.below BX.out.below)
 have HB:=zwd hr.2.1
 obtain⟨g0,g1,g2⟩:=BX.out.cells
 have hln:=hr.1
 clear hks hin hcap hm hm' hw hn hr
 go_enter Tryz.func60,Tryz.ntmps60
 generalize hw2:w.alloc (.cells #[.int .i64 t.tag,.slice A n c,.slice K m d] 30)=w2 at*
 by_cases hn0:n=0
 · have F:Hid (ofZ t=([],0,2)):=if_pos (.inl (List.eq_nil_of_length_eq_zero (by omega)))
   subst hn0
   go_wp2_with fail
   go_ret3
   exact zbP F.out BX.out.below
 obtain⟨b,off,rfl,hbl,hcell⟩:=R0.out.2.2 (by omega)
 have c0:=hcell 0 (by omega)
 rw[Nat.add_zero]at c0
 have z0:=R0.out.byte 0
 have hlt2:w.heap.size<w2.heap.size:=BX.out.blk.lt
 clear hcell
 by_cases h7:7<t.body[(0:Nat)]?.getD 0
 · have F:Hid (ofZ t=([],0,2)):=if_pos (.inr h7)
   generalize t.body[(0:Nat)]?.getD 0=x at*
   have t0:((n:Int)==0)=false:=by simp;omega
   go_wp2_with fail
   go_ret3
   exact zbP F.out BX.out.below
 have GX:Hid (ofZ t=if(zaG (t.body.drop 1) (8*((t.body.drop 1).length:Int)-t.body[(0:Nat)]?.getD 0)).2=0/\ zaW (zaG (t.body.drop 1) (8*((t.body.drop 1).length:Int)-t.body[(0:Nat)]?.getD 0)).1 t=true then(t.body.drop 1,8*((t.body.drop 1).length:Int)-t.body[(0:Nat)]?.getD 0,0)else([],0,2)):=
  if_neg (fun h=>by
   rcases h with h|h
   · rw[h]at hln;simp at hln;omega
   · exact h7 h)
 have RW:=R0.out.rest 1 c (by omega) hnc
 have hrl:(t.body.drop 1).length=n-1:=by rw[List.length_drop];omega
 generalize t.body[(0:Nat)]?.getD 0=x at*
 have t0:((n:Int)==0)=false:=by simp;omega
 have hby:∀y∈t.body.drop 1,0<=y/\ y<=255:=fun y hy=>HB.out y (List.mem_of_mem_drop hy)
 have BY:=zwd hby
 generalize t.body.drop 1=r at*
 have n1:1<=n:=by omega
 obtain⟨k,rfl⟩:∃k,n=k+1:=⟨n-1,by omega⟩
 have hrk:r.length=k:=by omega
 clear hby hn0 hrl hln
 subst hrk
 have hrb:r.length<=100000:=by have:=HL.out;omega
 by_cases hck:c=1
 · subst hck
   have r0:r=[]:=List.eq_nil_of_length_eq_zero (by omega)
   subst r0
   simp only[List.length_nil,Nat.zero_add]at hw2 g1 t0
   have RX:=zwd (Row.nil (w2.alloc (.cells #[] 5)))
   clear RW
   go_wp2_with (at_builtin;go_must (refine zag (W0:=w2) (L:=[]) (zs:=[]) rfl _ _ rfl rfl (zdJ w2) rfl (RX.out _) (fun _=>rfl) (by simp) ?_;intro V1 w3 ho1;rw[List.nil_append]at ho1;have HO:=zwd ho1;have B3:=zwd (BX.out.go ho1.2);have c3b:=(ho1.2.cell (p:=⟨b,off,none⟩) hbl).trans c0;obtain⟨b1,c1,rfl,hr1⟩:=ho1.row BY.out;have R3:=zwd hr1;clear g0 g1 g2 c0 ho1 hr1;obtain⟨g0,g1,g2⟩:=B3.out.cells))
   have GY:Hid (ofZ t=if(zaG [] (-x)).2=0/\ zaW (zaG [] (-x)).1 t=true then([],-x,0)else([],0,2)):=by have:=GX.out;simp at this;exact this
   clear GX
   have CB:=zwd (zhz b1 0 c1 [] (-x) w3 R3.out (by omega) HO.out.nilc)
   have HE:=znn [] (-x)
   generalize zaG [] (-x)=X at*
   go_wp2_with fail
   refine CB.out.mono ?_
   rintro e w4 ⟨A3,n3,c3,K3,m3,d3,rfl,hin3,hb3⟩
   have B4:=zwd ((B3.out.go hb3).go ((Below.refl w4.heap.size w4).alloc (Nat.le_refl _) (.cells #[.int .i64 X.1.tag,.slice A3 n3 c3,.slice K3 m3 d3] 30)))
   have X4:=zwd (T.In.below ((Below.refl w4.heap.size w4).alloc (Nat.le_refl _) (.cells #[.int .i64 X.1.tag,.slice A3 n3 c3,.slice K3 m3 d3] 30)) X.1 (T.InP.in _ hin3))
   have R4:=zwd ((R3.out.below hb3).below ((Below.refl w4.heap.size w4).alloc (Nat.le_refl _) (.cells #[.int .i64 X.1.tag,.slice A3 n3 c3,.slice K3 m3 d3] 30)))
   clear hin3 hb3 B3 CB g0 g1 g2 c3b
   obtain⟨g0,g1,g2⟩:=B4.out.cells
   obtain⟨xt,xe⟩:=X
   rcases HE with rfl|rfl
   · have CS:=zwd (zdR xt t _ _ _ X4.out B4.out.has)
     clear X4
     go_wp2_with fail
     refine CS.out.mono ?_
     rintro e w5 ⟨rfl,hb5⟩
     have B5:=zwd (B4.out.go hb5)
     have R5:=zwd (R4.out.below hb5)
     clear hb5 CS B4 g0 g1 g2
     cases hs:zaW xt t
     · have F:Hid (ofZ t=([],0,2)):=by rw[GY.out,hs];rfl
       clear GY
       go_wp2_with fail
       go_ret3
       exact zbP F.out B5.out.below
     · have F:Hid (ofZ t=([],-x,0)):=by rw[GY.out,hs];rfl
       clear GY
       go_wp2_with fail
       go_ret3
       rw[F.out]
       exact⟨b1,c1,rfl,R5.out,HO.out.nilc,zaJ HO.out.1,B5.out.below⟩
   · have F:Hid (ofZ t=([],0,2)):=by rw[GY.out];simp[Hid]
     clear GY
     go_wp2_with fail
     go_ret3
     exact zbP F.out B4.out.below
 · rw[if_neg hck,Option.map_some,Addr.add_lit]at RW
   have RX:=zwd (RW.below ((Below.refl w2.heap.size w2).alloc (Nat.le_refl _) (.cells #[] 5)))
   clear RW
   go_wp2_with (at_builtin;go_must (refine zag (W0:=w2) (L:=[]) (zs:=r) rfl _ _ rfl rfl (zdJ w2) rfl RX.out (fun e=>by cases e) (by simp;omega) ?_;intro V1 w3 ho1;rw[List.nil_append]at ho1;have HO:=zwd ho1;have B3:=zwd (BX.out.go ho1.2);have c3b:=(ho1.2.cell (p:=⟨b,off,none⟩) hbl).trans c0;obtain⟨b1,c1,rfl,hr1⟩:=ho1.row BY.out;have R3:=zwd hr1;clear g0 g1 g2 c0 ho1 hr1;obtain⟨g0,g1,g2⟩:=B3.out.cells))
   have CB:=zwd (zhz b1 r.length c1 r (8*(r.length:Int)-x) w3 R3.out (by omega) HO.out.nilc)
   have HE:=znn r (8*(r.length:Int)-x)
   generalize zaG r (8*(r.length:Int)-x)=X at*
   go_wp2_with fail
   refine CB.out.mono ?_
   rintro e w4 ⟨A3,n3,c3,K3,m3,d3,rfl,hin3,hb3⟩
   have B4:=zwd ((B3.out.go hb3).go ((Below.refl w4.heap.size w4).alloc (Nat.le_refl _) (.cells #[.int .i64 X.1.tag,.slice A3 n3 c3,.slice K3 m3 d3] 30)))
   have X4:=zwd (T.In.below ((Below.refl w4.heap.size w4).alloc (Nat.le_refl _) (.cells #[.int .i64 X.1.tag,.slice A3 n3 c3,.slice K3 m3 d3] 30)) X.1 (T.InP.in _ hin3))
   have R4:=zwd ((R3.out.below hb3).below ((Below.refl w4.heap.size w4).alloc (Nat.le_refl _) (.cells #[.int .i64 X.1.tag,.slice A3 n3 c3,.slice K3 m3 d3] 30)))
   clear hin3 hb3 B3 CB g0 g1 g2 c3b
   obtain⟨g0,g1,g2⟩:=B4.out.cells
   obtain⟨xt,xe⟩:=X
   rcases HE with rfl|rfl
   · have CS:=zwd (zdR xt t _ _ _ X4.out B4.out.has)
     clear X4
     go_wp2_with fail
     refine CS.out.mono ?_
     rintro e w5 ⟨rfl,hb5⟩
     have B5:=zwd (B4.out.go hb5)
     have R5:=zwd (R4.out.below hb5)
     clear hb5 CS B4 g0 g1 g2
     cases hs:zaW xt t
     · have F:Hid (ofZ t=([],0,2)):=by rw[GX.out,hs];rfl
       clear GX
       go_wp2_with fail
       go_ret3
       exact zbP F.out B5.out.below
     · have F:Hid (ofZ t=(r,8*(r.length:Int)-x,0)):=by rw[GX.out,hs];rfl
       clear GX
       go_wp2_with fail
       go_ret3
       rw[F.out]
       exact⟨b1,c1,rfl,R5.out,HO.out.nilc,zaJ HO.out.1,B5.out.below⟩
   · have F:Hid (ofZ t=([],0,2)):=by rw[GX.out];simp[Hid]
     clear GX
     go_wp2_with fail
     go_ret3
     exact zbP F.out B4.out.below
end Go.Proofs.YtpgahclpbdpbnaaGreatDoor
namespace Go.Proofs.YtpgahclpbdpbnaaGreatDoor
open Go.RowKit
set_option linter.unusedVariables false
theorem zfy (v:Int) (w:World) (h0:0<=v) (h1:v<18446744073709551616):Calls Tryz.prog 139 #[.int .u64 v] w (zdK (zbl v.toNat) w):=by
 obtain⟨n,rfl⟩:=Int.eq_ofNat_of_zero_le h0
 rw[Int.toNat_natCast]
 exact zqf n w (by omega)
def zde (zs:List Int):Prop:=2<=zs.length/\ zs.length<=20/\ zs[(0:Nat)]?.getD 0<=2/\ zs[(1:Nat)]?.getD 0<=4294967200/\ (zs[(1:Nat)]?.getD 0<=39 \/zs[(0:Nat)]?.getD 0=2)
instance (zs:List Int):Decidable (zde zs):=by unfold zde;infer_instance
def zcy (zs:List Int):List Int:=zs.flatMap fun z=>zbl z.toNat
theorem ze7 {zs:List Int} {k:Nat} (h:k<zs.length):zcy (zs.drop k)=zbl (zs[k]?.getD 0).toNat++zcy (zs.drop (k+1)):=by
 unfold zcy
 rw[List.drop_eq_getElem_cons h,List.flatMap_cons,List.getElem?_eq_getElem h]
 rfl
def oidB (zs:List Int):List Int:=zbl (40*zs[(0:Nat)]?.getD 0+zs[(1:Nat)]?.getD 0).toNat++zcy (zs.drop 2)
def oidZ (zs:List Int):T×Int:=if zde zs then(.node 6 (oidB zs) [],0)else(zbz,1)
theorem zs5 (a:Option Addr) (n ca:Nat) (zs:List Int) (w:World) (hr:zat w a n zs):Calls Tryz.prog 91 #[.slice a n ca] w (zaQ (oidZ zs) w):=by
 have S0:=zwd (RB.start w)
 have R0:=zwd (hr.below S0.out.below)
 have HL:=zwd hr.1
 clear hr
 have FB:zde zs↔(2<=n/\ n<=20/\ zs[(0:Nat)]?.getD 0<=2/\ zs[(1:Nat)]?.getD 0<=4294967200/\ (zs[(1:Nat)]?.getD 0<=39 \/zs[(0:Nat)]?.getD 0=2)):=by unfold zde;rw[HL.out]
 have x0:=R0.out.num 0
 have x1:=R0.out.num 1
 have BZ:Hid (zde zs->oidZ zs=(.node 6 (zbl (40*zs[(0:Nat)]?.getD 0+zs[(1:Nat)]?.getD 0).toNat++zcy (zs.drop 2)) [],0)):=fun h=>if_pos h
 have NZ:Hid (¬zde zs->oidZ zs=(.node 0 [] [],1)):=fun h=>if_neg h
 have RN:=zwd (Row.nil (w.alloc (.cells #[.int .i64 0,.slice none 0 0,.slice none 0 0] 30)))
 go_enter Tryz.func91,Tryz.ntmps91
 by_cases h2:2<=n
 rotate_left
 · have F:=zwd (NZ.out (by rw[FB];omega))
   go_wp2_with fail
   exact zbp (zs:=[]) (c:=0) F.out rfl rfl rfl S0.out.box S0.out.below (RN.out _) (fun h=>absurd h (by simp)) ⟨fun _=>rfl,Nat.le_refl _⟩ rfl (by simp)
 by_cases h20:n<=20
 rotate_left
 · have F:=zwd (NZ.out (by rw[FB];omega))
   go_wp2_with fail
   exact zbp (zs:=[]) (c:=0) F.out rfl rfl rfl S0.out.box S0.out.below (RN.out _) (fun h=>absurd h (by simp)) ⟨fun _=>rfl,Nat.le_refl _⟩ rfl (by simp)
 obtain⟨b,off,rfl,hbl,hcell⟩:=R0.out.2.2 (by omega)
 have c0:=hcell 0 (by omega)
 have c1:=hcell 1 (by omega)
 rw[Nat.add_zero]at c0
 clear hcell
 generalize zs[(0:Nat)]?.getD 0=p at*
 generalize zs[(1:Nat)]?.getD 0=q at*
 by_cases hp:p<=2
 rotate_left
 · have F:=zwd (NZ.out (by rw[FB];omega))
   go_wp2_with fail
   exact zbp (zs:=[]) (c:=0) F.out rfl rfl rfl S0.out.box S0.out.below (RN.out _) (fun h=>absurd h (by simp)) ⟨fun _=>rfl,Nat.le_refl _⟩ rfl (by simp)
 by_cases hq:q<=4294967200
 rotate_left
 · have F:=zwd (NZ.out (by rw[FB];omega))
   go_wp2_with fail
   exact zbp (zs:=[]) (c:=0) F.out rfl rfl rfl S0.out.box S0.out.below (RN.out _) (fun h=>absurd h (by simp)) ⟨fun _=>rfl,Nat.le_refl _⟩ rfl (by simp)
 by_cases hpq:q<=39 \/p=2
 rotate_left
 · have F:=zwd (NZ.out (by rw[FB];omega))
   have t2:(p !=2)=true:=by simp;omega
   have t3:¬q<=39:=by omega
   clear hpq
   go_wp2_with fail
   exact zbp (zs:=[]) (c:=0) F.out rfl rfl rfl S0.out.box S0.out.below (RN.out _) (fun h=>absurd h (by simp)) ⟨fun _=>rfl,Nat.le_refl _⟩ rfl (by simp)
 have G:=zwd (BZ.out (FB.2 ⟨h2,h20,hp,hq,hpq⟩))
 have kp:IntKind.u64.wrap p=p:=IntWalk.u64_in _ (by omega)
 have kq:IntKind.u64.wrap q=q:=IntWalk.u64_in _ (by omega)
 have kpp:IntKind.u64.wrap (40*p)=40*p:=IntWalk.u64_in _ (by omega)
 have kpq:IntKind.u64.wrap (40*p+q)=40*p+q:=IntWalk.u64_in _ (by omega)
 have k0:(0:Int)<(n:Int):=by omega
 have k1:(1:Int)<(n:Int):=by omega
 clear BZ NZ FB RN
 by_cases h39:q<=39
 · clear hpq
   go_wp2_with fail
   generalize hw0:w.alloc (.cells #[.int .i64 0,.slice none 0 0,.slice none 0 0] 30)=w0 at*
   clear hw0
   have hlt0:w.heap.size<w0.heap.size:=S0.out.box.lt
   have l0:=zaf c0
   have l1:=zaf c1
   clear c0 c1
   refine zaa Ext Ext.refl (fun _ _ _=>Ext.trans) ((0,false)::(1,false)::(2,false)::(3,false)::(4,false)::(5,false)::(6,false)::(7,false)::(8,false)::(9,false)::(10,true)::(11,false)::[]) (by kernel_rfl) (by kernel_rfl) rfl (by kernel_rfl) (fun _ _ _ _ _ h=>h) ?_
   repeat(refine zab _ rfl (by rfl) (fun W hW=>by go_simp;first|done|rfl) ?_;simp only[Act.put,zwe,zwg,zwf])
   clear l0 l1
   refine zad rfl (by rfl) (fun K1 hK1=> ?_)
   go_simp
   refine(zfy (40*p+q) _ (by omega) (by omega)).mono ?_
   rintro e w1 ⟨V,rfl,ho⟩
   have hb1:Ext w0 w1:=Ext.of_drew ho.2
   have O1:=zwd (ho.wider (Ext.drew (Ext.refl w0)))
   refine hK1 _ _ ho.2 ?_
   clear hK1 K1 ho
   clear hb1
   repeat(refine zab _ rfl (by rfl) (fun W hW=>by go_simp;first|done|rfl) ?_;simp only[Act.put,zwe,zwg,zwf])
   refine zai ?_
   have hl7:=zdb (n:=(40*p+q).toNat) (by omega)
   have SB:=zwd (zc3 (40*p+q).toNat)
   generalize zbl (40*p+q).toNat=L0 at*
   go_wp2_with fail
   go_loopw [4,5] (fun V i wr=>∃(k:Nat) (L:List Int),2<=k/\ k<=n/\ i= .int .i64 (k:Int)/\ Out w0 wr V L/\ (∀x∈L,0<=x/\ x<=255)/\ L.length<=10*k/\ L++zcy (zs.drop k)=L0++zcy (zs.drop 2)) (fun _ i _=>n-(intOf i).toNat)
   case atStart=>exact⟨2,L0,by omega,by omega,rfl,O1.out,SB.out,by omega,rfl⟩
   case round=>
    obtain⟨k,L,hk2,hk,rfl,ho,hby,hll,hs⟩:=hrel
    have HO:=zwd ho
    have HB:=zwd hby
    have HS:=zwd hs
    obtain⟨aV,cV,rfl,hrV⟩:=ho.row hby
    have RV:=zwd hrV
    clear ho hby hs hrV O1 SB hl7
    by_cases hlt:k<n
    · obtain⟨b',off',e',hbl',hcell'⟩:=(R0.out.below HO.out.2).2.2 (by omega)
      injection e' with e'
      injection e' with e1 e2
      subst e1 e2
      have ck:=hcell' k hlt
      have xk:=R0.out.num k
      have ST:=zwd (ze7 (zs:=zs) (k:=k) (by rw[HL.out];exact hlt))
      clear hcell' hbl'
      generalize zs[k]?.getD 0=x at*
      have kx:IntKind.u64.wrap x=x:=IntWalk.u64_in _ (by omega)
      have kk:(k:Int)<(n:Int):=by omega
      go_wp2_with fail
      refine(zfy x _ (by omega) (by omega)).mono ?_
      rintro e w2 ⟨V7,rfl,ho7⟩
      have B7:=zwd (zc3 x.toNat)
      have l7:=zdb (n:=x.toNat) (by omega)
      obtain⟨a7,c7,rfl,hr7⟩:=ho7.row B7.out
      have R7:=zwd hr7
      have N7:=zwd ho7.nilc
      have O7:=zwd (HO.out.below ho7.2)
      clear ho7 hr7 HO ck
      generalize zbl x.toNat=L7 at*
      go_wp2_with (at_builtin;go_must (refine zag (W0:=w0) (L:=L) (zs:=L7) rfl _ _ rfl rfl O7.out rfl R7.out N7.out (by omega) ?_;intro V4 w4 ho4;have O4:=zwd ho4;clear ho4))
      go_roundw
      case rel=>exact⟨k+1,L++L7,by omega,by omega,by go_num,O4.out,(by intro y hy;rcases List.mem_append.1 hy with hy|hy;exact HB.out y hy;exact B7.out y hy),by rw[List.length_append];omega,by rw[List.append_assoc,<-ST.out];exact HS.out⟩
      case measure=>simp[intOf];omega
    · obtain rfl:k=n:=by omega
      have F:Hid (oidZ zs=(.node 6 L [],0)):=by
       rw[G.out,<-HS.out,List.drop_of_length_le (by rw[HL.out];exact Nat.le_refl _)]
       simp[zcy,Hid]
      have S1:=zwd (S0.out.go HO.out.2)
      obtain⟨p0,p1,p2,f0,f1,f2⟩:=S1.out.box.six
      clear HS
      go_wp2_with fail
      exact zah (zs:=L) (c:=cV) F.out rfl rfl rfl S1.out RV.out (fun h0=>by obtain⟨b,off,e,hb⟩:=zbn HO.out h0;exact⟨b,off,e,Nat.lt_of_lt_of_le hlt0 hb⟩) ⟨HO.out.nilc,zaJ HO.out.1⟩ rfl (by omega)
 · obtain rfl:p=2:=by omega
   have G2:Hid (oidZ zs=(.node 6 (zbl (80+q).toNat++zcy (zs.drop 2)) [],0)):=by
    have:=G.out
    rw[show(40:Int)*2=80 by rfl]at this
    exact this
   have k2:IntKind.u64.wrap 2=2:=IntWalk.u64_in _ (by omega)
   have k80:IntKind.u64.wrap 80=80:=IntWalk.u64_in _ (by omega)
   have k80q:IntKind.u64.wrap (80+q)=80+q:=IntWalk.u64_in _ (by omega)
   clear G hpq kp kpp kpq
   go_wp2_with fail
   generalize hw0:w.alloc (.cells #[.int .i64 0,.slice none 0 0,.slice none 0 0] 30)=w0 at*
   clear hw0
   have hlt0:w.heap.size<w0.heap.size:=S0.out.box.lt
   have l0:=zaf c0
   have l1:=zaf c1
   clear c0 c1
   refine zaa Ext Ext.refl (fun _ _ _=>Ext.trans) ((0,false)::(1,false)::(2,false)::(3,false)::(4,false)::(5,false)::(6,false)::(7,false)::(8,false)::(9,false)::(10,true)::(11,false)::[]) (by kernel_rfl) (by kernel_rfl) rfl (by kernel_rfl) (fun _ _ _ _ _ h=>h) ?_
   repeat(refine zab _ rfl (by rfl) (fun W hW=>by go_simp;first|done|rfl) ?_;simp only[Act.put,zwe,zwg,zwf])
   clear l0 l1
   refine zad rfl (by rfl) (fun K1 hK1=> ?_)
   go_simp
   refine(zfy (80+q) _ (by omega) (by omega)).mono ?_
   rintro e w1 ⟨V,rfl,ho⟩
   have hb1:Ext w0 w1:=Ext.of_drew ho.2
   have O1:=zwd (ho.wider (Ext.drew (Ext.refl w0)))
   refine hK1 _ _ ho.2 ?_
   clear hK1 K1 ho
   clear hb1
   repeat(refine zab _ rfl (by rfl) (fun W hW=>by go_simp;first|done|rfl) ?_;simp only[Act.put,zwe,zwg,zwf])
   refine zai ?_
   have hl7:=zdb (n:=(80+q).toNat) (by omega)
   have SB:=zwd (zc3 (80+q).toNat)
   generalize zbl (80+q).toNat=L0 at*
   go_wp2_with fail
   go_loopw [4,5] (fun V i wr=>∃(k:Nat) (L:List Int),2<=k/\ k<=n/\ i= .int .i64 (k:Int)/\ Out w0 wr V L/\ (∀x∈L,0<=x/\ x<=255)/\ L.length<=10*k/\ L++zcy (zs.drop k)=L0++zcy (zs.drop 2)) (fun _ i _=>n-(intOf i).toNat)
   case atStart=>exact⟨2,L0,by omega,by omega,rfl,O1.out,SB.out,by omega,rfl⟩
   case round=>
    obtain⟨k,L,hk2,hk,rfl,ho,hby,hll,hs⟩:=hrel
    have HO:=zwd ho
    have HB:=zwd hby
    have HS:=zwd hs
    obtain⟨aV,cV,rfl,hrV⟩:=ho.row hby
    have RV:=zwd hrV
    clear ho hby hs hrV O1 SB hl7
    by_cases hlt:k<n
    · obtain⟨b',off',e',hbl',hcell'⟩:=(R0.out.below HO.out.2).2.2 (by omega)
      injection e' with e'
      injection e' with e1 e2
      subst e1 e2
      have ck:=hcell' k hlt
      have xk:=R0.out.num k
      have ST:=zwd (ze7 (zs:=zs) (k:=k) (by rw[HL.out];exact hlt))
      clear hcell' hbl'
      generalize zs[k]?.getD 0=x at*
      have kx:IntKind.u64.wrap x=x:=IntWalk.u64_in _ (by omega)
      have kk:(k:Int)<(n:Int):=by omega
      go_wp2_with fail
      refine(zfy x _ (by omega) (by omega)).mono ?_
      rintro e w2 ⟨V7,rfl,ho7⟩
      have B7:=zwd (zc3 x.toNat)
      have l7:=zdb (n:=x.toNat) (by omega)
      obtain⟨a7,c7,rfl,hr7⟩:=ho7.row B7.out
      have R7:=zwd hr7
      have N7:=zwd ho7.nilc
      have O7:=zwd (HO.out.below ho7.2)
      clear ho7 hr7 HO ck
      generalize zbl x.toNat=L7 at*
      go_wp2_with (at_builtin;go_must (refine zag (W0:=w0) (L:=L) (zs:=L7) rfl _ _ rfl rfl O7.out rfl R7.out N7.out (by omega) ?_;intro V4 w4 ho4;have O4:=zwd ho4;clear ho4))
      go_roundw
      case rel=>exact⟨k+1,L++L7,by omega,by omega,by go_num,O4.out,(by intro y hy;rcases List.mem_append.1 hy with hy|hy;exact HB.out y hy;exact B7.out y hy),by rw[List.length_append];omega,by rw[List.append_assoc,<-ST.out];exact HS.out⟩
      case measure=>simp[intOf];omega
    · obtain rfl:k=n:=by omega
      have F:Hid (oidZ zs=(.node 6 L [],0)):=by
       rw[G2.out,<-HS.out,List.drop_of_length_le (by rw[HL.out];exact Nat.le_refl _)]
       simp[zcy,Hid]
      have S1:=zwd (S0.out.go HO.out.2)
      obtain⟨p0,p1,p2,f0,f1,f2⟩:=S1.out.box.six
      clear HS
      go_wp2_with fail
      exact zah (zs:=L) (c:=cV) F.out rfl rfl rfl S1.out RV.out (fun h0=>by obtain⟨b,off,e,hb⟩:=zbn HO.out h0;exact⟨b,off,e,Nat.lt_of_lt_of_le hlt0 hb⟩) ⟨HO.out.nilc,zaJ HO.out.1⟩ rfl (by omega)
end Go.Proofs.YtpgahclpbdpbnaaGreatDoor
namespace Go.Proofs.YtpgahclpbdpbnaaGreatDoor
open Go.RowKit
set_option linter.unusedVariables false
theorem zhA (l:List Int):numZ 0 (0::l)=numZ 0 l:=by
 rw[numZ,if_neg (by unfold B56;omega)]
 rfl
theorem zkW (l:List Int):numZ 0 (zaS l)=numZ 0 l:=by
 induction l with
 |nil=>rfl
 |cons z r ih=>
   rw[zaS]
   split
   · rename_i h
     rw[ih,h,zhA]
   · rfl
theorem zs6 (l:List Int):numZ 0 (bigZ l)=numZ 0 l:=by
 unfold bigZ
 split
 · rw[zhA,zkW]
 · rw[zkW]
end Go.Proofs.YtpgahclpbdpbnaaGreatDoor
namespace Go.Proofs.YtpgahclpbdpbnaaGreatDoor
open Go.RowKit
set_option linter.unusedVariables false
theorem zqv (l:List Int):zcC l (8*(l.length:Int)):=by unfold zcC;omega
theorem zov (l:List Int):ze6 l (8*(l.length:Int))=0:=by unfold ze6;omega
theorem zf5 (l:List Int):zaG l (8*(l.length:Int))=(.node 3 (0::l) [],0):=by
 unfold zaG
 rw[if_pos (zqv l),zov,if_neg (fun h=>by omega)]
theorem zqw (l:List Int):ofZ (.node 3 (0::l) [])=(l,8*(l.length:Int),0):=by
 have e:((T.node 3 (0::l) []).body)=0::l:=rfl
 unfold ofZ
 rw[e,if_neg (by simp)]
 simp only[List.drop_succ_cons,List.drop_zero,List.getElem?_cons_zero,Option.getD_some,Int.sub_zero]
 rw[zf5,if_pos ⟨rfl,zb1 _⟩]
end Go.Proofs.YtpgahclpbdpbnaaGreatDoor
namespace Go.Proofs.YtpgahclpbdpbnaaGreatDoor
open Go.RowKit
inductive Plan where
 |fin
 |take (i:Nat) (p:Plan)
 |sole (i:Nat) (p:Plan)
 |fork (i:Nat) (p:Plan) (j:Nat) (q:Plan)
def Plan.len:Plan->Nat
 | .fin=>0
 | .take _ p=>p.len+1
 | .sole _ p=>p.len+1
 | .fork _ p _ _=>p.len+1
section
variable {P : Program} {ops : Array Oper} {Q : Exit -> Act -> World -> Prop} {R : World -> World -> Prop}
def zgn (P:Program) (l:List Oper) (R:World->World->Prop) (Q:Exit->Act->World->Prop) (i:Nat) (K:Act->World->Prop) (a:Act) (w:World):Prop:=
 ∃o,l[i]?=some o/\ ((Region.wanted o (yielded l.toArray a.tmps)=false/\ K (a.put o.dst undef) w) \/
   (Region.wanted o (yielded l.toArray a.tmps)=true/\ o.wp P a w (fun a' w'=>R w w'/\ K a' w') Q))
def zcU (P:Program) (l:List Oper) (R:World->World->Prop) (Q:Exit->Act->World->Prop):Plan->Act->World->Prop
 | .fin,a,w=>Q .normal a w
 | .take i p,a,w=>∃o,l[i]?=some o/\
   ((Region.wanted o (yielded l.toArray a.tmps)=false/\ zcU P l R Q p (a.put o.dst undef) w) \/
    (Region.wanted o (yielded l.toArray a.tmps)=true/\ ∃v,(∀W,R w W->(execOp a.eval o).run P W= .ok (.value v) W)/\ zcU P l R Q p (a.put o.dst v) w))
 | .sole i p,a,w=>zgn P l R Q i (zcU P l R Q p) a w
 | .fork i p j q,a,w=>zgn P l R Q i (zcU P l R Q p) a w/\ zgn P l R Q j (zcU P l R Q q) a w
def zij (l:List Oper):Plan->Array Bool->Bool
 | .fin,listed=>(Region.ready .any l.toArray listed).isEmpty
 | .take i p,listed=>((Region.ready .any l.toArray listed).contains i&&Region.free .any l.toArray listed i)&&zij l p (listed.setIfInBounds i true)
 | .sole i p,listed=>(Region.ready .any l.toArray listed==[i])&&zij l p (listed.setIfInBounds i true)
 | .fork i p j q,listed=>((Region.ready .any l.toArray listed==[i,j])&&(p.len==q.len))&&(zij l p (listed.setIfInBounds i true)&&zij l q (listed.setIfInBounds j true))
theorem zhB {l:List Oper} (hrefl:∀w,R w w) (htrans:∀a b c,R a b->R b c->R a c) {i fuel:Nat} {listed:Array Bool} {K:Act->World->Prop} {a:Act} {w:World}
 (hK:∀a' w',K a' w'->wpAnyH P .any l.toArray Q (R w') fuel (listed.setIfInBounds i true) a' w') (h:zgn P l R Q i K a w):
 wpOp P l.toArray Q i (fun a' w'=>R w w'/\ wpAnyH P .any l.toArray Q (R w) fuel (listed.setIfInBounds i true) a' w') a w:=by
 obtain⟨o,ho,h⟩:=h
 have hi:l.toArray[i]?=some o:=by simpa using ho
 unfold wpOp
 simp only[hi]
 rcases h with⟨hw,h⟩|⟨hw,h⟩
 · rw[if_neg (by rw[hw];simp)]
   exact⟨hrefl w,hK _ _ h⟩
 · rw[if_pos hw]
   exact .inl (Oper.wp_mono (fun a' w' h'=>⟨h'.1,zgY (fun W hW=>htrans _ _ _ h'.1 hW) _ _ _ _ (hK _ _ h'.2)⟩) h)
theorem zck {l:List Oper} (hrefl:∀w,R w w) (htrans:∀a b c,R a b->R b c->R a c) (hs:Region.noSelect l.toArray=true) (hQ:∀d v c a w,Q (.panic c) (a.put d v) w->Q (.panic c) a w):
 ∀(p:Plan) (listed:Array Bool) (a:Act) (w:World),zij l p listed=true->zcU P l R Q p a w->wpAnyH P .any l.toArray Q (R w) p.len listed a w
 | .fin,listed,a,w,hB,h=>by
   have:Region.ready .any l.toArray listed=[]:=by simpa[zij]using hB
   exact wpAnyH_done this h _
 | .take i p,listed,a,w,hB,h=>by
   obtain⟨o,ho,h⟩:=h
   have hi:l.toArray[i]?=some o:=by simpa using ho
   rw[zij,Bool.and_eq_true,Bool.and_eq_true]at hB
   obtain⟨⟨h1,h2⟩,hB'⟩:=hB
   rcases h with⟨hw,h⟩|⟨hw,v,hv,h⟩
   · exact wpAnyH_take hi hs h2 h1 (hQ _ _) (.inr ⟨hw,rfl⟩) (hrefl w) (zck hrefl htrans hs hQ p _ _ _ hB' h)
   · exact wpAnyH_take hi hs h2 h1 (hQ _ _) (.inl ⟨hw,hv⟩) (hrefl w) (zck hrefl htrans hs hQ p _ _ _ hB' h)
 | .sole i p,listed,a,w,hB,h=>by
   rw[zij,Bool.and_eq_true]at hB
   have hr:Region.ready .any l.toArray listed=[i]:=by simpa using hB.1
   refine wpAnyH_all hr (by simp) (fun j hj=> ?_)
   obtain rfl:j=i:=by simpa using hj
   exact zhB hrefl htrans (fun a' w' h'=>zck hrefl htrans hs hQ p _ a' w' hB.2 h') h
 | .fork i p j q,listed,a,w,hB,h=>by
   rw[zij,Bool.and_eq_true,Bool.and_eq_true,Bool.and_eq_true]at hB
   obtain⟨⟨h1,h2⟩,h3,h4⟩:=hB
   have hr:Region.ready .any l.toArray listed=[i,j]:=by simpa using h1
   have hl:p.len=q.len:=by simpa using h2
   refine wpAnyH_all hr (by simp) (fun x hx=> ?_)
   have hx':x=i \/x=j:=by simpa using hx
   rcases hx' with rfl|rfl
   · exact zhB hrefl htrans (fun a' w' h'=>zck hrefl htrans hs hQ p _ a' w' h3 h') h.1
   · have:=zhB (fuel:=q.len) (listed:=listed) hrefl htrans (fun a' w' h'=>zck hrefl htrans hs hQ q _ a' w' h4 h') h.2
     rw[<-hl]at this
     exact this
theorem zb6 {id:Nat} {a:Act} {w:World} {l:List Oper} (R:World->World->Prop) (hrefl:∀w,R w w) (htrans:∀a b c,R a b->R b c->R a c) (plan:Plan) (hm:P.follows .mixedOrders=true) (hs:Region.noSelect l.toArray=true) (hn:plan.len=l.length)
 (hB:zij l plan (Array.replicate l.length false)=true) (hQ:∀d v c a w,Q (.panic c) (a.put (some d) v) w->Q (.panic c) a w) (h:zcU P l R Q plan a w.drew):(Code.region id l.toArray true).wp P Q a w:=by
 refine wp_region_held (S:=R w.drew) hm ?_
 have hQ':∀d v c a w,Q (.panic c) (a.put d v) w->Q (.panic c) a w:=fun d=>by
  cases d with
  |none=>exact fun _ _ _ _ h=>h
  |some d=>exact hQ d
 have:=zck hrefl htrans hs hQ' plan (Array.replicate l.length false) a w.drew hB h
 rw[hn]at this
 simpa using this
section
variable {l : List Oper} {p q : Plan} {a : Act} {w : World} {i j : Nat} {o : Oper} {K : Act -> World -> Prop}
theorem zbQ (v:Value) (ho:l[i]?=some o) (hw:Region.wanted o (yielded l.toArray a.tmps)=true) (hv:∀W,R w W->(execOp a.eval o).run P W= .ok (.value v) W) (h:zcU P l R Q p (a.put o.dst v) w):zcU P l R Q (.take i p) a w:=⟨o,ho,.inr ⟨hw,v,hv,h⟩⟩
theorem zam (ho:l[i]?=some o) (hw:Region.wanted o (yielded l.toArray a.tmps)=true) (h:∀K':Act->World->Prop,(∀a' w',R w w'->K a' w'->K' a' w')->o.wp P a w K' Q):zgn P l R Q i K a w:=
 ⟨o,ho,.inr ⟨hw,h _ (fun _ _ he h=>⟨he,h⟩)⟩⟩
theorem zax (h:zgn P l R Q i (zcU P l R Q p) a w):zcU P l R Q (.sole i p) a w:=h
theorem zef (h1:zgn P l R Q i (zcU P l R Q p) a w) (h2:zgn P l R Q j (zcU P l R Q q) a w):zcU P l R Q (.fork i p j q) a w:=⟨h1,h2⟩
theorem zdj (h:Q .normal a w):zcU P l R Q .fin a w:=h
end
end
end Go.Proofs.YtpgahclpbdpbnaaGreatDoor
