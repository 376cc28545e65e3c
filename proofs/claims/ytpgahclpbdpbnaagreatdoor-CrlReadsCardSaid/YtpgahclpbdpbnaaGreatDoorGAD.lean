import Derived.WalkKit
import Derived.Test.YtpgahclpbdpbnaaGreatDoorRows
import Derived.Test.YtpgahclpbdpbnaaGreatDoorGAA
import Derived.WalkSpells
import Derived.WalkLawsBesides
import Derived.Deep.WholeRow
import Derived.Lib.Hide
import Derived.Great.BuildSlice
import Derived.Laws.CopyOwn
import Derived.Laws.ResultCell
set_option maxHeartbeats 4000000
set_option maxRecDepth 100000
namespace Go.Proofs.YtpgahclpbdpbnaaGreatDoor.Clk
open Go.RowKit
def lpB (y:Int):Bool:=decide (y%4=0/\ (y%100≠0 \/y%400=0))
def lp (y:Int):Int:=if lpB y=true then 1 else 0
theorem zoj (y:Int):0<=lp y/\ lp y<=1:=by unfold lp;split<;>omega
def dby (y:Int):Int:=(y-1)*365+(y-1)/4-(y-1)/100+(y-1)/400
theorem zfs (y:Int):dby (y+1)=dby y+365+lp y:=by
 unfold dby lp lpB
 by_cases h:y%4=0/\ (y%100≠0 \/y%400=0)
 · rw[if_pos (by simpa using h)]
   omega
 · rw[if_neg (by simpa using h)]
   omega
theorem zcc {a b:Int} (h:a<=b):dby a<=dby b:=by
 unfold dby
 omega
theorem zcd:dby 1970=719162:=by decide
theorem zbY:dby 1950=711857:=by decide
theorem zcW:dby 2200=803168:=by decide
def ml (y m:Int):Int:=if m=2 then 28+lp y else if m=4 \/m=6 \/m=9 \/m=11 then 30 else 31
def cum (y m:Int):Int:=(367*m-362)/12-(if m<=2 then 0 else 2-lp y)
theorem zcQ (y:Int):cum y 1=0:=by unfold cum;omega
theorem zhk (y:Int):cum y 13=365+lp y:=by unfold cum;omega
theorem zeD (y m:Int) (h1:1<=m) (h2:m<=12):cum y (m+1)=cum y m+ml y m:=by
 have:m=1 \/m=2 \/m=3 \/m=4 \/m=5 \/m=6 \/m=7 \/m=8 \/m=9 \/m=10 \/m=11 \/m=12:=by omega
 unfold cum ml
 rcases this with rfl|rfl|rfl|rfl|rfl|rfl|rfl|rfl|rfl|rfl|rfl|rfl<;>simp<;>omega
theorem zcX {y m n:Int} (h:m<=n):cum y m<=cum y n:=by
 have:=zoj y
 unfold cum
 split<;>split<;>omega
theorem zd5 (y m:Int):28<=ml y m/\ ml y m<=31:=by
 have:=zoj y
 unfold ml
 repeat' split
 all_goals omega
structure D6 where
 y:Int
 m:Int
 d:Int
 h:Int
 i:Int
 s:Int
def D6.ok (a:D6):Prop:=1950<=a.y/\ a.y<=2199/\ 1<=a.m/\ a.m<=12/\ 1<=a.d/\ a.d<=ml a.y a.m/\ 0<=a.h/\ a.h<=23/\ 0<=a.i/\ a.i<=59/\ 0<=a.s/\ a.s<=59
def D6.days (a:D6):Int:=dby a.y-711857+cum a.y a.m+(a.d-1)
def D6.clk (a:D6):Int:=a.h*3600+a.i*60+a.s
def secs (a:D6):Int:=(a.days-7305)*86400+a.clk
theorem D6.days_bd {a:D6} (h:a.ok):dby a.y-711857<=a.days/\ a.days<dby (a.y+1)-711857:=by
 obtain⟨_,_,h3,h4,h5,h6,_⟩:=h
 have c1:=zcX (y:=a.y) h3
 have c2:=zcX (y:=a.y) (show a.m+1<=13 by omega)
 rw[zeD _ _ h3 h4,zhk]at c2
 rw[zcQ]at c1
 rw[zfs]
 unfold D6.days
 omega
theorem D6.days_rng {a:D6} (h:a.ok):0<=a.days/\ a.days<=91310:=by
 have b:=D6.days_bd h
 have m1:=zcc h.1
 have m2:=zcc (show a.y+1<=2200 by have:=h.2.1;omega)
 rw[zbY]at m1
 rw[zcW]at m2
 omega
theorem D6.clk_rng {a:D6} (h:a.ok):0<=a.clk/\ a.clk<86400:=by
 obtain⟨_,_,_,_,_,_,h7,h8,h9,h10,h11,h12⟩:=h
 unfold D6.clk
 omega
theorem zgK {a:D6} (h:a.ok): -631152000<=secs a/\ secs a<=7258118399:=by
 have b:=D6.days_rng h
 have c:=D6.clk_rng h
 unfold secs
 omega
def D6.lt (a b:D6):Prop:=a.y<b.y \/a.y=b.y/\ (a.m<b.m \/a.m=b.m/\ (a.d<b.d \/a.d=b.d/\ (a.h<b.h \/a.h=b.h/\ (a.i<b.i \/a.i=b.i/\ a.s<b.s))))
theorem zl1 {a b:D6} (ha:a.ok) (hb:b.ok) (h:a.y<b.y \/a.y=b.y/\ (a.m<b.m \/a.m=b.m/\ a.d<b.d)):a.days<b.days:=by
 rcases h with h|⟨h,h1⟩
 · have h1:=(D6.days_bd ha).2
   have h2:=(D6.days_bd hb).1
   have h3:=zcc (show a.y+1<=b.y by omega)
   omega
 · obtain⟨_,_,h3,h4,h5,h6,_⟩:=ha
   have hb1:=hb.2.2.2.2.1
   unfold D6.days
   rw[<-h]
   rcases h1 with h1|⟨h1,h2⟩
   · have c:=zcX (y:=a.y) (show a.m+1<=b.m by omega)
     rw[zeD _ _ h3 h4]at c
     omega
   · rw[<-h1]
     omega
theorem zp7 {a b:D6} (ha:a.ok) (hb:b.ok) (h:a.lt b):secs a<secs b:=by
 have ca:=D6.clk_rng ha
 have cb:=D6.clk_rng hb
 have key:a.days<b.days \/a.days=b.days/\ a.clk<b.clk:=by
  rcases h with h|⟨h1,h⟩
  · exact .inl (zl1 ha hb (.inl h))
  · rcases h with h|⟨h2,h⟩
    · exact .inl (zl1 ha hb (.inr ⟨h1,.inl h⟩))
    · rcases h with h|⟨h3,h⟩
      · exact .inl (zl1 ha hb (.inr ⟨h1,.inr ⟨h2,h⟩⟩))
      · refine .inr ⟨by unfold D6.days;rw[h1,h2,h3],?_⟩
        obtain⟨_,_,_,_,_,_,h7,h8,h9,h10,h11,h12⟩:=ha
        obtain⟨_,_,_,_,_,_,g7,g8,g9,g10,g11,g12⟩:=hb
        unfold D6.clk
        omega
 unfold secs
 omega
theorem zvX {a b:D6}:a.lt b \/a=b \/b.lt a:=by
 cases a
 cases b
 simp only[D6.lt,D6.mk.injEq]
 omega
theorem zsM {a b:D6} (ha:a.ok) (hb:b.ok) (h:secs a=secs b):a=b:=by
 rcases zvX (a:=a) (b:=b)with h1|h1|h1
 · have:=zp7 ha hb h1;omega
 · exact h1
 · have:=zp7 hb ha h1;omega
def IsDate (s:Int) (a:D6):Prop:=a.ok/\ secs a=s
theorem IsDate.eq {s:Int} {a b:D6} (h:IsDate s a) (k:IsDate s b):a=b:=zsM h.1 k.1 (h.2.trans k.2.symm)
theorem zp8 (y:Int) (a b c:Bool) (ha:(y%4==0)=a) (hb:(y%100 !=0)=b) (hc:(y%400==0)=c):lpB y=(a&&(b||c)):=by
 subst ha hb hc
 unfold lpB
 rw[Bool.eq_iff_iff]
 simp
theorem zgL (y:Int) (w:World) (h0:1<=y) (h1:y<=10000):Calls Tryz.prog 225 #[.int .i64 y] w fun e w'=>e= .returned (.bool (lpB y))/\ w'=w:=by
 have HV:=zwd (zp8 y)
 cases ha:(y%4==0)<;>cases hb:(y%100 !=0)<;>cases hc:(y%400==0)
 all_goals
  have HE:=zwd (HV.out _ _ _ ha hb hc)
  clear HV
  go_enter Tryz.func225,Tryz.ntmps225
  go_wp2
  go_ret
  exact⟨by rw[HE.out];rfl,rfl⟩
theorem zkz (y:Int) (w:World) (h0:1<=y) (h1:y<=10000):Calls Tryz.prog 208 #[.int .i64 y] w fun e w'=>e= .returned (.bool (lpB y))/\ w'=w:=by
 have HV:=zwd (zp8 y)
 cases ha:(y%4==0)<;>cases hb:(y%100 !=0)<;>cases hc:(y%400==0)
 all_goals
  have HE:=zwd (HV.out _ _ _ ha hb hc)
  clear HV
  go_enter Tryz.func208,Tryz.ntmps208
  go_wp2
 all_goals
  first
  |(go_ret;exact⟨by rw[HE.out];rfl,rfl⟩)
  |(exfalso;simp at ha hb hc;omega)
theorem zco (y:Int) (w:World) (h0:1<=y) (h1:y<=10000):Calls Tryz.prog 170 #[.int .i64 y] w fun e w'=>e= .returned (.int .i64 (dby y))/\ w'=w:=by
 have hd:Hid (dby y=(y-1)*365+(y-1)/4-(y-1)/100+(y-1)/400):=rfl
 go_enter Tryz.func170,Tryz.ntmps170
 go_wp2
 go_ret
 exact⟨zbw hd.out.symm,rfl⟩
theorem zm6 (y:Int) (w:World) (h0:1<=y) (h1:y<=10000):Calls Tryz.prog 203 #[.int .i64 y] w fun e w'=>e= .returned (.int .i64 (365+lp y))/\ w'=w:=by
 have HL:Hid (lp y=if lpB y=true then 1 else 0):=rfl
 cases hb:lpB y
 · have E:Hid (lp y=0):=by rw[HL.out,hb];exact rfl
   have C:=zwd (fun W=>zgL y W h0 h1)
   rw[hb]at C
   clear HL hb
   go_enter Tryz.func203,Tryz.ntmps203
   go_wp2_with fail
   refine(C.out _).mono ?_
   rintro e w1 ⟨rfl,rfl⟩
   go_wp2
   go_ret
   exact⟨zbw (by rw[E.out];rfl),rfl⟩
 · have E:Hid (lp y=1):=by rw[HL.out,hb];exact rfl
   have C:=zwd (fun W=>zgL y W h0 h1)
   rw[hb]at C
   clear HL hb
   go_enter Tryz.func203,Tryz.ntmps203
   go_wp2_with fail
   refine(C.out _).mono ?_
   rintro e w1 ⟨rfl,rfl⟩
   go_wp2
   go_ret
   exact⟨zbw (by rw[E.out];rfl),rfl⟩
def zbu (f:Int):Array Value:=#[.int .i64 31,.int .i64 f,.int .i64 31,.int .i64 30,.int .i64 31,.int .i64 30,.int .i64 31,.int .i64 31,.int .i64 30,.int .i64 31,.int .i64 30,.int .i64 31]
theorem zuz (y m:Int) (h1:1<=m) (h2:m<=12):(zbu (28+lp y))[(m-1).toNat]?=some (.int .i64 (ml y m)):=by
 have:m=1 \/m=2 \/m=3 \/m=4 \/m=5 \/m=6 \/m=7 \/m=8 \/m=9 \/m=10 \/m=11 \/m=12:=by omega
 rcases this with rfl|rfl|rfl|rfl|rfl|rfl|rfl|rfl|rfl|rfl|rfl|rfl<;>rfl
theorem zfZ (y:Int) (w:World) (h0:1<=y) (h1:y<=10000):Calls Tryz.prog 204 #[.int .i64 y] w fun e w'=>e= .returned (.agg (zbu (28+lp y)))/\ Below w.heap.size w w':=by
 have HL:Hid (lp y=if lpB y=true then 1 else 0):=rfl
 cases hb:lpB y
 · have E:Hid (lp y=0):=by rw[HL.out,hb];exact rfl
   have C:=zwd (fun W=>zgL y W h0 h1)
   rw[hb]at C
   clear HL hb
   rw[E.out]
   go_enter Tryz.func204,Tryz.ntmps204
   go_wp2_with fail
   refine(C.out _).mono ?_
   rintro e w1 ⟨rfl,rfl⟩
   go_wp2
   exact bodyPost_ret (v:= .agg (zbu 28)) (by simp[results,Tryz.results204,go_sem,zbu]) rfl ⟨rfl,((Below.refl _ _).alloc (Nat.le_refl _) _).alloc (by simp) _⟩
 · have E:Hid (lp y=1):=by rw[HL.out,hb];exact rfl
   have C:=zwd (fun W=>zgL y W h0 h1)
   rw[hb]at C
   clear HL hb
   rw[E.out]
   go_enter Tryz.func204,Tryz.ntmps204
   go_wp2_with fail
   refine(C.out _).mono ?_
   rintro e w1 ⟨rfl,rfl⟩
   go_wp2
   exact bodyPost_ret (v:= .agg (zbu 29)) (by simp[results,Tryz.results204,go_sem,zbu]) rfl ⟨rfl,((Below.refl _ _).alloc (Nat.le_refl _) _).alloc (by simp) _⟩
theorem zce (y m:Int) (w:World) (h0:1<=y) (h1:y<=10000) (hm1:1<=m) (hm2:m<=12):Calls Tryz.prog 179 #[.int .i64 y,.int .i64 m] w fun e w'=>e= .returned (.int .i64 (ml y m))/\ Below w.heap.size w w':=by
 have HL:Hid (lp y=if lpB y=true then 1 else 0):=rfl
 have C:=zwd (fun W=>zkz y W h0 h1)
 have HM:Hid (ml y m=if m=2 then 28+lp y else if m=4 \/m=6 \/m=9 \/m=11 then 30 else 31):=rfl
 have:m=2 \/m=1 \/m=3 \/m=4 \/m=5 \/m=6 \/m=7 \/m=8 \/m=9 \/m=10 \/m=11 \/m=12:=by omega
 rcases this with rfl|this
 · cases hb:lpB y
   · have E:Hid (ml y 2=28):=by rw[HM.out,HL.out,hb];exact rfl
     rw[hb]at C
     clear HL hb HM
     go_enter Tryz.func179,Tryz.ntmps179
     go_wp2_with fail
     refine(C.out _).mono ?_
     rintro e w1 ⟨rfl,rfl⟩
     go_wp2
     go_ret
     exact⟨zbw E.out.symm,(Below.refl _ _).alloc (Nat.le_refl _) _⟩
   · have E:Hid (ml y 2=29):=by rw[HM.out,HL.out,hb];exact rfl
     rw[hb]at C
     clear HL hb HM
     go_enter Tryz.func179,Tryz.ntmps179
     go_wp2_with fail
     refine(C.out _).mono ?_
     rintro e w1 ⟨rfl,rfl⟩
     go_wp2
     go_ret
     exact⟨zbw E.out.symm,Below.refl _ _⟩
 · clear HL C
   rcases this with rfl|rfl|rfl|rfl|rfl|rfl|rfl|rfl|rfl|rfl|rfl
   all_goals
    go_enter Tryz.func179,Tryz.ntmps179
    go_wp2
    go_ret
    exact⟨zbw (by rw[HM.out];rfl),(Below.refl _ _).alloc (Nat.le_refl _) _⟩
instance (a:D6):Decidable a.ok:=by unfold D6.ok;infer_instance
def okB (a:D6):Bool:=decide a.ok
theorem okB_true {a:D6} (h:a.ok):okB a=true:=by simpa[okB]using h
theorem zaB {a:D6} (h:¬a.ok):okB a=false:=by simpa[okB]using h
def Pre (a:D6) (k:Nat):Prop:=(0<k->1950<=a.y/\ a.y<=2199)/\ (1<k->1<=a.m/\ a.m<=12)/\ (2<k->1<=a.d/\ a.d<=31)/\ (3<k->0<=a.h/\ a.h<=23)/\ (4<k->0<=a.i/\ a.i<=59)/\ (5<k->0<=a.s/\ a.s<=59)
theorem zeE (x0 x1 x2 x3 x4 x5:Value):(∀w,(Instr.index 147 (.agg #[x0,x1,x2,x3,x4,x5]) (.int .i64 0)).run Tryz.prog w= .ok x0 w)/\ (∀w,(Instr.index 147 (.agg #[x0,x1,x2,x3,x4,x5]) (.int .i64 1)).run Tryz.prog w= .ok x1 w)/\ (∀w,(Instr.index 147 (.agg #[x0,x1,x2,x3,x4,x5]) (.int .i64 2)).run Tryz.prog w= .ok x2 w)/\ (∀w,(Instr.index 147 (.agg #[x0,x1,x2,x3,x4,x5]) (.int .i64 3)).run Tryz.prog w= .ok x3 w)/\ (∀w,(Instr.index 147 (.agg #[x0,x1,x2,x3,x4,x5]) (.int .i64 4)).run Tryz.prog w= .ok x4 w)/\ (∀w,(Instr.index 147 (.agg #[x0,x1,x2,x3,x4,x5]) (.int .i64 5)).run Tryz.prog w= .ok x5 w):=
 ⟨fun _=>by kernel_rfl,fun _=>by kernel_rfl,fun _=>by kernel_rfl,fun _=>by kernel_rfl,fun _=>by kernel_rfl,fun _=>by kernel_rfl⟩
theorem zhl (w:World) (c:Array Value) (t:TypeId) (o1 o2:Obj) (j:Nat):(((w.alloc (.cells c t)).alloc o1).alloc o2).cell? ⟨w.heap.size,j,none⟩=c[j]?:=by
 have h1:(w.alloc (.cells c t)).cell? ⟨w.heap.size,j,none⟩=c[j]?:=by
  simp only[World.cell?,heap_alloc_new]
  rfl
 rw[World.cell?_alloc_lt _ _ _ (by simp;omega),World.cell?_alloc_lt _ _ _ (by simp),h1]
theorem zsN (y m:Int) (h1:1<=m) (h2:m<=12) (w:World):(Instr.index 208 (.agg (zbu (28+lp y))) (.int .i64 (m-1))).run Tryz.prog w= .ok (.int .i64 (ml y m)) w:=by
 have h:=zuz y m h1 h2
 have h3:(0:Int)<=m-1/\ m-1<12:=by omega
 rw[show(m-1).toNat=m.toNat-1 by omega]at h
 simp[Instr.index,run_underlying Tryz.underlying208,asIntOf,h3,go_sem]
 rw[if_pos (by omega),h]
 rfl
theorem zok (y m d h i s:Int) (w:World):Calls Tryz.prog 229 #[.agg #[.int .i64 y,.int .i64 m,.int .i64 d,.int .i64 h,.int .i64 i,.int .i64 s]] w fun e w'=>e= .returned (.bool (okB ⟨y,m,d,h,i,s⟩))/\ Below w.heap.size w w':=by
 obtain⟨i0,i1,i2,i3,i4,i5⟩:=zeE (.int .i64 y) (.int .i64 m) (.int .i64 d) (.int .i64 h) (.int .i64 i) (.int .i64 s)
 go_enter Tryz.func229,Tryz.ntmps229
 go_wp2
 go_loop [10] (fun t=>∃k:Nat,k<=6/\ t= .int .i64 (k:Int)/\ Pre ⟨y,m,d,h,i,s⟩ k) (fun t=>6-(intOf t).toNat)
 case atStart=>exact⟨0,by omega,rfl,by unfold Pre;omega⟩
 case round=>
  obtain⟨k,hk,rfl,hp⟩:=hrel
  have HP:=zwd hp
  clear hp
  rcases k with _|_|_|_|_|_|_|k
  · by_cases c:y<1950
    · have F:Hid (okB ⟨y,m,d,h,i,s⟩=false):=zaB (by unfold D6.ok;simp only;omega)
      have c1:decide (y<1950)=true:=by simpa using c
      go_wp2
      go_ret
      exact⟨by rw[F.out];rfl,(((Below.refl _ _).alloc (Nat.le_refl _) _).alloc (by simp) _).alloc (by simp;omega) _⟩
    · have c1:decide (y<1950)=false:=by simpa using c
      by_cases c':2199<y
      · have F:Hid (okB ⟨y,m,d,h,i,s⟩=false):=zaB (by unfold D6.ok;simp only;omega)
        have c2:decide (2199<y)=true:=by simpa using c'
        go_wp2
        go_ret
        exact⟨by rw[F.out];rfl,(((Below.refl _ _).alloc (Nat.le_refl _) _).alloc (by simp) _).alloc (by simp;omega) _⟩
      · have c2:decide (2199<y)=false:=by simpa using c'
        have HN:Hid (Pre ⟨y,m,d,h,i,s⟩ 1):=by
         have:=HP.out
         unfold Pre at this
         unfold Hid Pre
         simp only at this⊢
         omega
        go_wp2
        go_round
        case rel=>exact⟨1,by omega,by go_num,HN.out⟩
        case measure=>simp[intOf]
  · by_cases c:m<1
    · have F:Hid (okB ⟨y,m,d,h,i,s⟩=false):=zaB (by unfold D6.ok;simp only;omega)
      have c1:decide (m<1)=true:=by simpa using c
      go_wp2
      go_ret
      exact⟨by rw[F.out];rfl,(((Below.refl _ _).alloc (Nat.le_refl _) _).alloc (by simp) _).alloc (by simp;omega) _⟩
    · have c1:decide (m<1)=false:=by simpa using c
      by_cases c':12<m
      · have F:Hid (okB ⟨y,m,d,h,i,s⟩=false):=zaB (by unfold D6.ok;simp only;omega)
        have c2:decide (12<m)=true:=by simpa using c'
        go_wp2
        go_ret
        exact⟨by rw[F.out];rfl,(((Below.refl _ _).alloc (Nat.le_refl _) _).alloc (by simp) _).alloc (by simp;omega) _⟩
      · have c2:decide (12<m)=false:=by simpa using c'
        have HN:Hid (Pre ⟨y,m,d,h,i,s⟩ 2):=by
         have:=HP.out
         unfold Pre at this
         unfold Hid Pre
         simp only at this⊢
         omega
        go_wp2
        go_round
        case rel=>exact⟨2,by omega,by go_num,HN.out⟩
        case measure=>simp[intOf]
  · by_cases c:d<1
    · have F:Hid (okB ⟨y,m,d,h,i,s⟩=false):=zaB (by unfold D6.ok;simp only;omega)
      have c1:decide (d<1)=true:=by simpa using c
      go_wp2
      go_ret
      exact⟨by rw[F.out];rfl,(((Below.refl _ _).alloc (Nat.le_refl _) _).alloc (by simp) _).alloc (by simp;omega) _⟩
    · have c1:decide (d<1)=false:=by simpa using c
      by_cases c':31<d
      · have F:Hid (okB ⟨y,m,d,h,i,s⟩=false):=zaB (by unfold D6.ok;simp only;have:=zd5 y m;omega)
        have c2:decide (31<d)=true:=by simpa using c'
        go_wp2
        go_ret
        exact⟨by rw[F.out];rfl,(((Below.refl _ _).alloc (Nat.le_refl _) _).alloc (by simp) _).alloc (by simp;omega) _⟩
      · have c2:decide (31<d)=false:=by simpa using c'
        have HN:Hid (Pre ⟨y,m,d,h,i,s⟩ 3):=by
         have:=HP.out
         unfold Pre at this
         unfold Hid Pre
         simp only at this⊢
         omega
        go_wp2
        go_round
        case rel=>exact⟨3,by omega,by go_num,HN.out⟩
        case measure=>simp[intOf]
  · by_cases c:h<0
    · have F:Hid (okB ⟨y,m,d,h,i,s⟩=false):=zaB (by unfold D6.ok;simp only;omega)
      have c1:decide (h<0)=true:=by simpa using c
      go_wp2
      go_ret
      exact⟨by rw[F.out];rfl,(((Below.refl _ _).alloc (Nat.le_refl _) _).alloc (by simp) _).alloc (by simp;omega) _⟩
    · have c1:decide (h<0)=false:=by simpa using c
      by_cases c':23<h
      · have F:Hid (okB ⟨y,m,d,h,i,s⟩=false):=zaB (by unfold D6.ok;simp only;omega)
        have c2:decide (23<h)=true:=by simpa using c'
        go_wp2
        go_ret
        exact⟨by rw[F.out];rfl,(((Below.refl _ _).alloc (Nat.le_refl _) _).alloc (by simp) _).alloc (by simp;omega) _⟩
      · have c2:decide (23<h)=false:=by simpa using c'
        have HN:Hid (Pre ⟨y,m,d,h,i,s⟩ 4):=by
         have:=HP.out
         unfold Pre at this
         unfold Hid Pre
         simp only at this⊢
         omega
        go_wp2
        go_round
        case rel=>exact⟨4,by omega,by go_num,HN.out⟩
        case measure=>simp[intOf]
  · by_cases c:i<0
    · have F:Hid (okB ⟨y,m,d,h,i,s⟩=false):=zaB (by unfold D6.ok;simp only;omega)
      have c1:decide (i<0)=true:=by simpa using c
      go_wp2
      go_ret
      exact⟨by rw[F.out];rfl,(((Below.refl _ _).alloc (Nat.le_refl _) _).alloc (by simp) _).alloc (by simp;omega) _⟩
    · have c1:decide (i<0)=false:=by simpa using c
      by_cases c':59<i
      · have F:Hid (okB ⟨y,m,d,h,i,s⟩=false):=zaB (by unfold D6.ok;simp only;omega)
        have c2:decide (59<i)=true:=by simpa using c'
        go_wp2
        go_ret
        exact⟨by rw[F.out];rfl,(((Below.refl _ _).alloc (Nat.le_refl _) _).alloc (by simp) _).alloc (by simp;omega) _⟩
      · have c2:decide (59<i)=false:=by simpa using c'
        have HN:Hid (Pre ⟨y,m,d,h,i,s⟩ 5):=by
         have:=HP.out
         unfold Pre at this
         unfold Hid Pre
         simp only at this⊢
         omega
        go_wp2
        go_round
        case rel=>exact⟨5,by omega,by go_num,HN.out⟩
        case measure=>simp[intOf]
  · by_cases c:s<0
    · have F:Hid (okB ⟨y,m,d,h,i,s⟩=false):=zaB (by unfold D6.ok;simp only;omega)
      have c1:decide (s<0)=true:=by simpa using c
      go_wp2
      go_ret
      exact⟨by rw[F.out];rfl,(((Below.refl _ _).alloc (Nat.le_refl _) _).alloc (by simp) _).alloc (by simp;omega) _⟩
    · have c1:decide (s<0)=false:=by simpa using c
      by_cases c':59<s
      · have F:Hid (okB ⟨y,m,d,h,i,s⟩=false):=zaB (by unfold D6.ok;simp only;omega)
        have c2:decide (59<s)=true:=by simpa using c'
        go_wp2
        go_ret
        exact⟨by rw[F.out];rfl,(((Below.refl _ _).alloc (Nat.le_refl _) _).alloc (by simp) _).alloc (by simp;omega) _⟩
      · have c2:decide (59<s)=false:=by simpa using c'
        have HN:Hid (Pre ⟨y,m,d,h,i,s⟩ 6):=by
         have:=HP.out
         unfold Pre at this
         unfold Hid Pre
         simp only at this⊢
         omega
        go_wp2
        go_round
        case rel=>exact⟨6,by omega,by go_num,HN.out⟩
        case measure=>simp[intOf]
  · have hp:=HP.out
    unfold Pre at hp
    simp only at hp
    have hy:=hp.1 (by omega)
    have hm:=hp.2.1 (by omega)
    have hd:=hp.2.2.1 (by omega)
    have hh:=hp.2.2.2.1 (by omega)
    have hi:=hp.2.2.2.2.1 (by omega)
    have hs:=hp.2.2.2.2.2 (by omega)
    clear hp HP i0 i1 i2 i3 i4 i5
    have HK:Hid (okB ⟨y,m,d,h,i,s⟩=decide (d<=ml y m)):=by
     by_cases c:d<=ml y m
     · rw[okB_true (by unfold D6.ok;simp only;omega)];show true=_;simpa using c
     · rw[zaB (by unfold D6.ok;simp only;omega)];show false=_;simpa using c
    go_wp2
    obtain⟨w3,HW3,B3⟩:∃w3,w3=((w.alloc (.cells #[.int .i64 y,.int .i64 m,.int .i64 d,.int .i64 h,.int .i64 i,.int .i64 s] 147)).alloc (.cells #[.int .i64 1950,.int .i64 1,.int .i64 1,.int .i64 0,.int .i64 0,.int .i64 0] 147)).alloc (.cells #[.int .i64 2199,.int .i64 12,.int .i64 31,.int .i64 23,.int .i64 59,.int .i64 59] 147)/\ Below w.heap.size w w3:=⟨_,rfl,(((Below.refl _ _).alloc (Nat.le_refl _) _).alloc (by simp) _).alloc (by simp;omega) _⟩
    rw[<-HW3]
    have q0:w3.cell? ⟨w.heap.size,0,none⟩=some (.int .i64 y):=by rw[HW3];exact zhl _ _ _ _ _ 0
    have q1:w3.cell? ⟨w.heap.size,1,none⟩=some (.int .i64 m):=by rw[HW3];exact zhl _ _ _ _ _ 1
    have q2:w3.cell? ⟨w.heap.size,2,none⟩=some (.int .i64 d):=by rw[HW3];exact zhl _ _ _ _ _ 2
    have hlt:w.heap.size<w3.heap.size:=by rw[HW3];simp;omega
    clear HW3
    have k0:=fun W (hW:Ext w3.drew W)=>(hW.cell (p:=⟨w.heap.size,0,none⟩) hlt).trans q0
    have k1:=fun W (hW:Ext w3.drew W)=>(hW.cell (p:=⟨w.heap.size,1,none⟩) hlt).trans q1
    have k2:=fun W (hW:Ext w3.drew W)=>(hW.cell (p:=⟨w.heap.size,2,none⟩) hlt).trans q2
    have hml:=zsN y m hm.1 hm.2
    have hm1:IntKind.i64.wrap (m-1)=m-1:=IntWalk.i64_in _ (by omega)
    clear q0 q1 q2
    refine zaa Ext Ext.refl (fun _ _ _=>Ext.trans) ((0,false)::(1,false)::(2,false)::(3,false)::(5,false)::(6,false)::(7,false)::(4,true)::(8,false)::(9,false)::(10,false)::[]) (by kernel_rfl) (by kernel_rfl) rfl (by kernel_rfl) (fun _ _ _ _ _ h=>h) ?_
    repeat(refine zab _ rfl (by rfl) (fun W hW=>by go_simp;first|done|rfl) ?_;simp only[Act.put,zwe,zwg,zwf])
    refine zad rfl (by rfl) (fun K hK=> ?_)
    go_simp
    refine(zfZ y _ (by omega) (by omega)).mono ?_
    rintro e w4 ⟨rfl,hb4⟩
    refine hK _ _ hb4 ?_
    clear hK K k0 k1 k2
    repeat(refine zab _ rfl (by rfl) (fun W hW=>by go_simp;first|done|rfl) ?_;simp only[Act.put,zwe,zwg,zwf])
    refine zai ?_
    go_wp2
    go_ret
    exact⟨by rw[HK.out];rfl,Ext.trans B3 (Ext.of_drew hb4)⟩
  · omega
def secsR (a:D6):Int:=if okB a=true then secs a else 0
def zt3 (w:World) (a:D6) (e:Ending) (w':World):Prop:=e= .returned (.tuple #[.int .i64 (secsR a),.bool (okB a)])/\ Below w.heap.size w w'
theorem zdP (w:World) (c:Array Value) (t:TypeId) (j:Nat):(w.alloc (.cells c t)).cell? ⟨w.heap.size,j,none⟩=c[j]?:=by
 simp only[World.cell?,heap_alloc_new]
 rfl
theorem Below.step {w w1 w2:World} (h:Below w.heap.size w w1) (k:Below w1.heap.size w1 w2):Below w.heap.size w w2:=h.trans (k.mono h.size)
theorem zm7 (y m d h i s:Int) (w:World):Calls Tryz.prog 218 #[.agg #[.int .i64 y,.int .i64 m,.int .i64 d,.int .i64 h,.int .i64 i,.int .i64 s]] w (zt3 w ⟨y,m,d,h,i,s⟩):=by
 have C:=zwd (fun W=>zok y m d h i s W)
 have B0:=zwd ((Below.refl w.heap.size w).alloc (Nat.le_refl _) (.cells #[.int .i64 y,.int .i64 m,.int .i64 d,.int .i64 h,.int .i64 i,.int .i64 s] 147))
 by_cases hok:(⟨y,m,d,h,i,s⟩:D6).ok
 · have OT:=zwd (okB_true hok)
   rw[OT.out]at C
   have RS:Hid (secsR ⟨y,m,d,h,i,s⟩=secs ⟨y,m,d,h,i,s⟩):=by unfold Hid secsR;rw[if_pos OT.out]
   have RG:=zgK hok
   obtain⟨h1,h2,h3,h4,h5,h6,h7,h8,h9,h10,h11,h12⟩:=hok
   simp only at h1 h2 h3 h4 h5 h6 h7 h8 h9 h10 h11 h12
   have q0:=zdP w #[.int .i64 y,.int .i64 m,.int .i64 d,.int .i64 h,.int .i64 i,.int .i64 s] 147 0
   have q1:=zdP w #[.int .i64 y,.int .i64 m,.int .i64 d,.int .i64 h,.int .i64 i,.int .i64 s] 147 1
   have q2:=zdP w #[.int .i64 y,.int .i64 m,.int .i64 d,.int .i64 h,.int .i64 i,.int .i64 s] 147 2
   have q3:=zdP w #[.int .i64 y,.int .i64 m,.int .i64 d,.int .i64 h,.int .i64 i,.int .i64 s] 147 3
   have q4:=zdP w #[.int .i64 y,.int .i64 m,.int .i64 d,.int .i64 h,.int .i64 i,.int .i64 s] 147 4
   have q5:=zdP w #[.int .i64 y,.int .i64 m,.int .i64 d,.int .i64 h,.int .i64 i,.int .i64 s] 147 5
   simp only[List.getElem?_toArray,List.getElem?_cons_zero,List.getElem?_cons_succ]at q0 q1 q2 q3 q4 q5
   go_enter Tryz.func218,Tryz.ntmps218
   go_wp2_with fail
   refine(C.out _).mono ?_
   rintro e w2 ⟨rfl,hb2⟩
   have bw:w.heap.size<(w.alloc (.cells #[.int .i64 y,.int .i64 m,.int .i64 d,.int .i64 h,.int .i64 i,.int .i64 s] 147)).heap.size:=by simp
   have r0:=(hb2.cell (p:=⟨w.heap.size,0,none⟩) bw).trans q0
   have r1:=(hb2.cell (p:=⟨w.heap.size,1,none⟩) bw).trans q1
   have r2:=(hb2.cell (p:=⟨w.heap.size,2,none⟩) bw).trans q2
   have r3:=(hb2.cell (p:=⟨w.heap.size,3,none⟩) bw).trans q3
   have r4:=(hb2.cell (p:=⟨w.heap.size,4,none⟩) bw).trans q4
   have r5:=(hb2.cell (p:=⟨w.heap.size,5,none⟩) bw).trans q5
   have bw2:w.heap.size<w2.heap.size:=Nat.lt_of_lt_of_le bw hb2.size
   have BB:Hid (Below w.heap.size w w2):=Below.step B0.out hb2
   clear q0 q1 q2 q3 q4 q5 bw hb2 C B0
   go_wp2_with fail
   refine(zco y _ (by omega) (by omega)).mono ?_
   rintro e w3 ⟨rfl,rfl⟩
   go_wp2_with fail
   refine(zco 1970 _ (by omega) (by omega)).mono ?_
   rintro e w3' ⟨rfl,hw3⟩
   subst hw3
   rw[zcd]
   have d1:=zcc h1
   have d2:=zcc (show y+1<=2200 by omega)
   have dl:=zoj y
   rw[zfs]at d2
   rw[zbY]at d1
   rw[zcW]at d2
   have HD:Hid (dby y=dby y):=rfl
   go_wp2_with fail
   refine(zfZ y _ (by omega) (by omega)).mono ?_
   rintro e w4 ⟨rfl,hb4⟩
   have B4:Hid (Below w.heap.size w w4):=Below.step BB.out hb4
   replace r0:=(hb4.cell (p:=⟨w.heap.size,0,none⟩) bw2).trans r0
   replace r1:=(hb4.cell (p:=⟨w.heap.size,1,none⟩) bw2).trans r1
   replace r2:=(hb4.cell (p:=⟨w.heap.size,2,none⟩) bw2).trans r2
   replace r3:=(hb4.cell (p:=⟨w.heap.size,3,none⟩) bw2).trans r3
   replace r4:=(hb4.cell (p:=⟨w.heap.size,4,none⟩) bw2).trans r4
   replace r5:=(hb4.cell (p:=⟨w.heap.size,5,none⟩) bw2).trans r5
   have bw4:w.heap.size<w4.heap.size:=Nat.lt_of_lt_of_le bw2 hb4.size
   clear hb4 bw2
   have MC:=zwd (fun k (h1:1<=k) (h2:k<=12)=>(zdP w4 (zbu (28+lp y)) 208 (k-1).toNat).trans (zuz y k h1 h2))
   simp only[zbu]at MC⊢
   go_wp2
   have l0:=(World.cell?_alloc_lt w4 (.cells (zbu (28+lp y)) 208) ⟨w.heap.size,0,none⟩ bw4).trans r0
   have l1:=(World.cell?_alloc_lt w4 (.cells (zbu (28+lp y)) 208) ⟨w.heap.size,1,none⟩ bw4).trans r1
   have l2:=(World.cell?_alloc_lt w4 (.cells (zbu (28+lp y)) 208) ⟨w.heap.size,2,none⟩ bw4).trans r2
   have l3:=(World.cell?_alloc_lt w4 (.cells (zbu (28+lp y)) 208) ⟨w.heap.size,3,none⟩ bw4).trans r3
   have l4:=(World.cell?_alloc_lt w4 (.cells (zbu (28+lp y)) 208) ⟨w.heap.size,4,none⟩ bw4).trans r4
   have l5:=(World.cell?_alloc_lt w4 (.cells (zbu (28+lp y)) 208) ⟨w.heap.size,5,none⟩ bw4).trans r5
   have B5:=zwd (B4.out.alloc B4.out.size (.cells (zbu (28+lp y)) 208))
   simp only[zbu]at l0 l1 l2 l3 l4 l5 B5
   clear r0 r1 r2 r3 r4 r5 B4 BB
   generalize w4.alloc (.cells #[.int .i64 31,.int .i64 (28+lp y),.int .i64 31,.int .i64 30,.int .i64 31,.int .i64 30,.int .i64 31,.int .i64 31,.int .i64 30,.int .i64 31,.int .i64 30,.int .i64 31] 208)=w5 at l0 l1 l2 l3 l4 l5 B5 MC⊢
   go_loop [4,6] (fun t k=>∃n:Int,1<=n/\ n<=m/\ k= .int .i64 n/\ t= .int .i64 (dby y-719162+cum y n)) (fun _ k=>(12-intOf k).toNat)
   case atStart=>exact⟨1,by omega,by omega,rfl,by rw[zcQ,Int.add_zero]⟩
   case round=>
    obtain⟨n,hn1,hn2,rfl,rfl⟩:=hrel
    have c1:=zcX (y:=y) hn1
    have c2:=zcX (y:=y) (show n<=13 by omega)
    rw[zcQ]at c1
    rw[zhk]at c2
    by_cases hlt:n<m
    · have CS:=zwd (zeD y n hn1 (by omega))
      have mc:=MC.out n hn1 (by omega)
      have mr:=zd5 y n
      have mc2:w5.cell? ⟨w4.heap.size,n.toNat-1,none⟩=some (.int .i64 (ml y n)):=by rw[show n.toNat-1=(n-1).toNat by omega];exact mc
      go_wp2
      go_round
      case rel=>exact⟨n+1,by omega,by omega,rfl,by rw[CS.out];go_num⟩
      case measure=>simp[intOf];omega
    · obtain rfl:n=m:=by omega
      have HS:Hid (secs ⟨y,n,d,h,i,s⟩=(dby y-719162+cum y n+(d-1))*86400+(h*3600+i*60+s)):=by unfold Hid secs D6.days D6.clk;simp only;omega
      have hl:=zd5 y n
      clear MC RG
      go_wp2
      go_ret2
      exact⟨by rw[RS.out,HS.out,OT.out];go_num,B5.out⟩
 · have OF:=zwd (zaB hok)
   rw[OF.out]at C
   have RS:Hid (secsR ⟨y,m,d,h,i,s⟩=0):=by unfold Hid secsR;rw[if_neg (by rw[OF.out];simp)]
   clear hok
   go_enter Tryz.func218,Tryz.ntmps218
   go_wp2_with fail
   refine(C.out _).mono ?_
   rintro e w2 ⟨rfl,hb2⟩
   go_wp2
   go_ret2
   exact⟨by rw[RS.out,OF.out];rfl,Below.step B0.out hb2⟩
def zl2 (n y m d:Int):Prop:=1950<=y/\ y<=2199/\ 1<=m/\ m<=12/\ 1<=d/\ d<=ml y m/\ dby y-711857+cum y m+(d-1)=n
def d6c (y m d h i s:Int):Array Value:=#[.int .i64 y,.int .i64 m,.int .i64 d,.int .i64 h,.int .i64 i,.int .i64 s]
theorem zsO (y m d h i s:Int):(d6c y m d h i s).size=6:=rfl
def Blk (w:World) (g:Nat) (t:TypeId) (cs:Array Value):Prop:=w.heap[g]?=some (.cells cs t (0,0))
theorem Blk.lt {w:World} {g:Nat} {t:TypeId} {cs:Array Value} (h:Blk w g t cs):g<w.heap.size:=(Array.getElem?_eq_some_iff.1 h).1
theorem Blk.cell {w:World} {g:Nat} {t:TypeId} {cs:Array Value} (h:Blk w g t cs) (j:Nat):w.cell? ⟨g,j,none⟩=cs[j]?:=by
 unfold Blk at h
 simp only[World.cell?,h]
 rfl
theorem Blk.free {w:World} {g:Nat} {t:TypeId} {cs:Array Value} (h:Blk w g t cs) (j:Nat):w.frozen? ⟨g,j,none⟩=false:=by
 unfold Blk at h
 simp[World.frozen?,h]
theorem Blk.new (w:World) (t:TypeId) (cs:Array Value):Blk (w.alloc (.cells cs t)) w.heap.size t cs:=heap_alloc_new w _
theorem Blk.below {w w':World} {g B:Nat} {t:TypeId} {cs:Array Value} (h:Blk w g t cs) (hb:Below B w w') (hg:g<B):Blk w' g t cs:=(hb.block g hg).trans h
theorem Blk.alloc {w:World} {g:Nat} {t:TypeId} {cs:Array Value} (h:Blk w g t cs) (o:Obj):Blk (w.alloc o) g t cs:=(Below.heap_alloc w o g h.lt).trans h
theorem Blk.set {w:World} {g:Nat} {t:TypeId} {cs:Array Value} (h:Blk w g t cs) (j:Nat) (v:Value):Blk (w.setCell ⟨g,j,none⟩ v) g t (cs.setIfInBounds j v):=heap_setCell_same w g j cs t v h
theorem Blk.far {w:World} {g g':Nat} {t:TypeId} {cs:Array Value} (h:Blk w g t cs) (hne:g≠g') (j:Nat) (v:Value):Blk (w.setCell ⟨g',j,none⟩ v) g t cs:=(heap_setCell_other w ⟨g',j,none⟩ g v hne).trans h
theorem Tryz.size22 (y m d h i s:Int):(Tryz.prog.info? 147).map (·.size)=some (d6c y m d h i s).size:=by rw[zsO];kernel_rfl
theorem zhm (y m d h i s:Int):(d6c y m d h i s).all (·.oneCell')=true:=by simp[d6c,Value.oneCell']
def Mon (w wr:World) (b1 bl:Nat) (y m:Int):Prop:=
 Blk wr w.heap.size 147 (d6c 0 0 0 0 0 0)/\ Blk wr b1 147 (d6c y m 1 0 0 0)/\ Blk wr bl 208 (zbu (28+lp y))/\ Below w.heap.size w wr
theorem Mon.next {w wr:World} {b1 bl:Nat} {y m:Int} (h:Mon w wr b1 bl y m) (h1:w.heap.size<b1) (h2:b1≠bl):Mon w (wr.setCell ⟨b1,1,none⟩ (.int .i64 (m+1))) b1 bl y (m+1):=
 ⟨h.1.far (by omega) _ _,h.2.1.set 1 _,h.2.2.1.far (fun e=>h2 e.symm) _ _,h.2.2.2.setCell (by show w.heap.size<=b1;omega) _⟩
theorem zsP (n:Int) (w:World) (h0:0<=n) (h1:n<=91310):Calls Tryz.prog 171 #[.int .i64 n] w fun e w'=>∃y m d:Int,e= .returned (.agg (d6c y m d 0 0 0))/\ zl2 n y m d/\ Below w.heap.size w w':=by
 go_enter Tryz.func171,Tryz.ntmps171
 go_wp2
 go_loopw [0] (fun t wr=>∃y:Int,1950<=y/\ y<=2199/\ dby y-711857<=n/\ t= .int .i64 (n-(dby y-711857))/\ wr=(w.alloc (.cells #[.int .i64 0,.int .i64 0,.int .i64 0,.int .i64 0,.int .i64 0,.int .i64 0] 147)).alloc (.cells #[.int .i64 y,.int .i64 1,.int .i64 1,.int .i64 0,.int .i64 0,.int .i64 0] 147)) (fun t _=>(intOf t).toNat)
 case atStart=>exact⟨1950,by omega,by omega,by rw[zbY];omega,by rw[zbY];simp,rfl⟩
 case round=>
  obtain⟨y,hy1,hy2,hy3,rfl,rfl⟩:=hrel
  have dm:=zcc hy1
  rw[zbY]at dm
  have DS:=zwd (zfs y)
  have dl:=zoj y
  by_cases hge:365+lp y<=n-(dby y-711857)
  · have hy':y+1<=2199:=by
     rcases(show y<2199 \/2199<=y by omega)with h|h
     · omega
     · have:=zcc (show 2200<=y+1 by omega)
       rw[zcW,DS.out]at this
       omega
    go_wp2_with (go_at_call 203;refine(zm6 y _ (by omega) (by omega)).mono ?_;rintro e w' ⟨rfl,rfl⟩)
    go_roundw
    case rel=>exact⟨y+1,by omega,hy',by rw[DS.out];omega,by rw[DS.out];go_num,rfl⟩
    case measure=>simp[intOf];omega
  · have dm2:n-(dby y-711857)<365+lp y:=by omega
    go_wp2_with (go_at_call 203;refine(zm6 y _ (by omega) (by omega)).mono ?_;rintro e w' ⟨rfl,rfl⟩)
    have K0:=zwd (((Blk.new w 147 (d6c 0 0 0 0 0 0)).alloc (.cells (d6c y 1 1 0 0 0) 147)))
    have K1:=zwd (Blk.new (w.alloc (.cells (d6c 0 0 0 0 0 0) 147)) 147 (d6c y 1 1 0 0 0))
    have KB:=zwd (((Below.refl w.heap.size w).alloc (Nat.le_refl _) (.cells (d6c 0 0 0 0 0 0) 147)).alloc (by simp) (.cells (d6c y 1 1 0 0 0) 147))
    rw[show(w.alloc (.cells (d6c 0 0 0 0 0 0) 147)).heap.size=w.heap.size+1 by simp]at K1
    simp only[d6c]at K0 K1 KB
    refine(zfZ y _ (by omega) (by omega)).mono ?_
    rintro e w4 ⟨rfl,hb4⟩
    have hs4:w.heap.size+2<=w4.heap.size:=by have:=hb4.size;simp at this;omega
    have HM:Hid (Mon w (w4.alloc (.cells (zbu (28+lp y)) 208)) (w.heap.size+1) w4.heap.size y 1):=
     ⟨(K0.out.below hb4 (by simp;omega)).alloc _,(K1.out.below hb4 (by simp)).alloc _,Blk.new _ _ _,(Below.step KB.out hb4).alloc (by omega) _⟩
    clear hb4 K0 K1 KB
    simp only[zbu]at HM⊢
    go_wp2
    have hbl:w.heap.size+1≠w4.heap.size:=by omega
    generalize w4.alloc (.cells #[.int .i64 31,.int .i64 (28+lp y),.int .i64 31,.int .i64 30,.int .i64 31,.int .i64 30,.int .i64 31,.int .i64 31,.int .i64 30,.int .i64 31,.int .i64 30,.int .i64 31] 208)=w5 at HM⊢
    generalize w4.heap.size=bl at HM hbl⊢
    have HBL:=zwd hbl
    clear hbl hs4
    obtain⟨r,HR⟩:∃r,r=n-(dby y-711857):=⟨_,rfl⟩
    rw[<-HR]
    have hr0:0<=r:=by omega
    have hr1:r<365+lp y:=by omega
    have HRH:=zwd HR
    clear HR dm2
    go_loopw [0] (fun t wr=>∃m:Int,1<=m/\ m<=12/\ cum y m<=r/\ t= .int .i64 (r-cum y m)/\ Mon w wr (w.heap.size+1) bl y m) (fun t _=>(intOf t).toNat)
    case atStart=>exact⟨1,by omega,by omega,by rw[zcQ];omega,by rw[zcQ];simp,HM.out⟩
    case round=>
     obtain⟨m,hm1,hm2,hm3,rfl,hmon⟩:=hrel
     have HN:=zwd hmon
     clear hmon HM
     have c0:=zcX (y:=y) hm1
     rw[zcQ]at c0
     have mr:=zd5 y m
     have CS:=zwd (zeD y m hm1 hm2)
     have k1:wr.cell? ⟨w.heap.size+1,1,none⟩=some (.int .i64 m):=HN.out.2.1.cell 1
     have k2:wr.cell? ⟨w.heap.size+1,2,none⟩=some (.int .i64 1):=HN.out.2.1.cell 2
     have f1:=HN.out.2.1.free 1
     have f2:=HN.out.2.1.free 2
     have mc:=(HN.out.2.2.1.cell (m-1).toNat).trans (zuz y m hm1 hm2)
     have mc2:wr.cell? ⟨bl,m.toNat-1,none⟩=some (.int .i64 (ml y m)):=by rw[show m.toNat-1=(m-1).toNat by omega];exact mc
     by_cases hge':ml y m<=r-cum y m
     · have hm':m<=11:=by
        rcases(show m<=11 \/m=12 by omega)with h|h
        · exact h
        · have e:=CS.out
          rw[h,show(12:Int)+1=13 from rfl,zhk]at e
          rw[h]at hge'
          omega
       have HX:=zwd (HN.out.next (by omega) HBL.out)
       clear HN
       go_wp2
       go_roundw
       case rel=>exact⟨m+1,by omega,by omega,by rw[CS.out];omega,by rw[CS.out];go_num,HX.out⟩
       case measure=>simp[intOf];omega
     · have hlt':r-cum y m<ml y m:=by omega
       have L1:Hid (Blk (wr.setCell ⟨w.heap.size+1,2,none⟩ (.int .i64 (1+(r-cum y m)))) (w.heap.size+1) 147 (d6c y m (1+(r-cum y m)) 0 0 0)):=HN.out.2.1.set 2 _
       have L0:Hid (Blk (wr.setCell ⟨w.heap.size+1,2,none⟩ (.int .i64 (1+(r-cum y m)))) w.heap.size 147 (d6c 0 0 0 0 0 0)):=HN.out.1.far (by omega) _ _
       have LB:=zwd (HN.out.2.2.2.setCell (p:=⟨w.heap.size+1,2,none⟩) (by show w.heap.size<=w.heap.size+1;omega) (.int .i64 (1+(r-cum y m))))
       have ID:Hid (zl2 n y m (1+(r-cum y m))):=by have:=HRH.out;unfold Hid zl2;omega
       clear HN
       go_wp2_with (first|refine wpList_load_row rfl 147 (.tmp 3) rfl (w.heap.size+1) rfl 147 (d6c y m (1+(r-cum y m)) 0 0 0) (0,0) (.array 6 3) L1.out Tryz.underlying147 rfl (Tryz.size22 ..) ?_|refine wpList_store_rowTo rfl 147 (.tmp 2) (.tmp 46) rfl rfl w.heap.size (d6c y m (1+(r-cum y m)) 0 0 0) rfl rfl 147 (d6c 0 0 0 0 0 0) L0.out (Tryz.size22 ..) rfl (zhm ..) ?_)
       (try simp only[Exit.inBlock,Exit.then])
       exact bodyPost_ret (results_cell_row rfl _ _ w.heap.size 147 (d6c y m (1+(r-cum y m)) 0 0 0) (0,0) (.array 6 3) rfl (setRow_heap _ _ _ _ 147 _ L0.out) Tryz.underlying147 rfl (Tryz.size22 ..)) rfl ⟨y,m,_,rfl,ID.out,below_setRow LB.out (Nat.le_refl _) _⟩
def D6.cells (a:D6):Array Value:=d6c a.y a.m a.d a.h a.i a.s
def ze5:D6:=⟨0,0,0,0,0,0⟩
def zsQ (s:Int) (a:D6) (ok:Bool):Prop:=(ok=true/\ IsDate s a) \/(ok=false/\ a=ze5/\ (s< -631152000 \/7258118399<s))
def zkA (w:World) (s:Int) (e:Ending) (w':World):Prop:=∃a ok,zsQ s a ok/\ e= .returned (.tuple #[.agg a.cells,.bool ok])/\ Below w.heap.size w w'
theorem zsQ.eq {s:Int} {a b:D6} {p q:Bool} (h:zsQ s a p) (k:zsQ s b q):a=b/\ p=q:=by
 rcases h with⟨rfl,h⟩|⟨rfl,rfl,h⟩<;>rcases k with⟨rfl,k⟩|⟨rfl,rfl,k⟩
 · exact⟨h.eq k,rfl⟩
 · have:=zgK h.1;rw[h.2]at this;omega
 · have:=zgK k.1;rw[k.2]at this;omega
 · exact⟨rfl,rfl⟩
theorem zhn {n t s y m d:Int} (h:zl2 n y m d) (h0:0<=t) (h1:t<86400) (hs:s=(n-7305)*86400+t):IsDate s ⟨y,m,d,t/3600,t%3600/60,t%60⟩:=by
 obtain⟨a1,a2,a3,a4,a5,a6,a7⟩:=h
 refine⟨⟨a1,a2,a3,a4,a5,a6,?_⟩,?_⟩
 · simp only;omega
 · unfold secs D6.days D6.clk
   simp only
   omega
theorem zcp {P:Program} {fn:Func} {p u:Tmp} {ty:TypeId} (h:fn.results=#[.cell p ty,.tmp u]) (tmps:Array Value) (w:World) (g:Nat) (t:TypeId) (cs:Array Value) (fr:Nat×Nat) (d:TypeDesc)
 (hp:tmps.getD p undef= .pointer (some ⟨g,0,none⟩)) (hg:w.heap[g]?=some (.cells cs t fr))
 (hu:P.underlying ty=some d) (hd:(match d with| .struct _| .array _ _=>true|_=>false)=true) (hi:(P.info? ty).map (·.size)=some cs.size):
 (results fn tmps).run P w= .ok (.tuple #[.agg cs,tmps.getD u undef]) w:=by
 rw[results_cell_tmp h,hp]
 simp[asAddr,run_loadVar_row w g t ty cs fr d hg hu hd hi,Result.andThen]
theorem zm8 (s:Int) (w:World):Calls Tryz.prog 123 #[.int .i64 s] w (zkA w s):=by
 by_cases hlo:s< -631152000
 · have t1:decide (s< -631152000)=true:=by simpa using hlo
   go_enter Tryz.func123,Tryz.ntmps123
   go_wp2_with fail
   refine(zco 1950 _ (by omega) (by omega)).mono ?_
   rintro e w1 ⟨rfl,rfl⟩
   go_wp2_with fail
   refine(zco 1970 _ (by omega) (by omega)).mono ?_
   rintro e w1' ⟨rfl,hw⟩
   subst hw
   rw[zbY,zcd]
   go_wp2_with fail
   refine(zco 2200 _ (by omega) (by omega)).mono ?_
   rintro e w1' ⟨rfl,hw⟩
   subst hw
   go_wp2_with fail
   refine(zco 1970 _ (by omega) (by omega)).mono ?_
   rintro e w1' ⟨rfl,hw⟩
   subst hw
   rw[zcW,zcd]
   go_wp2
   exact bodyPost_ret (v:= .tuple #[.agg ze5.cells,.bool false]) (by simp[results,Tryz.results123,go_sem,D6.cells,d6c,ze5]) rfl ⟨ze5,false,.inr ⟨rfl,rfl,.inl hlo⟩,rfl,(Below.refl _ _).alloc (Nat.le_refl _) _⟩
 · have t1:decide (s< -631152000)=false:=by simpa using hlo
   by_cases hhi:7258118399<s
   · have t2:decide (7258118400<=s)=true:=by simp;omega
     go_enter Tryz.func123,Tryz.ntmps123
     go_wp2_with fail
     refine(zco 1950 _ (by omega) (by omega)).mono ?_
     rintro e w1 ⟨rfl,rfl⟩
     go_wp2_with fail
     refine(zco 1970 _ (by omega) (by omega)).mono ?_
     rintro e w1' ⟨rfl,hw⟩
     subst hw
     rw[zbY,zcd]
     go_wp2_with fail
     refine(zco 2200 _ (by omega) (by omega)).mono ?_
     rintro e w1' ⟨rfl,hw⟩
     subst hw
     go_wp2_with fail
     refine(zco 1970 _ (by omega) (by omega)).mono ?_
     rintro e w1' ⟨rfl,hw⟩
     subst hw
     rw[zcW,zcd]
     go_wp2
     exact bodyPost_ret (v:= .tuple #[.agg ze5.cells,.bool false]) (by simp[results,Tryz.results123,go_sem,D6.cells,d6c,ze5]) rfl ⟨ze5,false,.inr ⟨rfl,rfl,.inr hhi⟩,rfl,(Below.refl _ _).alloc (Nat.le_refl _) _⟩
   · have t2:decide (7258118400<=s)=false:=by simp;omega
     have hp0:0<=s+631152000:=by omega
     have hp1:s+631152000<7889270400:=by omega
     have K0:=zwd (Blk.new w 147 (d6c 0 0 0 0 0 0))
     have KB:=zwd ((Below.refl w.heap.size w).alloc (Nat.le_refl _) (.cells (d6c 0 0 0 0 0 0) 147))
     simp only[d6c]at K0 KB
     go_enter Tryz.func123,Tryz.ntmps123
     go_wp2_with fail
     refine(zco 1950 _ (by omega) (by omega)).mono ?_
     rintro e w1 ⟨rfl,hw⟩
     subst hw
     go_wp2_with fail
     refine(zco 1970 _ (by omega) (by omega)).mono ?_
     rintro e w1' ⟨rfl,hw⟩
     subst hw
     rw[zbY,zcd]
     go_wp2_with fail
     refine(zco 2200 _ (by omega) (by omega)).mono ?_
     rintro e w1' ⟨rfl,hw⟩
     subst hw
     go_wp2_with fail
     refine(zco 1970 _ (by omega) (by omega)).mono ?_
     rintro e w1' ⟨rfl,hw⟩
     subst hw
     rw[zcW,zcd]
     go_wp2_with fail
     refine(zsP ((s+631152000)/86400) _ (by omega) (by omega)).mono ?_
     rintro e w2 ⟨y,m,d,rfl,hday,hb2⟩
     have ID:=zwd (zhn (t:=(s+631152000)%86400) (s:=s) hday (by omega) (by omega) (by omega))
     rw[show(s+631152000)%86400%3600=(s+631152000)%3600 by omega,show(s+631152000)%86400%60=(s+631152000)%60 by omega]at ID
     clear hday
     have K2:=zwd ((K0.out.below hb2 (by simp)).alloc (.cells (d6c y m d ((s+631152000)%86400/3600) ((s+631152000)%3600/60) ((s+631152000)%60)) 147))
     have KC:=zwd ((Below.step KB.out hb2).alloc (Below.step KB.out hb2).size (.cells (d6c y m d ((s+631152000)%86400/3600) ((s+631152000)%3600/60) ((s+631152000)%60)) 147))
     clear hb2 K0 KB
     simp only[d6c]at K2 KC⊢
     go_wp2_with (refine wpList_store_rowTo rfl 147 (.tmp 2) (.tmp 44) rfl rfl w.heap.size (d6c y m d ((s+631152000)%86400/3600) ((s+631152000)%3600/60) ((s+631152000)%60)) rfl rfl 147 (d6c 0 0 0 0 0 0) K2.out (Tryz.size22 ..) rfl (zhm ..) ?_)
     exact bodyPost_ret (zcp rfl _ _ w.heap.size 147 (d6c y m d ((s+631152000)%86400/3600) ((s+631152000)%3600/60) ((s+631152000)%60)) (0,0) (.array 6 3) rfl (setRow_heap _ _ _ _ 147 _ K2.out) Tryz.underlying147 rfl (Tryz.size22 ..)) rfl ⟨_,true,.inl ⟨rfl,ID.out⟩,rfl,below_setRow KC.out (Nat.le_refl _) _⟩
def digs:Nat->Int->List Int
 |0,_=> []
 |k+1,n=>digs k (n/10)++[48+n%10]
theorem digs_length (k:Nat):∀n,(digs k n).length=k:=by
 induction k with
 |zero=>intro n;rfl
 |succ k ih=>intro n;rw[digs,List.length_append,ih];rfl
theorem zkB (k:Nat):∀n,∀x∈digs k n,48<=x/\ x<=57:=by
 induction k with
 |zero=>intro n x hx;simp[digs]at hx
 |succ k ih=>
   intro n x hx
   rw[digs,List.mem_append]at hx
   rcases hx with hx|hx
   · exact ih _ x hx
   · simp at hx
     omega
def zm9 (W0:World) (L:List Int) (e:Ending) (w':World):Prop:=∃V,e= .returned V/\ Out W0 w' V L
theorem zdQ (W0:World):∀(k:Nat) (n:Int) (V:Value) (L:List Int) (w:World),k<=4->0<=n->n<=100000->L.length<=1000->Out W0 w V L->Calls Tryz.prog 173 #[V,.int .i64 n,.int .i64 (k:Int)] w (zm9 W0 (L++digs k n))
 |0,n,V,L,w,_,_,_,_,ho=>by
   have HO:=zwd ho
   clear ho
   go_enter Tryz.func173,Tryz.ntmps173
   go_wp2
   go_ret
   exact⟨V,rfl,by rw[digs,List.append_nil];exact HO.out⟩
 |k+1,n,V,L,w,hk,h0,h1,hl,ho=>by
   have IH:=zwd (zdQ W0 k (n/10) V L w (by omega) (by omega) (by omega) hl ho)
   clear ho
   have t0:(((k+1:Nat):Int)==0)=false:=by simp;omega
   have e1:((k+1:Nat):Int)-1=(k:Int):=by omega
   have b0:0<=n%10:=by omega
   have b1:n%10<10:=by omega
   have ST:Hid (L++digs (k+1) n=L++digs k (n/10)++[48+n%10]):=by rw[digs,List.append_assoc];exact rfl
   have HL:Hid ((L++digs k (n/10)).length<=2000):=zwd (by rw[List.length_append,digs_length];omega)
   go_enter Tryz.func173,Tryz.ntmps173
   go_wp2_with fail
   refine IH.out.mono ?_
   rintro e w1 ⟨V1,rfl,ho1⟩
   have HO:=zwd ho1
   clear ho1 IH
   have RW:=zwd (zaY w1 [48+n%10] (0,0) (by simp;omega))
   go_wp2_with (at_builtin;refine zag (W0:=W0) (L:=L++digs k (n/10)) (zs:=[48+n%10]) rfl _ _ rfl rfl (HO.out.alloc _) rfl RW.out (fun e=>by cases e) (by have:=HL.out;omega) ?_;intro V2 w2 ho2;have HO2:=zwd ho2;clear ho2)
   go_ret
   exact⟨V2,rfl,by rw[ST.out];exact HO2.out⟩
theorem zf0 (long:Bool) (w:World):Calls Tryz.prog 172 #[.bool long] w fun e w'=>e= .returned (.agg (d6c (if long=true then 4 else 2) 2 2 2 2 2))/\ Below w.heap.size w w':=by
 cases long
 · go_enter Tryz.func172,Tryz.ntmps172
   go_wp2
   exact bodyPost_ret (v:= .agg (d6c 2 2 2 2 2 2)) (by simp[results,Tryz.results172,go_sem,d6c]) rfl ⟨rfl,(Below.refl _ _).alloc (Nat.le_refl _) _⟩
 · go_enter Tryz.func172,Tryz.ntmps172
   go_wp2
   exact bodyPost_ret (v:= .agg (d6c 4 2 2 2 2 2)) (by simp[results,Tryz.results172,go_sem,d6c]) rfl ⟨rfl,(Below.refl _ _).alloc (Nat.le_refl _) _⟩
def D6.txt (a:D6):List Int:=digs 4 a.y++digs 2 a.m++digs 2 a.d++digs 2 a.h++digs 2 a.i++digs 2 a.s
def D6.long (a:D6):List Int:=a.txt++[90]
theorem D6.long_length (a:D6):a.long.length=15:=by
 unfold D6.long D6.txt
 simp[digs_length]
theorem D6.long_byte (a:D6):∀x∈a.long,0<=x/\ x<=255:=by
 intro x hx
 unfold D6.long D6.txt at hx
 simp only[List.mem_append,List.mem_singleton]at hx
 rcases hx with(((((h|h)|h)|h)|h)|h)|h
 all_goals first|(have:=zkB _ _ x h;omega)|omega
def D6.upto (a:D6):Nat->List Int
 |0=> []
 |1=>digs 4 a.y
 |2=>digs 4 a.y++digs 2 a.m
 |3=>digs 4 a.y++digs 2 a.m++digs 2 a.d
 |4=>digs 4 a.y++digs 2 a.m++digs 2 a.d++digs 2 a.h
 |5=>digs 4 a.y++digs 2 a.m++digs 2 a.d++digs 2 a.h++digs 2 a.i
 |_=>a.txt
theorem D6.upto_length (a:D6) (k:Nat):(a.upto k).length<=14:=by
 rcases k with _|_|_|_|_|_|k
 all_goals simp[D6.upto,D6.txt,digs_length]
theorem _root_.Go.Proofs.YtpgahclpbdpbnaaGreatDoor.Out.weaken {W0 W1 wr:World} {V:Value} {L:List Int} (h:Out W1 wr V L) (hb:Below W0.heap.size W0 W1):Out W0 wr V L:=by
 refine⟨⟨h.1.1,?_⟩,hb.trans (h.2.mono hb.size)⟩
 rcases h.1.2 with h'|⟨g,cap,cur,e,h1,h2⟩
 · exact .inl h'
 · exact .inr ⟨g,cap,cur,e,Nat.le_trans hb.size h1,h2⟩
theorem zvy (W:World):(Instr.makeSlice 26 (.int .i64 0) (.int .i64 15)).run Tryz.prog W= .ok (.slice (some ⟨W.heap.size,0,none⟩) 0 15) (W.alloc (.cells (madeCells #[.int .u8 0] 15) 5)):=zfU 15 (by omega) W
theorem zho (y m d h i s:Int) (w:World) (hok:(⟨y,m,d,h,i,s⟩:D6).ok):Calls Tryz.prog 124 #[.agg (d6c y m d h i s)] w (zm9 w (⟨y,m,d,h,i,s⟩:D6).long):=by
 obtain⟨i0,i1,i2,i3,i4,i5⟩:=zeE (.int .i64 4) (.int .i64 2) (.int .i64 2) (.int .i64 2) (.int .i64 2) (.int .i64 2)
 obtain⟨h1,h2,h3,h4,h5,h6,h7,h8,h9,h10,h11,h12⟩:=hok
 simp only at h1 h2 h3 h4 h5 h6 h7 h8 h9 h10 h11 h12
 have hl:=zd5 y m
 have hmk:=zvy
 have K0:=zwd (Blk.new w 147 (d6c y m d h i s))
 have HS:=zwd (Out.made (W0:=w.alloc (.cells (d6c y m d h i s) 147)) 15 (by omega))
 rw[show(w.alloc (.cells (d6c y m d h i s) 147)).heap.size=w.heap.size+1 by simp]at HS
 simp only[d6c]at HS K0⊢
 go_enter Tryz.func124,Tryz.ntmps124
 go_wp2_with fail
 refine(zf0 true _).mono ?_
 rintro e w2 ⟨rfl,hb2⟩
 rw[if_pos rfl]
 simp only[d6c]
 have HO:=zwd (HS.out.below hb2)
 clear hb2 HS hmk
 go_wp2
 obtain⟨W1,HW1⟩:∃W1,W1=w.alloc (.cells #[.int .i64 y,.int .i64 m,.int .i64 d,.int .i64 h,.int .i64 i,.int .i64 s] 147):=⟨_,rfl⟩
 have B1:Hid (Below w.heap.size w W1):=by rw[HW1];exact(Below.refl _ _).alloc (Nat.le_refl _) _
 have hs1:w.heap.size+1=W1.heap.size:=by rw[HW1];simp
 rw[<-HW1]at K0 HO
 clear HW1
 have HS1:=zwd hs1
 clear hs1
 go_loopw [3,8] (fun V t wr=>∃k:Nat,k<=6/\ t= .int .i64 (k:Int)/\ Out W1 wr V ((⟨y,m,d,h,i,s⟩:D6).upto k)) (fun _ t _=>6-(intOf t).toNat)
 case atStart=>exact⟨0,by omega,rfl,HO.out⟩
 case round=>
  obtain⟨k,hk,rfl,hout⟩:=hrel
  have HR:=zwd hout
  clear hout HO
  have hul:=(⟨y,m,d,h,i,s⟩:D6).upto_length k
  have bw:w.heap.size<W1.heap.size:=by have:=HS1.out;omega
  have K2:=zwd (K0.out.below HR.out.2 bw)
  clear bw
  rcases k with _|_|_|_|_|_|_|k
  · have c:wr.cell? ⟨w.heap.size,0,none⟩=some (.int .i64 y):=K2.out.cell 0
    go_wp2_with fail
    refine(zdQ W1 4 y _ _ _ (by omega) (by omega) (by omega) (by omega) HR.out).mono ?_
    rintro e w3 ⟨V3,rfl,ho3⟩
    have HO3:=zwd ho3
    clear ho3 HR
    go_wp2
    go_roundw
    case rel=>exact⟨1,by omega,by go_num,HO3.out⟩
    case measure=>simp[intOf]
  · have c:wr.cell? ⟨w.heap.size,1,none⟩=some (.int .i64 m):=K2.out.cell 1
    go_wp2_with fail
    refine(zdQ W1 2 m _ _ _ (by omega) (by omega) (by omega) (by omega) HR.out).mono ?_
    rintro e w3 ⟨V3,rfl,ho3⟩
    have HO3:=zwd ho3
    clear ho3 HR
    go_wp2
    go_roundw
    case rel=>exact⟨2,by omega,by go_num,HO3.out⟩
    case measure=>simp[intOf]
  · have c:wr.cell? ⟨w.heap.size,2,none⟩=some (.int .i64 d):=K2.out.cell 2
    go_wp2_with fail
    refine(zdQ W1 2 d _ _ _ (by omega) (by omega) (by omega) (by omega) HR.out).mono ?_
    rintro e w3 ⟨V3,rfl,ho3⟩
    have HO3:=zwd ho3
    clear ho3 HR
    go_wp2
    go_roundw
    case rel=>exact⟨3,by omega,by go_num,HO3.out⟩
    case measure=>simp[intOf]
  · have c:wr.cell? ⟨w.heap.size,3,none⟩=some (.int .i64 h):=K2.out.cell 3
    go_wp2_with fail
    refine(zdQ W1 2 h _ _ _ (by omega) (by omega) (by omega) (by omega) HR.out).mono ?_
    rintro e w3 ⟨V3,rfl,ho3⟩
    have HO3:=zwd ho3
    clear ho3 HR
    go_wp2
    go_roundw
    case rel=>exact⟨4,by omega,by go_num,HO3.out⟩
    case measure=>simp[intOf]
  · have c:wr.cell? ⟨w.heap.size,4,none⟩=some (.int .i64 i):=K2.out.cell 4
    go_wp2_with fail
    refine(zdQ W1 2 i _ _ _ (by omega) (by omega) (by omega) (by omega) HR.out).mono ?_
    rintro e w3 ⟨V3,rfl,ho3⟩
    have HO3:=zwd ho3
    clear ho3 HR
    go_wp2
    go_roundw
    case rel=>exact⟨5,by omega,by go_num,HO3.out⟩
    case measure=>simp[intOf]
  · have c:wr.cell? ⟨w.heap.size,5,none⟩=some (.int .i64 s):=K2.out.cell 5
    go_wp2_with fail
    refine(zdQ W1 2 s _ _ _ (by omega) (by omega) (by omega) (by omega) HR.out).mono ?_
    rintro e w3 ⟨V3,rfl,ho3⟩
    have HO3:=zwd ho3
    clear ho3 HR
    go_wp2
    go_roundw
    case rel=>exact⟨6,by omega,by go_num,HO3.out⟩
    case measure=>simp[intOf]
  · have RW:=zwd (zaY wr [90] (0,0) (by simp))
    go_wp2_with (at_builtin;refine zag (W0:=W1) (zs:=[90]) rfl _ _ rfl rfl (HR.out.alloc _) rfl RW.out (fun e=>by cases e) (by omega) ?_;intro V2 w2 ho2;have HO2:=zwd ho2;clear ho2)
    go_ret
    exact⟨V2,rfl,HO2.out.weaken B1.out⟩
  · omega
def nz (v:Int):List Int->Option Int
 | []=>some v
 |c::r=>if 48<=c/\ c<=57 then nz (v*10+(c-48)) r else none
theorem zp9:∀(xs:List Int) (v c:Int),nz v (xs++[c])=(nz v xs).bind (fun n=>if 48<=c/\ c<=57 then some (n*10+(c-48))else none)
 | [],v,c=>by simp[nz]
 |x::xs,v,c=>by
   simp only[List.cons_append,nz]
   split
   · exact zp9 xs _ c
   · rfl
theorem zcA:∀(k:Nat) (n:Int),0<=n->n<10^k->nz 0 (digs k n)=some n
 |0,n,h0,h1=>by
   simp at h1
   have:n=0:=by omega
   subst this
   rfl
 |k+1,n,h0,h1=>by
   have h2:n/10<10^k:=by
    rw[Int.pow_succ]at h1
    generalize(10:Int)^k=q at*
    omega
   rw[digs,zp9,zcA k (n/10) (by omega) h2]
   simp only[Option.bind_some]
   rw[if_pos (by omega)]
   congr 1
   omega
theorem zkC:∀(ds:List Int) (v n:Int),0<=v->nz v ds=some n->0<=n/\ n<(v+1)*10^ds.length
 | [],v,n,h0,h=>by
   simp[nz]at h
   subst h
   simp
   omega
 |c::r,v,n,h0,h=>by
   rw[nz]at h
   split at h
   · have ih:=zkC r _ n (by omega) h
     refine⟨ih.1,Int.lt_of_lt_of_le ih.2 ?_⟩
     rw[List.length_cons,Int.pow_succ,<-Int.mul_assoc,Int.mul_right_comm]
     exact Int.mul_le_mul_of_nonneg_right (by omega) (Int.le_of_lt (Int.pow_pos (by decide)))
   · cases h
def zt4 (w:World) (r:Option Int) (e:Ending) (w':World):Prop:=e= .returned (.tuple #[.int .i64 (r.getD 0),.bool r.isSome])/\ w'=w
theorem zf1 (a:Option Addr) (n ca:Nat) (zs:List Int) (w:World) (hx:Row w a n zs) (hn:n<=4):Calls Tryz.prog 216 #[.slice a n ca] w (zt4 w (nz 0 zs)):=by
 have HX:=zwd hx
 clear hx
 go_enter Tryz.func216,Tryz.ntmps216
 go_wp2
 go_loop [4,9] (fun v i=>∃(k:Nat) (x:Int),k<=n/\ i= .int .i64 (k:Int)/\ v= .int .i64 x/\ 0<=x/\ x+1<=10^k/\ nz 0 zs=nz x (zs.drop k)) (fun _ i=>n-(intOf i).toNat)
 case atStart=>exact⟨0,0,by omega,rfl,rfl,by omega,by simp,rfl⟩
 case round=>
  obtain⟨k,x,hk,rfl,rfl,hx0,hx1,hr⟩:=hrel
  have HR:=zwd hr
  clear hr
  have hx2:x<=100000000:=by
   have:(10:Int)^k<=10^4:=by
    rcases(show k=0 \/k=1 \/k=2 \/k=3 \/k=4 by omega)with rfl|rfl|rfl|rfl|rfl<;>decide
   omega
  by_cases hlt:k<n
  · obtain⟨b,off,rfl,_,hcell⟩:=HX.out.2.2 (by omega)
    have c:=hcell k hlt
    have hb:=HX.out.byte k
    have HS:Hid (zs.drop k=zs[k]?.getD 0::zs.drop (k+1)):=by
     have hl:k<zs.length:=by rw[HX.out.1];exact hlt
     unfold Hid
     rw[List.drop_eq_getElem_cons hl,List.getElem?_eq_getElem hl]
     rfl
    have HP:Hid ((10:Int)^(k+1)=10*10^k):=by unfold Hid;rw[Int.pow_succ];omega
    generalize zs[k]?.getD 0=z at c hb HS
    by_cases c1:z<48
    · have t1:decide (z<48)=true:=by simpa using c1
      have E:Hid (nz 0 zs=none):=by unfold Hid;rw[HR.out,HS.out,nz,if_neg (by omega)]
      clear hcell hx1
      go_wp2
      go_ret2
      exact⟨by rw[E.out];rfl,rfl⟩
    · have t1:decide (z<48)=false:=by simpa using c1
      by_cases c2:57<z
      · have t2:decide (57<z)=true:=by simpa using c2
        have E:Hid (nz 0 zs=none):=by unfold Hid;rw[HR.out,HS.out,nz,if_neg (by omega)]
        clear hcell hx1
        go_wp2
        go_ret2
        exact⟨by rw[E.out];rfl,rfl⟩
      · have t2:decide (57<z)=false:=by simpa using c2
        have E:Hid (nz 0 zs=nz (x*10+(z-48)) (zs.drop (k+1))):=by unfold Hid;rw[HR.out,HS.out,nz,if_pos (by omega)]
        have HX1:=zwd hx1
        clear hcell hx1
        go_wp2
        go_round
        case rel=>exact⟨k+1,x*10+(z-48),by omega,by go_num,rfl,by omega,by have:=HX1.out;have h2:(1:Int)<=10^k:=Int.pow_pos (by decide);rw[HP.out];omega,E.out⟩
        case measure=>simp[intOf];omega
  · have E:Hid (nz 0 zs=some x):=by unfold Hid;rw[HR.out,List.drop_of_length_le (by rw[HX.out.1];omega)];rfl
    clear hx1
    go_wp2
    go_ret2
    exact⟨by rw[E.out];rfl,rfl⟩
def zdp (n:Int):Int:=if 1950<=1900+n then 1900+n else 2000+n
theorem zsR (n:Int) (w:World) (h0:0<=n) (h1:n<=1000000):Calls Tryz.prog 217 #[.int .i64 n] w fun e w'=>e= .returned (.int .i64 (zdp n))/\ w'=w:=by
 have HF:Hid (zdp n=if 1950<=1900+n then 1900+n else 2000+n):=rfl
 by_cases c:1950<=1900+n
 · rw[if_pos c]at HF
   have t:decide (1950<=1900+n)=true:=by simpa using c
   go_enter Tryz.func217,Tryz.ntmps217
   go_wp2
   go_ret
   exact⟨zbw HF.out.symm,rfl⟩
 · rw[if_neg c]at HF
   have t:decide (1950<=1900+n)=false:=by simpa using c
   go_enter Tryz.func217,Tryz.ntmps217
   go_wp2
   go_ret
   exact⟨zbw HF.out.symm,rfl⟩
end Go.Proofs.YtpgahclpbdpbnaaGreatDoor.Clk
