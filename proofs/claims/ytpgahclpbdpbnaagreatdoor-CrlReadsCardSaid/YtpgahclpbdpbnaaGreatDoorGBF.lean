import Derived.Test.YtpgahclpbdpbnaaGreatDoorGAZ
import Derived.ChangeArms
set_option maxHeartbeats 2000000
namespace Go.Proofs.YtpgahclpbdpbnaaGreatDoor
open Go.RowKit
set_option linter.unusedVariables false
set_option linter.unusedSimpArgs false
theorem zig (b:Option Addr) (n cb:Nat) (zs:List Int) (w:World) (hr:Row w b n zs) (hnc:n<=cb) (hn:n<=30000) (hnil:b=none->cb=0):Calls Tryz.prog 12 #[.slice b n cb] w (zbk (readC zs) w):=by
 have b1:=zac w (.cells #[.string ⟨#[]⟩,.int .u32 0,.int .i64 0,.int .i64 0,.slice none 0 0] 25)
 have S0:=zwd (Blk.new w 25 #[.string ⟨#[]⟩,.int .u32 0,.int .i64 0,.int .i64 0,.slice none 0 0])
 have CO:=zwd (zid b n cb zs _ (hr.below b1) hnc hn hnil)
 have B0:=zwd b1
 clear b1 hr hnil
 go_enter Tryz.func12,Tryz.ntmps12
 go_upto_region 1 with fail
 generalize w.alloc (.cells #[.string ⟨#[]⟩,.int .u32 0,.int .i64 0,.int .i64 0,.slice none 0 0] 25)=w1 at*
 have s1:Hid (w.heap.size<w1.heap.size):=S0.out.lt
 go_wp2_with fail
 refine CO.out.mono ?_
 rintro e w2 ⟨hb2,hways⟩
 have S2:=zwd (S0.out.below hb2 S0.out.lt)
 have B2:=zwd (B0.out.trans (hb2.mono B0.out.size))
 clear S0 B0 CO hb2
 rcases hways with⟨z,hz0,hz,rfl⟩|⟨c,said,sig,a,ca,a1,c1,a2,c2,hz,ho,rfl,hat,hfar,hr1,hn1,hr2,hn2⟩
 · have F:=zwd hz
   have A3:=zac w2 (.cells (opdC za8 none 0 none 0 0 none 0 0) 63)
   have Y3:=zwd (Blk.new w2 63 (opdC za8 none 0 none 0 0 none 0 0))
   have S3:=zwd (S2.out.below A3 S2.out.lt)
   have B3:=zwd (B2.out.trans (A3.mono B2.out.size))
   clear hz A3 S2 B2 hz0
   unfold opdC za8 at*
   simp only[List.length_nil]at*
   go_upto_region 2 with fail
   generalize w2.alloc (.cells #[.string ⟨#[]⟩,.int .u32 0,.int .i64 0,.int .i64 0,.slice none 0 0,.slice none 0 0,.slice none 0 0] 63)=w3 at*
   generalize w2.heap.size=g3 at*
   obtain⟨⟨y0,y1,y2,y3,y4,y5,y6⟩,_⟩:=Y3.out.seven
   obtain⟨p0,p1,p2,p3,p4,f0,f1,f2,f3,f4⟩:=S3.out.five
   go_wp2_with fail
   exact zaV (R:=zbk (readC zs) w) (W:=w3) (g:=w.heap.size) rfl rfl rfl S3.out (Nat.le_refl _) B3.out (fun W' h1 h2=>by rw[F.out];exact⟨none,0,rfl,h1,h2⟩)
 · have F:=zwd hz
   have A3:=zac w2 (.cells (opdC c a ca a1 said.length c1 a2 sig.length c2) 63)
   have Y3:=zwd (Blk.new w2 63 (opdC c a ca a1 said.length c1 a2 sig.length c2))
   have S3:=zwd (S2.out.below A3 S2.out.lt)
   have B3:=zwd (B2.out.trans (A3.mono B2.out.size))
   have C3:=zwd (hat.below A3)
   have F3:Hid (∀b off,a=some ⟨b,off,none⟩->b≠w.heap.size):=zwd (fun b off e=>by have:=hfar b off e;have:=s1.out;omega)
   clear hz A3 S2 B2 ho hat hfar hr1 hn1 hr2 hn2
   unfold opdC at*
   go_upto_region 2 with fail
   generalize w2.alloc (.cells #[.string c.iss,.int .u32 c.num,.int .i64 c.fr,.int .i64 c.to,.slice a c.ser.length ca,.slice a1 said.length c1,.slice a2 sig.length c2] 63)=w3 at*
   generalize w2.heap.size=g3 at*
   obtain⟨⟨y0,y1,y2,y3,y4,y5,y6⟩,_⟩:=Y3.out.seven
   obtain⟨p0,p1,p2,p3,p4,f0,f1,f2,f3,f4⟩:=S3.out.five
   go_wp2_with fail
   exact zdF (x:=c) (a:=a) (ca:=ca) (R:=zbk (readC zs) w) (W:=w3) (g:=w.heap.size) rfl rfl rfl S3.out (Nat.le_refl _) B3.out C3.out F3.out (fun W' h1 h2=>by rw[F.out];exact⟨a,ca,rfl,h1,h2⟩)
end Go.Proofs.YtpgahclpbdpbnaaGreatDoor
namespace Go.Proofs.YtpgahclpbdpbnaaGreatDoor
open Go.ChangeShapes Go.WideShapes Go.ChangeAt Go.RowKit
set_option linter.unusedVariables false
set_option linter.unusedSimpArgs false
set_option maxRecDepth 100000
section
variable {H : Type} {enc : TypeId × Value -> H} {W : World} {base b0 : Nat} {held : Bool} {r : Reach} {v : Value} {d : DataW H} {ps : List MemPlace}
theorem zpi {l:List Value} (h:l.length=5):∃v0 v1 v2 v3 v4,l=[v0,v1,v2,v3,v4]:=by
 match l,h with
 | [v0,v1,v2,v3,v4],_=>exact⟨v0,v1,v2,v3,v4,rfl⟩
theorem zr3:Tryz.prog.cellsOf 25=5:=by kernel_rfl
theorem zpj:Tryz.prog.cellsOf 23=1:=by kernel_rfl
theorem zmF {fuel:Nat} {cs:List Value} {x:DataW H×List MemPlace} (h:DataW.trod enc Tryz.prog W base (fun _=>true) held fuel 23 cs=some x):∃a n c zs,cs=[.slice a n c]/\ zat W a n zs/\ (a=none->c=0)/\ n<=maxLen:=by
 rcases open_ints Tryz.underlying23 Tryz.underlying22 Tryz.cellsU h with⟨rfl,_⟩|⟨x,l,c,zs,rfl,_,hl,hm,hz,_,hcell,hwz⟩
 · exact⟨none,0,0,[],rfl,zat.nil _ _,fun _=>rfl,Nat.zero_le _⟩
 · exact⟨some x,l,c,zs.take l,rfl,(zse (.inr ⟨x,rfl,hl,hm,by simpa using hz,hcell,hwz⟩)).1,(fun e=>by cases e),Nat.le_trans hl hm⟩
theorem zn4 (hok:Value.okWide Tryz.prog W r b0 25 v) (hd:DataW.Trod enc Tryz.prog W base (fun _=>true) held 25 v d ps):
 ∃(c:CrlZ) (a:Option Addr) (ca:Nat),v= .agg (crlC c a c.ser.length ca)/\ zbj W c a ca/\ c.ser.length<=maxLen/\ c.iss.size<=maxLen:=by
 obtain⟨cs,rfl,_⟩:=okWide_struct Tryz.underlying25 hok
 obtain⟨fuel,hf⟩:=hd
 obtain⟨xs,n,_,_,hl,hn,hf⟩:=DataW.trod_struct Tryz.underlying25 hf
 rw[zr3]at hl
 obtain⟨l⟩:=cs
 obtain⟨v0,v1,v2,v3,v4,rfl⟩:=zpi (show l.length=5 from hl)
 have hn':xs.length=5:=hn
 have E:∀i,i<5->∃y,xs[i]?=some y:=fun i hi=>⟨_,List.getElem?_eq_getElem (by omega)⟩
 obtain⟨y0,e0⟩:=E 0 (by decide)
 obtain⟨y1,e1⟩:=E 1 (by decide)
 obtain⟨y2,e2⟩:=E 2 (by decide)
 obtain⟨y3,e3⟩:=E 3 (by decide)
 obtain⟨y4,e4⟩:=E 4 (by decide)
 have h0:DataW.trod enc Tryz.prog W base (fun _=>true) held n 9 (List.take (Tryz.prog.cellsOf 9) (List.drop 0 [v0,v1,v2,v3,v4]))=some y0:=(hf 0 _ rfl).trans e0
 have h1:DataW.trod enc Tryz.prog W base (fun _=>true) held n 22 (List.take (Tryz.prog.cellsOf 22) (List.drop 1 [v0,v1,v2,v3,v4]))=some y1:=(hf 1 _ rfl).trans e1
 have h2:DataW.trod enc Tryz.prog W base (fun _=>true) held n 2 (List.take (Tryz.prog.cellsOf 2) (List.drop 2 [v0,v1,v2,v3,v4]))=some y2:=(hf 2 _ rfl).trans e2
 have h3:DataW.trod enc Tryz.prog W base (fun _=>true) held n 2 (List.take (Tryz.prog.cellsOf 2) (List.drop 3 [v0,v1,v2,v3,v4]))=some y3:=(hf 3 _ rfl).trans e3
 have h4:DataW.trod enc Tryz.prog W base (fun _=>true) held n 23 (List.take (Tryz.prog.cellsOf 23) (List.drop 4 [v0,v1,v2,v3,v4]))=some y4:=(hf 4 _ rfl).trans e4
 rw[zet]at h0
 rw[Tryz.cellsU]at h1
 rw[zie]at h2 h3
 rw[zpj]at h4
 obtain⟨s,q0,_,m0⟩:=DataW.trod_string Tryz.underlying9 h0
 obtain⟨z1,q1,_,w1⟩:=DataW.trod_int Tryz.underlying22 h1
 obtain⟨z2,q2,_,w2⟩:=DataW.trod_int Tryz.underlying2 h2
 obtain⟨z3,q3,_,w3⟩:=DataW.trod_int Tryz.underlying2 h3
 obtain⟨a,k,c,zs,q4,hr,hc,hm⟩:=zmF h4
 obtain rfl:v0= .string s:=by simpa[Value.cells]using q0
 obtain rfl:v1= .int .u32 z1:=by simpa[Value.cells]using q1
 obtain rfl:v2= .int .i64 z2:=by simpa[Value.cells]using q2
 obtain rfl:v3= .int .i64 z3:=by simpa[Value.cells]using q3
 obtain rfl:v4= .slice a k c:=by simpa[Value.cells]using q4
 have:=bounds_u32 w1
 have hk:zs.length=k:=hr.1
 subst hk
 exact⟨⟨s,z1,z2,z3,zs⟩,a,c,rfl,⟨hr,by simp only;omega,hc⟩,hm,m0⟩
end
end Go.Proofs.YtpgahclpbdpbnaaGreatDoor
