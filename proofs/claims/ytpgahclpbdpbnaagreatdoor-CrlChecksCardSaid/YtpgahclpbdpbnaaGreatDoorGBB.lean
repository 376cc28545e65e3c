import Derived.Test.YtpgahclpbdpbnaaGreatDoorGAZ
import Derived.Test.YtpgahclpbdpbnaaGreatDoorGAH
import Derived.Test.YtpgahclpbdpbnaaGreatDoorGAW
import Derived.Test.YtpgahclpbdpbnaaGreatDoorGAE
import Derived.Test.YtpgahclpbdpbnaaGreatDoorGAV
import Derived.Test.YtpgahclpbdpbnaaGreatDoorGAU
set_option maxHeartbeats 4000000
set_option maxRecDepth 100000
namespace Go.Proofs.YtpgahclpbdpbnaaGreatDoor
open Go.RowKit
set_option linter.unusedVariables false
set_option linter.unusedSimpArgs false
theorem zr4 {z:Value} {A:Option Addr} {n c:Nat} {y:Value} (h:n<=c):ziG (.agg #[z,.slice A n c,y]):=by
 intro z' A' n' c' y' e
 simp only[Value.agg.injEq]at e
 have e':=congrArg Array.toList e
 simp only[List.cons.injEq,and_true,Value.slice.injEq]at e'
 obtain⟨_,⟨_,rfl,rfl⟩,_⟩:=e'
 exact h
theorem T.In.capped {w:World} {t:T} {v:Value} (h:t.In w v):ziG v:=by
 obtain⟨A,n,c,K,m,d,rfl,_,_,_,_,_,hcc,_⟩:=h.open
 exact zr4 hcc.2.1
structure RO (w W:World) (g:Nat) (x:T) (A:Option Addr) (nb c:Nat) (K:Option Addr) (m d:Nat):Prop where
 far:w.heap.size<g
 res:Blk W w.heap.size 30 #[.int .i64 0,.slice none 0 0,.slice none 0 0]
 box:Blk W g 30 #[.int .i64 x.tag,.slice A nb c,.slice K m d]
 below:Below w.heap.size w W
 has:x.InP (w.heap.size< ·) W (.agg #[.int .i64 x.tag,.slice A nb c,.slice K m d])
theorem RO.go {w W W':World} {g:Nat} {x:T} {A:Option Addr} {nb c:Nat} {K:Option Addr} {m d:Nat} (h:RO w W g x A nb c K m d) (hb:Below W.heap.size W W'):RO w W' g x A nb c K m d:=
 ⟨h.far,h.res.below hb h.res.lt,h.box.below hb h.box.lt,h.below.trans (hb.mono h.below.size),T.InP.below hb (fun _ h=>h) _ h.has⟩
theorem zn5 {w W:World} {x:Except Int (T×List Int×List Int)} {g:Nat} {t:T} {A:Option Addr} {nb c:Nat} {K:Option Addr} {m d:Nat} {tmps:Array Value} {fn:Func} {p u1 u2 u3:Tmp} {z:Int} (h:RO w W g t A nb c K m d) (hx:x= .error z) (hz:¬z=0) (hf:fn.results=#[.cell p 30,.tmp u1,.tmp u2,.tmp u3]) (hp:tmps.getD p undef= .pointer (some ⟨w.heap.size,0,none⟩)) (h1:tmps.getD u1 undef= .slice none 0 0) (h2:tmps.getD u2 undef= .slice none 0 0) (h3:tmps.getD u3 undef= .int .i64 z):
 bodyPost Tryz.prog fn (zjV x w) .ret {tmps:=tmps,defers:=[]} (((W.setCell ⟨w.heap.size,0,none⟩ (.int .i64 0)).setCell ⟨w.heap.size,1,none⟩ (.slice none 0 0)).setCell ⟨w.heap.size,2,none⟩ (.slice none 0 0)):=by
 have C:=((h.res.set 0 (.int .i64 0)).set 1 (.slice none 0 0)).set 2 (.slice none 0 0)
 have R:=zcN (P:=Tryz.prog) hf tmps _ w.heap.size 30 _ (0,0) _ hp C Tryz.underlying30 rfl Tryz.sizeNode
 rw[h1,h2,h3]at R
 exact bodyPost_ret R rfl ⟨h.below.trans (zc6 (B:=w.heap.size) (g:=w.heap.size) W (Nat.le_refl _) _ _ _),.inl ⟨z,hx,hz,rfl⟩⟩
theorem zmG {b:List Int} {x:T} (h:¬x.kids.length=3):zdl b x= .error 2:=by
 unfold zdl
 split
 · rename_i n a s hk
   rw[hk]at h
   exact absurd rfl h
 · rfl
theorem zkb {b:List Int} {x n a s:T} (h:x.kids=[n,a,s]):zdl b x=if(zao (zaL n (ofZ s).1)).2=0/\ (zao (zaL n (ofZ s).1)).1=b then .ok (n,(zao n).1,(ofZ s).1)else .error 2:=by
 unfold zdl
 rw[h]
theorem zlG (a:Option Addr) (n ca:Nat) (zs:List Int) (w:World) (hr:Row w a n zs) (hnc:n<=ca) (hn:n<=30000):Calls Tryz.prog 32 #[.slice a n ca] w (zjV (zbR zs) w):=by
 have b1:Below w.heap.size w (w.alloc (.cells #[.int .i64 0,.slice none 0 0,.slice none 0 0] 30)):=(Below.refl _ _).alloc (Nat.le_refl _) _
 have S0:=zwd (Blk.new w 30 #[.int .i64 0,.slice none 0 0,.slice none 0 0])
 have CR:=zwd (rread_any a n ca zs _ (hr.below b1) hnc hn)
 have HB:=zwd hr.2.1
 have R0:=zwd hr
 have B1:=zwd b1
 clear b1 hr
 go_enter Tryz.func32,Tryz.ntmps32
 go_wp2_with fail
 generalize hw1:w.alloc (.cells #[.int .i64 0,.slice none 0 0,.slice none 0 0] 30)=w1 at*
 have hs1:Hid (w.heap.size<w1.heap.size):=S0.out.lt
 clear hw1
 refine CR.out.mono ?_
 rintro e w2 ⟨hb2,hways⟩
 have S2:=zwd (S0.out.below hb2 S0.out.lt)
 have B2:=zwd (Below.step B1.out (hb2.mono (Nat.le_refl _)))
 clear S0 B1
 rcases hways with⟨z,hz,rfl⟩|⟨x,v,hx,rfl,hin⟩
 · have F:Hid (zbR zs= .error z):=by unfold zbR;rw[hz];exact zwd rfl
   have hz0:=zjX hz
   have t0:(z !=0)=true:=by simpa using hz0
   have P3:Hid (RO w (w2.alloc (.cells #[.int .i64 0,.slice none 0 0,.slice none 0 0] 30)) w2.heap.size (.node 0 [] []) none 0 0 none 0 0):=
    ⟨S2.out.lt,S2.out.alloc _,Blk.new _ _ _,B2.out.alloc B2.out.size _,zeF rfl (Row.nil _ _) (by simp) ⟨fun _=>rfl,Nat.le_refl _⟩ (fun h=>absurd h (by simp))⟩
   obtain⟨p0,p1,p2,f0,f1,f2⟩:=P3.out.res.facts
   have HZ:=zwd hz0
   clear hz hz0 CR HB hb2 S2 B2
   go_wp2_with fail
   exact zn5 P3.out F.out HZ.out rfl rfl rfl rfl rfl
 obtain⟨A,nb,c,K,m,d,rfl⟩:=hin.form
 have F0:Hid (zbR zs=zdl zs x):=by unfold zbR;rw[hx];exact zwd (zoy HB.out hx).symm
 obtain⟨hwt,hwr⟩:=znN HB.out hx
 have P3:Hid (RO w (w2.alloc (.cells #[.int .i64 x.tag,.slice A nb c,.slice K m d] 30)) w2.heap.size x A nb c K m d):=
  ⟨S2.out.lt,S2.out.alloc _,Blk.new _ _ _,B2.out.alloc B2.out.size _,T.InP.below ((Below.refl _ _).alloc (Nat.le_refl _) _) (fun b (hb:w1.heap.size<=b)=>(by have:=hs1.out;show w.heap.size<b;omega)) _ hin⟩
 have E3:Below w.heap.size w (w2.alloc (.cells #[.int .i64 x.tag,.slice A nb c,.slice K m d] 30)):=P3.out.below
 have R3:=zwd (R0.out.below E3)
 have hml:x.kids.length=m:=by have:=P3.out.has.kidsP.1;exact this
 clear hin hx CR hb2 E3 S2 B2 R0 hs1
 obtain⟨x0,x1,x2,_,_,_⟩:=P3.out.box.facts
 obtain⟨p0,p1,p2,f0,f1,f2⟩:=P3.out.res.facts
 by_cases hm:m=3
 rotate_left
 · have F:Hid (zbR zs= .error 2):=by rw[F0.out];exact zwd (zmG (by omega))
   have t1:((m:Int) !=3)=true:=by simp;omega
   clear hm F0 hwr hwt hml
   go_wp2_with fail
   exact zn5 P3.out F.out (by decide) rfl rfl rfl rfl rfl
 subst hm
 obtain⟨k0,k1,k2,hks⟩:∃k0 k1 k2,x.kids=[k0,k1,k2]:=by
  rcases hk:x.kids with _|⟨k0,_|⟨k1,_|⟨k2,_|⟨k3,r⟩⟩⟩⟩
  · rw[hk]at hml;simp at hml
  · rw[hk]at hml;simp at hml
  · rw[hk]at hml;simp at hml
  · exact⟨k0,k1,k2,rfl⟩
  · rw[hk]at hml;simp at hml
 have F1:Hid (zbR zs=if(zao (zaL k0 (ofZ k2).1)).2=0/\ (zao (zaL k0 (ofZ k2).1)).1=zs then .ok (k0,(zao k0).1,(ofZ k2).1)else .error 2):=by rw[F0.out];exact zwd (zkb hks)
 have hm0:k0∈x.kids:=by rw[hks];simp
 have hm2:k2∈x.kids:=by rw[hks];simp
 have W0:=zwd (hwr k0 hm0)
 have hw0:wt k0<30000:=by have:=zcx hm0;omega
 have hb2:k2.body.length<=30000:=by have h1:=zcx hm2;have h2:=zdc k2;have h3:=zbq k2.kids;omega
 have hsum:wt k0+(ofZ k2).1.length<39000:=by
  have h1:=zue k2
  have h2:=zdc k2
  have h3:=zbq k2.kids
  have h4:wt k0+wt k2<30000:=by
   have h5:=zdc x
   rw[hks]at h5
   simp only[za2]at h5
   have h6:=zkQ k1
   omega
  omega
 have KK:=zwd P3.out.has.kidsP
 rw[hks]at KK
 obtain⟨y,b,off,z,A2,n2,c2,K2,m2,d2,he,rfl,q0,q1,q2,hin2⟩:=KK.out.kid 2 (by omega)
 obtain rfl:k2=y:=by simpa using he
 have CO:=zwd (zuC k2 _ _ (T.InP.in _ hin2) (T.InP.in _ hin2).capped (by omega))
 clear he hin2 hm0 hm2 hwr hwt F0 hml
 go_wp2_with fail
 refine CO.out.mono ?_
 rintro e w4 ⟨a4,c4,rfl,hr4,hn4,hc4,hb4⟩
 have P4:=zwd (P3.out.go hb4)
 have R4:=zwd (R3.out.below hb4)
 have S4:=zwd hr4
 have N4:=zwd hn4
 clear CO P3 R3 KK hb4 hr4 hn4 q0 q1 q2 x0 x1 x2 p0 p1 p2 f0 f1 f2
 generalize w2.heap.size=g6 at*
 generalize(ofZ k2).1=sig at*
 generalize(ofZ k2).2.1=o1
 generalize(ofZ k2).2.2=o2
 obtain⟨x0,x1,x2,_,_,_⟩:=P4.out.box.facts
 have KK:=zwd P4.out.has.kidsP
 rw[hks]at KK
 obtain⟨y,b',off',z0,A0,n0,c0,K0,m0,d0,he,heq,q0,q1,q2,hin0⟩:=KK.out.kid 0 (by omega)
 obtain rfl:k0=y:=by simpa using he
 obtain⟨rfl,rfl⟩:b=b'/\ off=off':=by simpa using heq
 obtain rfl:=zh0 hin0
 rw[Nat.zero_mul,Nat.add_zero]at q0 q1 q2
 have CS:=zwd (zif k0 _ a4 sig.length c4 sig w4 (T.InP.in _ hin0) hsum S4.out N4.out)
 clear he heq hin0
 go_wp2_with fail
 refine CS.out.mono ?_
 rintro e w5 ⟨a5,c5,rfl,hr5,hn5,hb5⟩
 have P5:=zwd (P4.out.go hb5)
 have R5:=zwd (R4.out.below hb5)
 have S5:=zwd (S4.out.below hb5)
 have C5:=zwd hr5
 clear CS P4 R4 S4 KK hb5 hr5 hn5 q0 q1 q2 x0 x1 x2
 generalize(zao (zaL k0 sig)).1=cz at*
 generalize(zao (zaL k0 sig)).2=er at*
 obtain⟨x0,x1,x2,_,_,_⟩:=P5.out.box.facts
 obtain⟨p0,p1,p2,f0,f1,f2⟩:=P5.out.res.facts
 by_cases he0:er=0
 rotate_left
 · have F:Hid (zbR zs= .error 2):=by rw[F1.out];exact zwd (if_neg (fun h=>he0 h.1))
   have t1:(er !=0)=true:=by simpa using he0
   clear he0 F1
   go_wp2_with fail
   exact zn5 P5.out F.out (by decide) rfl rfl rfl rfl rfl
 subst he0
 have kx:=zbx c5 C5.out
 have ky:=zbx ca R5.out
 have ts:=zkF C5.out.2.1 R5.out.2.1
 by_cases hz:cz=zs
 rotate_left
 · have F:Hid (zbR zs= .error 2):=by rw[F1.out];exact zwd (if_neg (fun h=>hz h.2))
   have t2:(cz==zs)=false:=by simpa using hz
   rw[t2]at ts
   clear hz F1 t2
   go_wp2_with fail
   exact zn5 P5.out F.out (by decide) rfl rfl rfl rfl rfl
 have F:Hid (zbR zs= .ok (k0,(zao k0).1,sig)):=by rw[F1.out];exact zwd (if_pos ⟨rfl,hz⟩)
 have t2:(cz==zs)=true:=by simpa using hz
 rw[t2]at ts
 clear hz F1 t2
 have KK:=zwd P5.out.has.kidsP
 rw[hks]at KK
 obtain⟨y,b',off',z0,A0,n0,c0,K0,m0,d0,he,heq,q0,q1,q2,hin0⟩:=KK.out.kid 0 (by omega)
 obtain rfl:k0=y:=by simpa using he
 obtain⟨rfl,rfl⟩:b=b'/\ off=off':=by simpa using heq
 obtain rfl:=zh0 hin0
 rw[Nat.zero_mul,Nat.add_zero]at q0 q1 q2
 have CW:=zwd (zqz k0 _ w5 (T.InP.in _ hin0) hw0)
 clear he heq hin0 p0 p1 p2 f0 f1 f2
 go_wp2_with fail
 refine CW.out.mono ?_
 rintro e w6 ⟨a6,c6,rfl,hr6,hn6,hb6⟩
 have P6:=zwd (P5.out.go hb6)
 have S6:=zwd (S5.out.below hb6)
 have W6:=zwd hr6
 have N6:=zwd hn6
 clear CW P5 R5 S5 C5 KK hb6 hr6 hn6 q0 q1 q2 x0 x1 x2 kx ky ts
 obtain⟨x0,x1,x2,_,_,_⟩:=P6.out.box.facts
 obtain⟨p0,p1,p2,f0,f1,f2⟩:=P6.out.res.facts
 have KK:=P6.out.has.kidsP
 rw[hks]at KK
 obtain⟨y,b',off',z0,A0,n0,c0,K0,m0,d0,he,heq,q0,q1,q2,hin0⟩:=KK.kid 0 (by omega)
 obtain rfl:k0=y:=by simpa using he
 obtain⟨rfl,rfl⟩:b=b'/\ off=off':=by simpa using heq
 obtain rfl:=zh0 hin0
 rw[Nat.zero_mul,Nat.add_zero]at q0 q1 q2
 have I6:=zwd hin0
 clear he heq hin0 KK
 go_wp2_with fail
 have G:=zcl w.heap.size w6 (.int .i64 k0.tag) (.slice A0 n0 c0) (.slice K0 m0 d0)
 have C:=((P6.out.res.set 0 (.int .i64 k0.tag)).set 1 (.slice A0 n0 c0)).set 2 (.slice K0 m0 d0)
 exact bodyPost_ret (zcN rfl _ _ w.heap.size 30 _ (0,0) _ rfl C Tryz.underlying30 rfl Tryz.sizeNode) rfl ⟨P6.out.below.trans (zc6 (B:=w.heap.size) (g:=w.heap.size) w6 (Nat.le_refl _) _ _ _),.inr ⟨k0,_,sig,A0,n0,c0,K0,m0,d0,a6,c6,a4,c4,F.out,rfl,T.InP.in _ (I6.out.grownP (fun b hb=>Nat.ne_of_gt hb) G),zbU W6.out (zdf W6.out P6.out.res zeP) G,N6.out,zbU S6.out (zdf S6.out P6.out.res zeP) G,N4.out⟩⟩
theorem zr5 (t:T) (v:Value) (w:World) (hin:t.In w v) (hwt:wt t<30000):Calls Tryz.prog 33 #[v] w (zgV (ofC t) w):=by
 obtain⟨A,nb,cb,K,m,d,rfl⟩:=(T.In.inP t hin).form
 have X1:=(Box.start hin).blk.alloc (.cells #[.string ⟨#[]⟩,.int .u32 0,.int .i64 0,.int .i64 0,.slice none 0 0] 25)
 have S1:=Blk.new (w.alloc (.cells #[.int .i64 t.tag,.slice A nb cb,.slice K m d] 30)) 25 #[.string ⟨#[]⟩,.int .u32 0,.int .i64 0,.int .i64 0,.slice none 0 0]
 rw[show(w.alloc (.cells #[.int .i64 t.tag,.slice A nb cb,.slice K m d] 30)).heap.size=w.heap.size+1 by simp]at S1
 have b1:=(zac w (.cells #[.int .i64 t.tag,.slice A nb cb,.slice K m d] 30)).alloc (by simp) (.cells #[.string ⟨#[]⟩,.int .u32 0,.int .i64 0,.int .i64 0,.slice none 0 0] 25)
 have O1:Hid (OfAt w _ t A nb cb K m d):=zwd ⟨X1,S1,b1,T.InP.keep (fun b hb _=>⟨hb,b1.block b hb⟩) b1.size _ (T.In.inP t hin)⟩
 clear X1 S1 b1 hin
 go_enter Tryz.func33,Tryz.ntmps33
 go_upto_region 1 with fail
 generalize(w.alloc (.cells #[.int .i64 t.tag,.slice A nb cb,.slice K m d] 30)).alloc (.cells #[.string ⟨#[]⟩,.int .u32 0,.int .i64 0,.int .i64 0,.slice none 0 0] 25)=w1 at*
 have hml:t.kids.length=m:=O1.out.has.kidsP.1
 obtain⟨x0,x1,x2,_,_,_⟩:=O1.out.bx.facts
 by_cases hm:m=4
 rotate_left
 · have F:Hid (ofC t=(za8,false)):=zvM (by omega)
   have t1:((m:Int) !=4)=true:=by simp;omega
   obtain⟨p0,p1,p2,p3,p4,f0,f1,f2,f3,f4⟩:=O1.out.rs.five
   clear hm hml hwt
   go_wp2_with fail
   exact zaV (R:=zgV (ofC t) w) (W:=w1) (g:=w.heap.size+1) rfl rfl rfl O1.out.rs (Nat.le_succ _) O1.out.bel (fun W' h1 h2=>by rw[F.out];exact⟨none,0,rfl,h1,(fun _ _ e=>by cases e),h2⟩)
 subst hm
 obtain⟨k0,k1,k2,k3,hks⟩:=zls hml
 have KK:=zwd O1.out.has.kidsP
 rw[hks]at KK
 obtain⟨y,b,off,z2,A2,n2,c2,K2,m2,d2,he,rfl,q0,q1,q2,hin2⟩:=KK.out.kid 2 (by omega)
 obtain rfl:k2=y:=by simpa using he
 have hml2:k2.kids.length=m2:=hin2.kidsP.1
 by_cases hm2:m2=2
 rotate_left
 · have F:Hid (ofC t=(za8,false)):=ztG hks (by omega)
   have t2:((m2:Int) !=2)=true:=by simp;omega
   obtain⟨p0,p1,p2,p3,p4,f0,f1,f2,f3,f4⟩:=O1.out.rs.five
   clear hm2 hml2 hml hwt hks he KK hin2 q0 q1
   go_wp2_with fail
   exact zaV (R:=zgV (ofC t) w) (W:=w1) (g:=w.heap.size+1) rfl rfl rfl O1.out.rs (Nat.le_succ _) O1.out.bel (fun W' h1 h2=>by rw[F.out];exact⟨none,0,rfl,h1,(fun _ _ e=>by cases e),h2⟩)
 subst hm2
 obtain⟨ke,kf,hk2⟩:=znQ hml2
 have w0:wt k0<wt t:=zcx (by rw[hks];simp)
 have w1':wt k1<wt t:=zcx (by rw[hks];simp)
 have wb:∀k:T,k.body.length<=wt k:=fun k=>by have:=zdc k;have:=zbq k.kids;omega
 have b0:k0.body.length<=1000000:=by have:=wb k0;omega
 have b1:k1.body.length<=1000000:=by have:=wb k1;omega
 have HK:=zwd hks
 have H2:=zwd hk2
 clear he KK hin2 q0 q1 hml2 wb w0 w1'
 obtain⟨A0,n0,c0,K0,m0,d0,r0,r1,r2,hin0,_⟩:=zdE O1.out.has (i:=0) (k:=k0) (by omega) (by rw[HK.out];rfl)
 rw[Nat.zero_mul,Nat.add_zero]at r0 r1 r2
 go_wp2_with fail
 refine(zom k0 _ w1 (T.InP.in _ hin0) b0).mono ?_
 rintro e w2 ⟨rfl,hb2⟩
 have O2:=zwd (O1.out.go hb2)
 clear O1 hb2 hin0 r0 r1 r2 x0 x1 x2 q2
 obtain⟨x0,x1,x2,_,_,_⟩:=O2.out.bx.facts
 obtain⟨A1,n1,c1,K1',m1,d1,r0,r1,r2,hin1,_⟩:=zdE O2.out.has (i:=1) (k:=k1) (by omega) (by rw[HK.out];rfl)
 go_wp2_with fail
 refine(zkI k1 _ w2 (T.InP.in _ hin1) b1).mono ?_
 rintro e w3 ⟨rfl,hb3⟩
 have O3:=zwd (O2.out.go hb3)
 clear O2 hb3 hin1 r0 r1 r2 x0 x1 x2
 obtain⟨x0,x1,x2,_,_,_⟩:=O3.out.bx.facts
 obtain⟨A2,n2,c2,K2,m2,d2,r0,r1,r2,hin2,hm2,hK2⟩:=zdE O3.out.has (i:=2) (k:=k2) (by omega) (by rw[HK.out];rfl)
 rw[H2.out]at hm2
 obtain rfl:m2=2:=by rw[<-hm2];rfl
 obtain⟨be,oe,rfl⟩:=hK2 (by omega)
 obtain⟨Ae,ne,ce,Ke,me,de,s0,s1,s2,hine,_⟩:=zdE hin2 (i:=0) (k:=ke) (by omega) (by rw[H2.out];rfl)
 rw[Nat.zero_mul,Nat.add_zero]at s0 s1 s2
 go_wp2_with fail
 refine(zkP ke _ w3 (T.InP.in _ hine)).mono ?_
 rintro e w4 ⟨xe,hxe,rfl,hb4⟩
 obtain rfl:=zjx hxe
 have O4:=zwd (O3.out.go hb4)
 clear O3 hb4 hin2 hine hxe hm2 r0 r1 r2 s0 s1 s2 x0 x1 x2
 obtain⟨x0,x1,x2,_,_,_⟩:=O4.out.bx.facts
 obtain⟨A3,n3,c3,K3,m3,d3,r0,r1,r2,hin3,hm3,hK3⟩:=zdE O4.out.has (i:=2) (k:=k2) (by omega) (by rw[HK.out];rfl)
 rw[H2.out]at hm3
 obtain rfl:m3=2:=by rw[<-hm3];rfl
 obtain⟨bf,of,rfl⟩:=hK3 (by omega)
 obtain⟨Af,nf,cf,Kf,mf,df,s0,s1,s2,hinf,_⟩:=zdE hin3 (i:=1) (k:=kf) (by omega) (by rw[H2.out];rfl)
 go_wp2_with fail
 refine(zkP kf _ w4 (T.InP.in _ hinf)).mono ?_
 rintro e w5 ⟨xf,hxf,rfl,hb5⟩
 obtain rfl:=zjx hxf
 have O5:=zwd (O4.out.go hb5)
 clear O4 hb5 hin3 hinf hxf hm3 r0 r1 r2 s0 s1 s2 x0 x1 x2
 obtain⟨f0,hf0⟩:∃f:Bool,f=decide ((za1 k0).2=0/\ (zaC k1).2=0/\ (whenZ ke).2=0/\ (whenZ kf).2=0):=⟨_,rfl⟩
 obtain⟨nn,wN⟩:∃nn,IntKind.u32.wrap (zaC k1).1=nn:=⟨_,rfl⟩
 have nr:0<=nn/\ nn<=4294967295:=by rw[<-wN,IntKind.wrap_u32];omega
 have OB:Hid (ofC t=(⟨(za1 k0).1,nn,(whenZ ke).1,(whenZ kf).1,k3.kids.map fun q=>(zaC q).1%4294967296⟩,f0&&k3.kids.all fun q=>decide ((zaC q).2=0))):=zwd (by
  rw[zvN HK.out H2.out,hf0,<-wN,IntKind.wrap_u32]
  congr 1
  rw[Bool.eq_iff_iff]
  simp[List.all_eq_true,and_assoc])
 have O6:=zwd (O5.out.go (zac w5 (.cells #[.string (za1 k0).1,.int .u32 nn,.int .i64 (whenZ ke).1,.int .i64 (whenZ kf).1,.slice none 0 0] 25)))
 have X6:=zwd (Blk.new w5 25 #[.string (za1 k0).1,.int .u32 nn,.int .i64 (whenZ ke).1,.int .i64 (whenZ kf).1,.slice none 0 0])
 have lG:w.heap.size+1<w5.heap.size:=O5.out.rs.lt
 have zG:(w5.alloc (.cells #[.string (za1 k0).1,.int .u32 nn,.int .i64 (whenZ ke).1,.int .i64 (whenZ kf).1,.slice none 0 0] 25)).heap.size=w5.heap.size+1:=by simp
 clear O5
 obtain⟨x0,x1,x2,_,_,_⟩:=O6.out.bx.facts
 obtain⟨A3,n3,c3,K3,m3,d3,r0,r1,r2,hin3,hm3,hK3⟩:=zdE O6.out.has (i:=3) (k:=k3) (by omega) (by rw[HK.out];rfl)
 have wk3:wt k3<wt t:=zcx (by rw[HK.out];simp)
 have KI:=zwd hin3
 have WK:=zwd (show∀q∈k3.kids,q.body.length<=1000000 from fun q hq=>by have h1:=zcx hq;have h2:=zdc q;have h3:=zbq q.kids;omega)
 have m3r:m3<=30000:=by
  rw[<-hm3]
  have h1:=zdc k3
  have h2:k3.kids.length<=za2 k3.kids:=by
   generalize k3.kids=l
   induction l with
   |nil=>simp[za2]
   |cons x r ih=>rw[za2,List.length_cons];have:=zkQ x;omega
  omega
 have hcase:(((za1 k0).2==0)=true/\ ((zaC k1).2==0)=true/\ ((whenZ ke).2==0)=true/\ ((whenZ kf).2==0)=true/\ f0=true) \/(((za1 k0).2==0)=true/\ ((zaC k1).2==0)=true/\ ((whenZ ke).2==0)=true/\ ((whenZ kf).2==0)=false/\ f0=false) \/(((za1 k0).2==0)=true/\ ((zaC k1).2==0)=true/\ ((whenZ ke).2==0)=false/\ f0=false) \/(((za1 k0).2==0)=true/\ ((zaC k1).2==0)=false/\ f0=false) \/(((za1 k0).2==0)=false/\ f0=false):=by
  rw[hf0]
  by_cases h0:(za1 k0).2=0
  · by_cases h1:(zaC k1).2=0
    · by_cases h2:(whenZ ke).2=0
      · by_cases h3:(whenZ kf).2=0
        · left;simp[h0,h1,h2,h3]
        · right;left;simp[h0,h1,h2,h3]
      · right;right;left;simp[h0,h1,h2]
    · right;right;right;left;simp[h0,h1]
  · right;right;right;right;simp[h0]
 clear hin3 hf0 hwt hml b0 b1 wk3 r0 r1
 rcases hcase with⟨t0,t1,t2,t3,hf⟩|⟨t0,t1,t2,t3,hf⟩|⟨t0,t1,t2,hf⟩|⟨t0,t1,hf⟩|⟨t0,hf⟩
 all_goals
  have HF:=zwd hf
  clear hf
  go_wp2_with fail
  generalize w5.alloc (.cells #[.string (za1 k0).1,.int .u32 nn,.int .i64 (whenZ ke).1,.int .i64 (whenZ kf).1,.slice none 0 0] 25)=w6 at*
  generalize w5.heap.size=G at*
  go_loopw [13,15] (fun f i wr=>∃(k:Nat) (aV:Option Addr) (cV:Nat),k<=m3/\ i= .int .i64 (k:Int)/\ f= .bool (f0&&(k3.kids.take k).all fun q=>decide ((zaC q).2=0))/\ G+1<=wr.heap.size/\ OfAt w wr t A nb cb (some ⟨b,off,none⟩) 4 d/\ k3.InP (· <w.heap.size) wr (.agg #[.int .i64 k3.tag,.slice A3 n3 c3,.slice K3 m3 d3])/\ Blk wr G 25 #[.string (za1 k0).1,.int .u32 nn,.int .i64 (whenZ ke).1,.int .i64 (whenZ kf).1,.slice aV k cV]/\ zfe (G+1) wr (.slice aV k cV) ((k3.kids.take k).map fun q=>(zaC q).1%4294967296)) (fun _ i _=>m3-(intOf i).toNat)
  case atStart=>exact⟨0,none,0,Nat.zero_le _,rfl,by rw[HF.out];rfl,Nat.le_of_eq zG.symm,O6.out,KI.out,X6.out,World.ownsRow_nil _ _ _ _⟩
  case round=>
   obtain⟨k,aV,cV,hk,rfl,rfl,hsz,ho,hki,hx,hown⟩:=hrel
   have O7:=zwd ho
   have K7:=zwd hki
   have X7:=zwd hx
   have V7:=zwd hown
   clear ho hki hx hown O6 KI X6 x0 x1 x2 r2 zG
   by_cases hlt:k<m3
   · have tI:decide ((k:Int)<(m3:Int))=true:=by simp;omega
     obtain⟨b3,o3,hK⟩:=hK3 (by omega)
     subst hK
     obtain⟨q,hq⟩:∃q,k3.kids[k]?=some q:=⟨_,List.getElem?_eq_getElem (by omega)⟩
     obtain⟨Aq,nq,cq,Kq,mq,dq,s0,s1,s2,hinq,_,_⟩:=zdE K7.out hlt hq
     have hbq:=WK.out q (List.mem_of_getElem? hq)
     have kI:(k:Int)<(m3:Int):=by omega
     have TK:Hid (k3.kids.take (k+1)=k3.kids.take k++[q]):=zwd (by rw[List.take_add_one,hq];rfl)
     have LK:Hid (((k3.kids.take k).map fun q=>(zaC q).1%4294967296).length=k):=zwd (by rw[List.length_map,List.length_take];omega)
     have FN:Hid ((f0&&(k3.kids.take (k+1)).all fun q=>decide ((zaC q).2=0))=((f0&&(k3.kids.take k).all fun q=>decide ((zaC q).2=0))&&decide ((zaC q).2=0))):=zwd (by rw[TK.out,List.all_append,Bool.and_assoc];simp)
     generalize(f0&&(k3.kids.take k).all fun q=>decide ((zaC q).2=0))=fb at*
     go_wp2_with fail
     refine(zkI q _ wr (T.InP.in _ hinq) hbq).mono ?_
     rintro e w7 ⟨rfl,hb7⟩
     obtain⟨un,wU⟩:∃un,IntKind.u32.wrap (zaC q).1=un:=⟨_,rfl⟩
     have eU:Hid ((zaC q).1%4294967296=un):=zwd (by rw[<-wU,IntKind.wrap_u32])
     have ur:0<=un/\ un<=4294967295:=by rw[<-wU,IntKind.wrap_u32];omega
     have hs7:G+1<=w7.heap.size:=Nat.le_trans hsz hb7.size
     have b9:=zac w7 (.cells #[.int .u32 un] 22)
     have E9:=hb7.trans (b9.mono hb7.size)
     have O9:=zwd (O7.out.go E9)
     have K9:=zwd (T.InP.below E9 (fun _ h=>h) _ K7.out)
     have x4:w7.cell? ⟨G,4,none⟩=some (.slice aV k cV):=(X7.out.below hb7 X7.out.lt).cell 4
     have X9:=zwd (X7.out.below E9 X7.out.lt)
     have V9:=zwd (V7.out.over (Over.below E9))
     have R9:=zbs w7 [un] (by simpa using ur)
     simp only[List.map_cons,List.map_nil,List.length_cons,List.length_nil]at R9
     replace R9:=zwd R9
     have s9:G+1<=(w7.alloc (.cells #[.int .u32 un] 22)).heap.size:=Nat.le_trans hs7 b9.size
     obtain⟨zb,tz,dz⟩:∃zb:Bool,((zaC q).2==0)=zb/\ decide ((zaC q).2=0)=zb:=⟨_,rfl,by by_cases h:(zaC q).2=0<;>simp[h]⟩
     have FZ:Hid ((f0&&(k3.kids.take (k+1)).all fun q=>decide ((zaC q).2=0))=(fb&&zb)):=zwd (by rw[FN.out,dz])
     have UZ:Hid (((k3.kids.take (k+1)).map fun q=>(zaC q).1%4294967296)=((k3.kids.take k).map fun q=>(zaC q).1%4294967296)++[un]):=zwd (by rw[TK.out,List.map_append,List.map_cons,List.map_nil,eU.out])
     clear hb7 E9 b9 hinq hbq O7 K7 X7 V7 FN TK s0 s1 s2 dz hq
     generalize((k3.kids.take k).map fun q=>(zaC q).1%4294967296)=L at*
     cases fb<;>cases zb
     all_goals
      go_wp2_with (at_builtin;go_must (refine zgv LK.out rfl _ _ rfl rfl V9.out s9 rfl R9.out (by omega) ?_;intro gq cq8 w8 hown8 hg8 hb8;have O10:=zwd (O9.out.on (by omega) hb8);have K10:=zwd (T.InP.keep (fun b _ (hp:b<w.heap.size)=>⟨hp,hb8.block b (by omega)⟩) hb8.size _ K9.out);have X10:=zwd ((hb8.block G (Nat.lt_succ_self _)).trans X9.out);have V10:=zwd hown8;have s10:=Nat.le_trans s9 hb8.size;obtain⟨p0,p1,p2,p3,p4,f10,f11,f12,f13,f14⟩:=Blk.five X10.out;clear hown8 hb8 O9 K9 X9 V9 R9))
      go_roundw
      case rel=>exact⟨k+1,some ⟨gq,0,none⟩,cq8,by omega,by go_num,by rw[FZ.out];rfl,by simp;omega,O10.out.on (B:=G) lG ((Below.refl G w8).setCell (p:=⟨G,4,none⟩) (Nat.le_refl _) _),T.InP.keep (fun b _ (hp:b<w.heap.size)=>⟨hp,heap_setCell_other w8 ⟨G,4,none⟩ b _ (by show b≠G;omega)⟩) (by simp) _ K10.out,Blk.set (show Blk w8 G 25 _ from X10.out) 4 _,by rw[UZ.out];exact V10.out.over (Over.cell (g:=G) (j:=4) w8 _ (Nat.lt_succ_self _))⟩
      case measure=>simp[intOf];omega
   · have tI:decide ((k:Int)<(m3:Int))=false:=by simp;omega
     have TA:k3.kids.take k=k3.kids:=by rw[show k=k3.kids.length by omega,List.take_length]
     have W7:=V7.out
     rw[TA]at W7
     have hkl:k=(k3.kids.map fun q=>(zaC q).1%4294967296).length:=by rw[List.length_map];omega
     obtain⟨hrow,hnil,hfar⟩:=W7.row (by
      intro x hx
      obtain⟨q,_,rfl⟩:=List.mem_map.1 hx
      omega) hkl.symm
     have hat:Hid (zbj wr ⟨(za1 k0).1,nn,(whenZ ke).1,(whenZ kf).1,k3.kids.map fun q=>(zaC q).1%4294967296⟩ aV cV):=zwd ⟨by rw[<-hkl];exact hrow,nr,hnil⟩
     have hne:Hid (∀b off,aV=some ⟨b,off,none⟩->w.heap.size+1<b):=fun b off e=>by have:=hfar b off e;omega
     have HKL:=zwd hkl
     rw[TA]
     generalize(f0&&k3.kids.all fun q=>decide ((zaC q).2=0))=fb at*
     obtain⟨y0,y1,y2,y3,y4,_,_,_,_,_⟩:=X7.out.five
     obtain⟨p0,p1,p2,p3,p4,f10,f11,f12,f13,f14⟩:=O7.out.rs.five
     clear W7 hrow hnil hfar hkl TA V7 K7
     generalize(k3.kids.map fun q=>(zaC q).1%4294967296)=L at*
     go_wp2_with fail
     rw[HKL.out]
     exact zdF (R:=zgV (ofC t) w) (W:=wr) (g:=w.heap.size+1) (x:=⟨(za1 k0).1,nn,(whenZ ke).1,(whenZ kf).1,L⟩) (a:=aV) (ca:=cV) rfl rfl rfl O7.out.rs (Nat.le_succ _) O7.out.bel hat.out (fun b off e=>by have:=hne.out b off e;omega) (fun W' h1 h2=>by rw[OB.out];exact⟨aV,cV,rfl,h1,(fun b off e=>by have:=hne.out b off e;omega),h2⟩)
theorem zvm (t:T):(t.kids.length:Int)<=wt t:=by
 have h1:=zdc t
 have h2:t.kids.length<=za2 t.kids:=by
  generalize t.kids=l
  induction l with
  |nil=>simp[za2]
  |cons x r ih=>rw[za2,List.length_cons];have:=zkQ x;omega
 omega
theorem ztX {t:T} (h:wt t<30000):(ofC t).1.iss.size<=1000000/\ (ofC t).1.ser.length<=1000000:=by
 unfold ofC
 split
 · rename_i a b c d hk
   split
   · have h1:=zi9 a
     have h2:=zcx (t:=t) (x:=d) (by rw[hk];simp)
     have h3:=zvm d
     refine⟨?_,?_⟩
     · show(za1 a).1.size<=1000000
       omega
     · show(d.kids.map _).length<=1000000
       rw[List.length_map]
       omega
   · exact⟨by decide,by decide⟩
 · exact⟨by decide,by decide⟩
theorem zn6 (zs:List Int):(readC zs).1.ser.length<=1000000:=by
 by_cases h:(readC zs).2=0
 · obtain⟨said,sig,_,h1,_⟩:=zjY (b:=zs) (c:=(readC zs).1) (Prod.ext rfl h)
   have:=h1.2.2.1
   omega
 · rw[ztE h]
   exact Nat.zero_le _
def zdH (x:CrlZ×Int) (w:World) (e:Ending) (w':World):Prop:=∃a ca,e= .returned (.tuple #[.agg (crlC x.1 a x.1.ser.length ca),.int .i64 x.2])/\ zbj w' x.1 a ca/\ (∀b off,a=some ⟨b,off,none⟩->w.heap.size<b)/\ Below w.heap.size w w'
theorem ztY {n:T} (h:¬((ofC n).2=true/\ zaO (ofC n).1/\ zaW (crlT (ofC n).1) n=true)):foundC n=(za8,2):=if_neg h
theorem zr6 {n:T} (h:(ofC n).2=true/\ zaO (ofC n).1/\ zaW (crlT (ofC n).1) n=true):foundC n=((ofC n).1,0):=if_pos h
theorem zvn {b said sig:List Int} {n:T} (hb:∀z∈b,0<=z/\ z<=255) (h:zbR b= .ok (n,said,sig)):wt n<30000:=by
 obtain⟨h1,_⟩:=zfB hb h
 have f:=zb7 (t:=zaL n sig) (by rw[h1])
 have w1:=zqC _ f.1
 have w2:=zcx (t:=zaL n sig) (x:=n) (by simp[zaL,T.kids])
 omega
theorem zih (b:Option Addr) (n cb:Nat) (zs:List Int) (w:World) (hr:Row w b n zs) (hnc:n<=cb) (hn:n<=30000):Calls Tryz.prog 13 #[.slice b n cb] w (zdH (readC zs) w):=by
 have b1:=zac w (.cells #[.string ⟨#[]⟩,.int .u32 0,.int .i64 0,.int .i64 0,.slice none 0 0] 25)
 have S0:=zwd (Blk.new w 25 #[.string ⟨#[]⟩,.int .u32 0,.int .i64 0,.int .i64 0,.slice none 0 0])
 have CO:=zwd (zlG b n cb zs _ (hr.below b1) hnc hn)
 have HB:=zwd hr.2.1
 have B0:=zwd b1
 clear b1 hr
 go_enter Tryz.func13,Tryz.ntmps13
 go_upto_region 1 with fail
 generalize w.alloc (.cells #[.string ⟨#[]⟩,.int .u32 0,.int .i64 0,.int .i64 0,.slice none 0 0] 25)=w1 at*
 have s1:Hid (w.heap.size<w1.heap.size):=S0.out.lt
 go_wp2_with fail
 refine CO.out.mono ?_
 rintro e w2 ⟨hb2,hways⟩
 have S2:=zwd (S0.out.below hb2 S0.out.lt)
 have B2:=zwd (B0.out.trans (hb2.mono B0.out.size))
 have s2:Hid (w.heap.size<w2.heap.size):=S2.out.lt
 clear S0 B0 CO hb2 s1
 rcases hways with⟨z,hz,hz0,rfl⟩|⟨t,said,sig,A,nb,c,K,m,d,a1,c1,a2,c2,hz,rfl,hin,hr1,hn1,hr2,hn2⟩
 · have F:Hid (readC zs=(za8,z)):=zwd (by unfold readC;rw[hz])
   have t0:(z !=0)=true:=by simpa using hz0
   have A3:=zac w2 (.cells #[.int .i64 0,.slice none 0 0,.slice none 0 0] 30)
   have S3:=zwd (S2.out.below A3 S2.out.lt)
   have B3:=zwd (B2.out.trans (A3.mono B2.out.size))
   clear hz hz0 A3 S2 B2
   go_upto_region 2 with fail
   generalize w2.alloc (.cells #[.int .i64 0,.slice none 0 0,.slice none 0 0] 30)=w3 at*
   obtain⟨p0,p1,p2,p3,p4,f0,f1,f2,f3,f4⟩:=S3.out.five
   go_wp2_with fail
   exact zaV (R:=zdH (readC zs) w) (W:=w3) (g:=w.heap.size) rfl rfl rfl S3.out (Nat.le_refl _) B3.out (fun W' h1 h2=>by rw[F.out];exact⟨none,0,rfl,h1,(fun _ _ e=>by cases e),h2⟩)
 have ht:=zvn HB.out hz
 have FA:Hid (readC zs=foundC t):=zwd (by unfold readC;rw[hz])
 have A3:=zac w2 (.cells #[.int .i64 t.tag,.slice A nb c,.slice K m d] 30)
 have X3:=zwd (Blk.new w2 30 #[.int .i64 t.tag,.slice A nb c,.slice K m d])
 have S3:=zwd (S2.out.below A3 S2.out.lt)
 have B3:=zwd (B2.out.trans (A3.mono B2.out.size))
 have I3:=zwd (T.In.below A3 _ hin)
 clear hz A3 S2 B2 hr1 hr2 hin hn1 hn2 HB s2
 go_upto_region 2 with fail
 generalize w2.alloc (.cells #[.int .i64 t.tag,.slice A nb c,.slice K m d] 30)=w3 at*
 generalize w2.heap.size=g3 at*
 obtain⟨x0,x1,x2,_,_,_⟩:=X3.out.facts
 obtain⟨os1,os2⟩:=ztX ht
 have s3:Hid (w.heap.size<w3.heap.size):=S3.out.lt
 go_wp2_with fail
 refine(zr5 t _ w3 I3.out ht).mono ?_
 rintro e w4 ⟨a,ca,rfl,hat,hfar,hb4⟩
 have FY:Hid ((ofC t).2=true/\ zaO (ofC t).1/\ zaW (crlT (ofC t).1) t=true->foundC t=((ofC t).1,0)):=fun h=>zr6 h
 have FN:Hid (¬((ofC t).2=true/\ zaO (ofC t).1/\ zaW (crlT (ofC t).1) t=true)->foundC t=(za8,2)):=fun h=>ztY h
 generalize ofC t=Y at*
 obtain⟨X,fine⟩:=Y
 dsimp only at hat FY FN os1 os2⊢
 have A5:=zac w4 (.cells #[.string X.iss,.int .u32 X.num,.int .i64 X.fr,.int .i64 X.to,.slice a X.ser.length ca] 25)
 have E5:=hb4.trans (A5.mono hb4.size)
 have Y5:=zwd (Blk.new w4 25 #[.string X.iss,.int .u32 X.num,.int .i64 X.fr,.int .i64 X.to,.slice a X.ser.length ca])
 have X5:=zwd (X3.out.below E5 X3.out.lt)
 have S5:=zwd (S3.out.below E5 S3.out.lt)
 have B5:=zwd (B3.out.trans (E5.mono B3.out.size))
 have I5:=zwd (T.In.below E5 _ I3.out)
 have L5:=zwd (hat.below A5)
 have F5:Hid (∀b off,a=some ⟨b,off,none⟩->w.heap.size<b):=zwd (fun b off e=>by have:=hfar b off e;have:=s3.out;omega)
 clear hat hfar hb4 A5 E5 S3 B3 I3 X3 x0 x1 x2 s3
 unfold crlC
 go_upto_region 5 with fail
 generalize w4.alloc (.cells #[.string X.iss,.int .u32 X.num,.int .i64 X.fr,.int .i64 X.to,.slice a X.ser.length ca] 25)=w5 at*
 generalize w4.heap.size=g5 at*
 obtain⟨y0,y1,y2,y3,y4,_,_,_,_,_⟩:=Y5.out.five
 have CN:=zd2 X a ca w5 L5.out os1 os2
 unfold crlC at CN
 have CI:=zwd CN
 clear CN os1 os2
 go_wp2_with fail
 refine CI.out.mono ?_
 rintro e w6 ⟨A6,n6,c6,K6,m6,d6,rfl,hin6,hb6⟩
 have A7:=zac w6 (.cells #[.int .i64 (nodeC X).1.tag,.slice A6 n6 c6,.slice K6 m6 d6] 30)
 have E7:=hb6.trans (A7.mono hb6.size)
 have Z7:=zwd (Blk.new w6 30 #[.int .i64 (nodeC X).1.tag,.slice A6 n6 c6,.slice K6 m6 d6])
 have Y7:=zwd (Y5.out.below E7 Y5.out.lt)
 have X7:=zwd (X5.out.below E7 X5.out.lt)
 have S7:=zwd (S5.out.below E7 S5.out.lt)
 have B7:=zwd (B5.out.trans (E7.mono B5.out.size))
 have I7:=zwd (T.In.below E7 _ I5.out)
 have J7:=zwd (T.In.below A7 _ (T.InP.in _ hin6))
 have L7:=zwd (L5.out.below E7)
 clear CI hin6 hb6 A7 E7 Y5 X5 S5 B5 I5 L5 y0 y1 y2 y3 y4
 have NO:Hid (nodeC X=if zaO X then(crlT X,0)else(zbz,1)):=zwd rfl
 go_upto_region 6 with fail
 generalize w6.alloc (.cells #[.int .i64 (nodeC X).1.tag,.slice A6 n6 c6,.slice K6 m6 d6] 30)=w7 at*
 generalize w6.heap.size=g7 at*
 obtain⟨y0,y1,y2,y3,y4,_,_,_,_,_⟩:=Y7.out.five
 obtain⟨x0,x1,x2,_,_,_⟩:=X7.out.facts
 obtain⟨z0,z1,z2,_,_,_⟩:=Z7.out.facts
 obtain⟨p0,p1,p2,p3,p4,f0,f1,f2,f3,f4⟩:=S7.out.five
 generalize nodeC X=NX at*
 cases fine
 · have F:Hid (readC zs=(za8,2)):=zwd (by rw[FA.out];exact FN.out (fun h=>by cases h.1))
   clear FY FN FA NO
   go_wp2_with fail
   exact zaV (R:=zdH (readC zs) w) (W:=w7) (g:=w.heap.size) rfl rfl rfl S7.out (Nat.le_refl _) B7.out (fun W' h1 h2=>by rw[F.out];exact⟨none,0,rfl,h1,(fun _ _ e=>by cases e),h2⟩)
 by_cases hrt:zaO X
 rotate_left
 · have F:Hid (readC zs=(za8,2)):=zwd (by rw[FA.out];exact FN.out (fun h=>hrt h.2.1))
   have NE:=NO.out
   rw[if_neg hrt]at NE
   have t1:(NX.2 !=0)=true:=by rw[NE];rfl
   clear FY FN FA NO NE hrt
   go_wp2_with fail
   exact zaV (R:=zdH (readC zs) w) (W:=w7) (g:=w.heap.size) rfl rfl rfl S7.out (Nat.le_refl _) B7.out (fun W' h1 h2=>by rw[F.out];exact⟨none,0,rfl,h1,(fun _ _ e=>by cases e),h2⟩)
 have NE:=NO.out
 rw[if_pos hrt]at NE
 have t1:(NX.2 !=0)=false:=by rw[NE];rfl
 have CS:=zdR NX.1 t _ _ w7 J7.out I7.out
 have SM:Hid (NX.1=crlT X):=zwd (by rw[NE])
 have CT:=zwd CS
 clear CS NE NO
 go_wp2_with fail
 refine CT.out.mono ?_
 rintro e w8 ⟨rfl,hb8⟩
 have S8:=zwd (S7.out.below hb8 S7.out.lt)
 have B8:=zwd (B7.out.trans (hb8.mono B7.out.size))
 have Y8:=zwd (Y7.out.below hb8 Y7.out.lt)
 have L8:=zwd (L7.out.below hb8)
 clear CT S7 B7 Y7 X7 Z7 I7 J7 L7 hb8 p0 p1 p2 p3 p4 f0 f1 f2 f3 f4 y0 y1 y2 y3 y4 x0 x1 x2 z0 z1 z2
 obtain⟨y0,y1,y2,y3,y4,_,_,_,_,_⟩:=Y8.out.five
 obtain⟨p0,p1,p2,p3,p4,f0,f1,f2,f3,f4⟩:=S8.out.five
 rw[SM.out]
 cases hsm:zaW (crlT X) t
 · have F:Hid (readC zs=(za8,2)):=zwd (by rw[FA.out];exact FN.out (fun h=>by have:=h.2.2;rw[hsm]at this;cases this))
   clear FY FN FA hsm hrt SM
   go_wp2_with fail
   exact zaV (R:=zdH (readC zs) w) (W:=w8) (g:=w.heap.size) rfl rfl rfl S8.out (Nat.le_refl _) B8.out (fun W' h1 h2=>by rw[F.out];exact⟨none,0,rfl,h1,(fun _ _ e=>by cases e),h2⟩)
 · have F:Hid (readC zs=(X,0)):=zwd (by rw[FA.out];exact FY.out ⟨trivial,hrt,hsm⟩)
   clear FY FN FA hsm hrt SM
   go_wp2_with fail
   exact zdF (x:=X) (a:=a) (ca:=ca) (R:=zdH (readC zs) w) (W:=w8) (g:=w.heap.size) rfl rfl rfl S8.out (Nat.le_refl _) B8.out L8.out (fun b off e=>by have:=F5.out b off e;omega) (fun W' h1 h2=>by rw[F.out];exact⟨a,ca,rfl,h1,F5.out,h2⟩)
end Go.Proofs.YtpgahclpbdpbnaaGreatDoor
