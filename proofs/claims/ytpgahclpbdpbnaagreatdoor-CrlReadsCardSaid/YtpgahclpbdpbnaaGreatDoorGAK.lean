import Derived.Test.YtpgahclpbdpbnaaGreatDoorGAJ
import Derived.WalkMore
import Derived.Laws.CopyOwn
set_option maxHeartbeats 2000000
set_option maxRecDepth 100000
namespace Go.Proofs.YtpgahclpbdpbnaaGreatDoor
open Go.RowKit
set_option linter.unusedVariables false
theorem zfX {w:World} {n:Nat} {zs:List Int} (h:zat w none n zs):n=0/\ zs=[]:=by
 have h0:n=0:=by
  rcases Nat.eq_zero_or_pos n with h0|h0
  · exact h0
  · obtain⟨_,_,e,_⟩:=h.2.2 h0
    cases e
 have:=h.1
 exact⟨h0,List.eq_nil_of_length_eq_zero (by omega)⟩
theorem zjl (a:Option Addr) (n ca:Nat) (zs:List Int) (w:World) (hr:zat w a n zs) (hn:n<=1000000) (hnil:a=none->ca=0):
 Calls Tryz.prog 219 #[.slice a n ca] w fun e w'=>∃a' c,e= .returned (.slice a' n c)/\ zaz w w' (.slice a' n c) zs:=by
 have HR:=zwd hr
 have NI:=zwd hnil
 cases a with
 |none=>
   obtain⟨rfl,rfl⟩:=zfX hr
   obtain rfl:=hnil rfl
   clear hr hnil
   have q0:∀w:World,(binOp .eql 23 (.slice none 0 0) (.slice none 0 0)).run Tryz.prog w= .ok (.bool true) w:=fun w=>Lib.run_eql_slice_nil w 23 22 none 0 0 0 0 Tryz.underlying23
   go_enter Tryz.func219,Tryz.ntmps219
   go_wp2_with fail
   go_ret
   exact⟨none,0,rfl,zpE w⟩
 |some ad=>
   have hl:=hr.1
   clear hr hnil
   have O3:=zwd (zfW w)
   have R3:Hid (zat (w.alloc (.cells #[] 22)) (some ad) n zs):=zwd (HR.out.below ((Below.refl _ _).alloc (Nat.le_refl _) _))
   have HN:Hid (([]:List Int).length+n<=1000000):=zwd (by simp;omega)
   have q0:∀w:World,(binOp .eql 23 (.slice (some ad) n ca) (.slice none 0 0)).run Tryz.prog w= .ok (.bool false) w:=fun w=>Lib.run_eql_slice_nil w 23 22 (some ad) n ca 0 0 Tryz.underlying23
   go_enter Tryz.func219,Tryz.ntmps219
   go_wp2_with (at_builtin;go_must (refine zcJ (W0:=w) (L:=[]) (zs:=zs) rfl _ _ rfl rfl O3.out rfl R3.out NI.out HN.out ?_;intro V4 w4 ho4;rw[List.nil_append]at ho4;have O4:=zwd ho4;clear ho4))
   go_ret
   have o:=O4.out
   rcases o.1.2 with⟨rfl,h0⟩|⟨g,cap,cur,rfl,_⟩
   · exact⟨none,0,by rw[<-hl,h0];rfl,by rw[<-hl,h0];exact o⟩
   · exact⟨_,cap,by rw[hl];rfl,by rw[<-hl];exact o⟩
theorem zaz.normed {W0 wr:World} {a:Option Addr} {n c:Nat} {L:List Int} (h:zaz W0 wr (.slice a n c) L) (hL:zay L):zat wr a n L/\ n<=c/\ (a=none->c=0):=by
 obtain⟨a',c',e,hr⟩:=h.row hL
 injection e with e1 e2 e3
 subst e1 e2 e3
 exact⟨hr,zg1 h.1,h.nilc⟩
theorem zmY (a:Option Addr) (n ca:Nat) (zs:List Int) (w:World) (hr:zat w a n zs) (hn:n<=1000000) (hnil:a=none->ca=0):
 Calls Tryz.prog 195 #[.slice a n ca] w fun e w'=>∃a' c,e= .returned (.slice a' (limZ (valZ zs)).length (limZ (valZ zs)).length)/\ zaz w w' (.slice a' n c) zs:=by
 have CL:=zwd (zjl a n ca zs w hr hn hnil)
 have HL:=zwd (zap hr)
 clear hr hnil
 go_enter Tryz.func195,Tryz.ntmps195
 go_wp2_with fail
 refine CL.out.mono ?_
 rintro e w2 ⟨a',c,rfl,ho⟩
 have HO:=zwd ho
 have NN:=zwd (zbg a' n c zs w2 (ho.normed HL.out).1 (ho.normed HL.out).2.1 hn (ho.normed HL.out).2.2)
 clear ho
 go_wp2_with fail
 refine NN.out.mono ?_
 rintro e w3 ⟨rfl,hw3⟩
 have HW:=zwd hw3
 clear hw3
 go_wp2_with fail
 go_ret
 exact⟨a',c,rfl,by rw[HW.out];exact HO.out⟩
theorem zsu (a:Option Addr) (n ca:Nat) (zs:List Int) (w:World) (hr:zat w a n zs) (hn:n<=1000000) (hnil:a=none->ca=0):
 Calls Tryz.prog 195 #[.slice a n ca] w (zfn (valZ zs) w):=by
 refine(zmY a n ca zs w hr hn hnil).mono ?_
 rintro e w2 ⟨a',c,rfl,ho⟩
 have t:=ho.normed (zap hr)
 refine⟨a',_,rfl,t.1.norm,fun e=> ?_,Nat.le_refl _,ho.2⟩
 subst e
 have:=(zfX t.1).2
 subst this
 rw[show valZ []=0 from rfl,zd7]
 rfl
theorem zmZ {xs ys:List Int} (hx:zay xs) (hy:zay ys) (ny:zd4 ys) (h:xs.length<ys.length):valZ xs<valZ ys:=by
 have h1:=zdN hx
 have h2:=zdt (show xs.length<=ys.length-1 by omega)
 obtain⟨k,hk⟩:∃k,ys.length=k+1:=⟨ys.length-1,by omega⟩
 rw[hk,show k+1-1=k by omega]at h2
 have e:=za0 ys k
 rw[zaN ys k,show ys.drop (k+1)=[]from List.drop_of_length_le (by omega),valZ,Int.mul_zero,Int.add_zero]at e
 have t:=zcg hy k
 have hl:ys.getLast?=some (ys[k]?.getD 0):=by
  rw[List.getLast?_eq_getElem?,hk,show k+1-1=k by omega,List.getElem?_eq_getElem (by omega)]
  rfl
 have n0:=ny _ hl
 have r:=hy.at k
 have p:=zaM k
 have:=Int.mul_le_mul_of_nonneg_left (show(1:Int)<=ys[k]?.getD 0 by omega) (Int.le_of_lt p)
 rw[Int.mul_one]at this
 omega
theorem zuq {xs ys:List Int} (hx:zay xs) (hy:zay ys) (nx:zd4 xs) (ny:zd4 ys) (h:xs.length≠ys.length):cmpI (xs.length:Int) (ys.length:Int)=cmpI (valZ xs) (valZ ys):=by
 unfold cmpI
 rcases Nat.lt_or_gt_of_ne h with h|h
 · rw[if_pos (by omega),if_pos (zmZ hx hy ny h)]
 · have:=zmZ hy hx nx h
   rw[if_neg (by omega),if_pos (by omega),if_neg (by omega),if_pos this]
theorem zur (a b:Option Addr) (n m ca cb:Nat) (xs ys:List Int) (w:World) (hr:zat w a n xs) (hs:zat w b m ys) (hn:n<=100000) (hm:m<=100000) (hca:n<=ca) (hcb:m<=cb) (hna:a=none->ca=0) (hnb:b=none->cb=0):
 Calls Tryz.prog 104 #[.slice a n ca,.slice b m cb] w fun e w'=>e= .returned (.int .i64 (cmpI (valZ xs) (valZ ys)))/\ ∃q,w'=w.drewN q:=by
 have NA:=zwd (zbg a n ca xs w hr hca (by omega) hna)
 have NB:=zwd (zbg b m cb ys w hs hcb (by omega) hnb)
 have HA:=zwd hr.norm
 have HB:=zwd hs.norm
 have VA:=zca (zaA (zap hr))
 have VB:=zca (zaA (zap hs))
 have LA:=zwd (zbo (valZ xs))
 have LB:=zwd (zbo (valZ ys))
 have MA:=zwd (zdO (valZ xs))
 have MB:=zwd (zdO (valZ ys))
 have la:(limZ (valZ xs)).length<=n:=by have:=(zcn (zap hr)).1;have:=hr.1;omega
 have lb:(limZ (valZ ys)).length<=m:=by have:=(zcn (zap hs)).1;have:=hs.1;omega
 clear hr hs hna hnb
 rw[<-VA,<-VB]
 generalize limZ (valZ xs)=us at*
 generalize limZ (valZ ys)=vs at*
 clear VA VB
 obtain⟨p,hp⟩:∃p,us.length=p:=⟨_,rfl⟩
 obtain⟨r,hr⟩:∃r,vs.length=r:=⟨_,rfl⟩
 rw[hp]at la NA HA
 rw[hr]at lb NB HB
 have HP:=zwd hp
 have HRR:=zwd hr
 clear hp hr
 go_enter Tryz.func104,Tryz.ntmps104
 go_wp2_with fail
 refine NA.out.mono ?_
 rintro e w2 ⟨rfl,rfl⟩
 go_wp2_with fail
 refine NB.out.mono ?_
 rintro e w2 ⟨rfl,rfl⟩
 by_cases hne:p=r
 · subst hne
   have t0:((p:Int) !=(p:Int))=false:=by simp
   have w1:IntKind.i64.wrap ((p:Int)-1)=(p:Int)-1:=IntWalk.i64_in _ (by omega)
   have TOP:Hid (valZ (us.drop p)=valZ (vs.drop p)):=zwd (by rw[List.drop_of_length_le (by rw[HP.out];omega),List.drop_of_length_le (by rw[HRR.out];omega)])
   clear NA NB MA MB
   go_wp2_with fail
   go_loopw [5] (fun i wr=>∃k q:Nat,k<=p/\ i= .int .i64 ((k:Int)-1)/\ valZ (us.drop k)=valZ (vs.drop k)/\ wr=w2.drewN q) (fun i _=>(intOf i+1).toNat)
   case atStart=>exact⟨p,0,Nat.le_refl _,rfl,TOP.out,rfl⟩
   case round=>
    obtain⟨k,q,hk,rfl,hd,hw⟩:=hrel
    have HD:=zwd hd
    have HW:=zwd hw
    have RA:Hid (zat wr a p us):=zwd (by rw[hw];exact HA.out.drewN q)
    have RB:Hid (zat wr b p vs):=zwd (by rw[hw];exact HB.out.drewN q)
    clear hd hw TOP
    rcases Nat.eq_zero_or_pos k with h0|h0
    · subst h0
      have E:=zt0 HD.out
      rw[show((0:Nat):Int)-1= -1 by rfl]
      have t0:decide ((0:Int)<= -1)=false:=by decide
      go_wp2_with fail
      go_ret
      exact⟨by rw[E];rfl,q,HW.out⟩
    · obtain⟨j,rfl⟩:∃j,k=j+1:=⟨k-1,by omega⟩
      have CL:=zwd (zpC (k:=j) LA.out LB.out HD.out)
      have CG:=zwd (zpD (k:=j) LA.out LB.out HD.out)
      have CD:=zwd (zjj (k:=j) HD.out)
      rw[show((j+1:Nat):Int)-1=(j:Int)by omega]
      have t0:decide ((0:Int)<=(j:Int))=true:=decide_eq_true (by omega)
      have w3:IntKind.i64.wrap ((j:Int)-1)=(j:Int)-1:=IntWalk.i64_in _ (by omega)
      obtain⟨b1,o1,rfl,hb1,hc1⟩:=RA.out.2.2 (by omega)
      obtain⟨b2,o2,rfl,hb2,hc2⟩:=RB.out.2.2 (by omega)
      have c1:=hc1 j (by omega)
      have c2:=hc2 j (by omega)
      have jI:(j:Int)<(p:Int):=by omega
      generalize us[j]?.getD 0=x at*
      generalize vs[j]?.getD 0=y at*
      clear hc1 hc2 HD w1 t0
      have t0:decide ((0:Int)<=(j:Int))=true:=decide_eq_true (by omega)
      by_cases hxy:x=y
      · have E:=zwd (CD.out hxy)
        have t1:(x !=y)=false:=by simpa using hxy
        clear CL CG CD
        go_wp2_with fail
        go_quiet (fail)
        have N2:Hid (wr.drewN nq=w2.drewN (q+nq)):=by rw[HW.out];exact zwd (World.drewN_drewN _ _ _)
        generalize wr.drewN nq=w4 at*
        go_wp2_with fail
        go_roundw
        case rel=>exact⟨j,_,by omega,rfl,E.out,N2.out⟩
        case measure=>simp only[intOf];omega
      · have t1:(x !=y)=true:=by simpa using hxy
        have E:Hid (cmpI x y=cmpI (valZ us) (valZ vs)):=zwd (by
         rcases Int.lt_or_gt_of_ne hxy with h1|h1
         · rw[CL.out h1];exact if_pos h1
         · rw[CG.out h1];unfold cmpI;rw[if_neg (by omega),if_pos h1])
        clear CL CG CD
        go_wp2_with fail
        go_quiet (fail)
        have N2:Hid (wr.drewN nq=w2.drewN (q+nq)):=by rw[HW.out];exact zwd (World.drewN_drewN _ _ _)
        obtain⟨q2,hq2⟩:∃q2,q+nq=q2:=⟨_,rfl⟩
        rw[hq2]at N2
        clear hq2
        have e1:(wr.drewN nq).cell? ⟨b1,o1+j,none⟩=some (.int .u32 x):=c1
        have e2:(wr.drewN nq).cell? ⟨b2,o2+j,none⟩=some (.int .u32 y):=c2
        generalize wr.drewN nq=w4 at*
        clear c1 c2
        go_wp2_with fail
        go_quiet ((go_at_call 157;exact Calls.quiet_of_same (zlW _ _ _)))
        have N3:Hid (w4.drewN nq=w2.drewN (q2+nq)):=by rw[N2.out];exact zwd (World.drewN_drewN _ _ _)
        generalize w4.drewN nq=w5 at*
        go_wp2_with fail
        go_ret
        exact⟨by rw[E.out];rfl,_,N3.out⟩
 · have t0:((p:Int) !=(r:Int))=true:=by simp;omega
   have E:Hid (cmpI (p:Int) (r:Int)=cmpI (valZ us) (valZ vs)):=zwd (by
    rw[<-HP.out,<-HRR.out]
    exact zuq LA.out LB.out MA.out MB.out (by rw[HP.out,HRR.out];exact hne))
   clear NA NB
   go_wp2_with (go_at_call 156;go_must (refine(zlV _ _ _).mono ?_;rintro e w' ⟨rfl,rfl⟩))
   go_ret
   exact⟨by rw[E.out];rfl,0,rfl⟩
theorem zhd {L1 L:List Int} {i:Nat} {r:Int} (h:∀j,i<=j->L1[j]?.getD 0=L[j]?.getD 0):∀j,i+1<=j->(L1.set i r)[j]?.getD 0=L[j]?.getD 0:=by
 intro j hj
 rw[List.getElem?_set_ne (by omega)]
 exact h j (by omega)
theorem zsv {zs ys:List Int} {i k:Nat} {c x V:Int} (hk:i+k<zs.length) (h:valZ zs+4294967296^(i+k)*c=V+x*4294967296^i*valZ (ys.take k)):
 valZ (zs.set (i+k) ((x*ys[k]?.getD 0+zs[i+k]?.getD 0+c)%4294967296))+4294967296^(i+(k+1))*((x*ys[k]?.getD 0+zs[i+k]?.getD 0+c)/4294967296)=V+x*4294967296^i*valZ (ys.take (k+1)):=by
 rw[show x*ys[k]?.getD 0+zs[i+k]?.getD 0+c=c+zs[i+k]?.getD 0+x*ys[k]?.getD 0 by omega]
 exact zmV hk h
def zvV (W0 w:World) (g M i m:Nat) (L ys:List Int) (x:Int) (e:Ending) (w':World):Prop:=
 ∃(L':List Int) (c:Int),e= .returned (.int .u32 c)/\ 0<=c/\ c<=4294967295/\ zaz W0 w' (.slice (some ⟨g,0,none⟩) M M) L'/\ zay L'/\ L'.length=M/\ valZ L'+4294967296^(i+m)*c=valZ L+x*4294967296^i*valZ ys/\ (∀j,i+m<=j->L'[j]?.getD 0=L[j]?.getD 0)/\ Below W0.heap.size w w'
theorem zhe (W0 w:World) (g M i m cN cb:Nat) (b:Option Addr) (L ys:List Int) (x:Int) (ho:zaz W0 w (.slice (some ⟨g,0,none⟩) M M) L) (hln:L.length=M) (hg:W0.heap.size<=g) (hL:zay L) (hi:i+m<=M) (hM:M<=100000) (hr:zat W0 b m ys) (x0:0<=x) (x1:x<=4294967295):
 Calls Tryz.prog 222 #[.slice (some ⟨g,i,none⟩) m cN,.slice b m cb,.int .u32 x] w (zvV W0 w g M i m L ys x):=by
 have HO:=zwd ho
 have HLN:=zwd hln
 have HLL:=zwd hL
 have HR:=zwd hr
 have k1:IntKind.u64.wrap x=x:=IntWalk.u64_in _ (by omega)
 clear ho hln hL hr
 go_enter Tryz.func222,Tryz.ntmps222
 go_wp2_with fail
 go_loopw [7,12] (fun cV kV wr=>∃(k:Nat) (c:Int) (L1:List Int),cV= .int .u64 c/\ kV= .int .i64 (k:Int)/\ k<=m/\ 0<=c/\ c<=4294967295/\ zaz W0 wr (.slice (some ⟨g,0,none⟩) M M) L1/\ zay L1/\ L1.length=M/\ valZ L1+4294967296^(i+k)*c=valZ L+x*4294967296^i*valZ (ys.take k)/\ (∀j,i+k<=j->L1[j]?.getD 0=L[j]?.getD 0)/\ Below W0.heap.size w wr) (fun _ kV _=>(1000001-intOf kV).toNat)
 case atStart=>exact⟨0,0,L,rfl,rfl,by omega,by omega,by omega,HO.out,HLL.out,HLN.out,by simp[valZ],fun _ _=>rfl,Below.refl _ _⟩
 case round=>
  obtain⟨k,c,L1,rfl,rfl,hk,c0,c1,ho,hL,hlen,hval,hsame,hbw⟩:=hrel
  have HBW:=zwd hbw
  have HO1:=zwd ho
  have HL1:=zwd hL
  have HN1:=zwd hlen
  have HV1:=zwd hval
  have HQ1:=zwd hsame
  have RB:=zwd (HR.out.below ho.2)
  clear ho hL hlen hval hsame hbw HO
  by_cases hmore:k<m
  · have t1:decide ((k:Int)<(m:Int))=true:=decide_eq_true (by omega)
    have hkM:k<=1000000:=by omega
    have kI:(k:Int)<(m:Int):=by omega
    have kN:(0:Int)<=(k:Int):=by omega
    obtain⟨b1,o1,rfl,hb1,hc1⟩:=RB.out.2.2 (by omega)
    have cy:=hc1 k hmore
    obtain⟨cx,fx⟩:=HO1.out.cell (i+k) (by rw[HN1.out];omega)
    have zr:=HL1.out.at (i+k)
    have yr:=RB.out.num k
    have hS:=zsv (i:=i) (k:=k) (c:=c) (x:=x) (ys:=ys) (by rw[HN1.out];omega) HV1.out
    generalize L1[i+k]?.getD 0=z at*
    generalize ys[k]?.getD 0=y at*
    have MR:=zg9 c0 c1 zr.1 zr.2 x0 x1 yr.1 yr.2
    have k2:IntKind.u64.wrap y=y:=IntWalk.u64_in _ (by omega)
    have k3:IntKind.u64.wrap (x*y)=x*y:=IntWalk.u64_in _ (by omega)
    have k4:IntKind.u64.wrap z=z:=IntWalk.u64_in _ (by omega)
    have k5:IntKind.u64.wrap (x*y+z)=x*y+z:=IntWalk.u64_in _ (by omega)
    have k6:IntKind.u64.wrap (x*y+z+c)=x*y+z+c:=IntWalk.u64_in _ (by omega)
    have eT:c+z+x*y=x*y+z+c:=by omega
    rw[eT]at MR
    have HS:=zwd hS
    clear hS hc1 HV1
    obtain⟨T,hT⟩:∃T,x*y+z+c=T:=⟨_,rfl⟩
    rw[hT]at k6 MR HS
    have HT:=zwd hT
    have k7:IntKind.u32.wrap T=T%4294967296:=rfl
    have k8:IntKind.u64.wrap (T/4294967296)=T/4294967296:=IntWalk.u64_in _ (by omega)
    have d0:=MR.2.2.1
    have d1:=MR.2.2.2.1
    clear MR eT
    go_wp2_with fail
    go_quiet (fail)
    have O2:=zwd (HO1.out.drewN nq)
    have B2:Hid (Below W0.heap.size w (wr.drewN nq)):=zwd {HBW.out with}
    clear cx fx
    generalize wr.drewN nq=w4 at*
    obtain⟨cx,fx⟩:=O2.out.cell (i+k) (by rw[HN1.out];omega)
    have O3:=zwd (O2.out.set hg (i+k) (T%4294967296))
    have B3:=zwd (B2.out.setCell (p:=⟨g,i+k,none⟩) hg (.int .u32 (T%4294967296)))
    have LN:Hid (zay (L1.set (i+k) (T%4294967296))):=zwd (zbD HL1.out _ (by omega) (by omega))
    have SO:=zwd (zhd (i:=i+k) (r:=T%4294967296) HQ1.out)
    clear hT
    go_wp2_with fail
    go_roundw
    case rel=>exact⟨k+1,_,_,rfl,by go_num,by omega,d0,d1,O3.out,LN.out,by rw[List.length_set];exact HN1.out,HS.out,SO.out,B3.out⟩
    case measure=>simp only[intOf];exact zbm hkM
  · obtain rfl:k=m:=by omega
    have t1:decide ((k:Int)<(k:Int))=false:=decide_eq_false (by omega)
    have k2:IntKind.u32.wrap c=c:=IntWalk.u32_in _ (by omega)
    have E:=HV1.out
    rw[List.take_of_length_le (by rw[HR.out.1];omega)]at E
    have HE:=zwd E
    clear E
    go_wp2_with fail
    go_ret
    exact⟨L1,c,rfl,c0,c1,HO1.out,HL1.out,HN1.out,HE.out,HQ1.out,HBW.out⟩
theorem zpL {L L' us vs:List Int} {i r:Nat} {c:Int} (hi:i+r<L'.length) (hz:L'[i+r]?.getD 0=0) (h:valZ L'+4294967296^(i+r)*c=valZ L+us[i]?.getD 0*4294967296^i*valZ vs) (hv:valZ L=valZ (us.take i)*valZ vs):
 valZ (L'.set (i+r) c)=valZ (us.take (i+1))*valZ vs:=by
 rw[zcH L' _ _ hi,hz,Int.sub_zero,h,hv,zc9,Int.add_mul,Int.mul_comm (us[i]?.getD 0)]
theorem zsw {L' L:List Int} {i r:Nat} {c:Int} (h:∀j,i+r<=j->L'[j]?.getD 0=L[j]?.getD 0) (hz:∀j,i+r<=j->L[j]?.getD 0=0):∀j,i+1+r<=j->(L'.set (i+r) c)[j]?.getD 0=0:=by
 intro j hj
 rw[List.getElem?_set_ne (by omega),h j (by omega),hz j (by omega)]
theorem zaz.drew {W0 wr:World} {V:Value} {L:List Int} (h:zaz W0 wr V L):zaz W0 wr.drew V L:=⟨h.1,{h.2 with}⟩
theorem zus (a b:Option Addr) (n m ca cb:Nat) (xs ys:List Int) (w:World) (hr:zat w a n xs) (hs:zat w b m ys) (hn:n<=40000) (hm:m<=40000) (hca:n<=ca) (hcb:m<=cb) (hna:a=none->ca=0) (hnb:b=none->cb=0):
 Calls Tryz.prog 199 #[.slice a n ca,.slice b m cb] w (zfn (valZ xs*valZ ys) w):=by
 obtain⟨i0,hi,hz0,hz1,hz2⟩:=info_parts Tryz.info32
 have NA:=zwd (zbg a n ca xs w hr hca (by omega) hna)
 have NB:=zwd (zbg b m cb ys w hs hcb (by omega) hnb)
 have HA:=zwd hr.norm
 have HB:=zwd hs.norm
 have VA:=zca (zaA (zap hr))
 have VB:=zca (zaA (zap hs))
 have la:(limZ (valZ xs)).length<=n:=by have:=(zcn (zap hr)).1;have:=hr.1;omega
 have lb:(limZ (valZ ys)).length<=m:=by have:=(zcn (zap hs)).1;have:=hs.1;omega
 clear hr hs hna hnb
 rw[<-VA,<-VB]
 generalize limZ (valZ xs)=us at*
 generalize limZ (valZ ys)=vs at*
 clear VA VB
 obtain⟨p,hp⟩:∃p,us.length=p:=⟨_,rfl⟩
 obtain⟨r,hr⟩:∃r,vs.length=r:=⟨_,rfl⟩
 rw[hp]at la NA HA
 rw[hr]at lb NB HB
 have HP:=zwd hp
 have HRR:=zwd hr
 clear hp hr
 have w1:IntKind.i64.wrap ((p:Int)+(r:Int))=(p:Int)+(r:Int):=IntWalk.i64_in _ (by omega)
 go_enter Tryz.func199,Tryz.ntmps199
 go_wp2_with fail
 refine NA.out.mono ?_
 rintro e w2 ⟨rfl,rfl⟩
 go_wp2_with fail
 refine NB.out.mono ?_
 rintro e w3 ⟨rfl,hw3⟩
 subst hw3
 clear NA NB
 go_wp2_with (at_make;refine wpList_make_full _ rfl _ _ 23 rfl w3.heap.size 22 i0 (.int .u32 0) 1 Tryz.underlying23 hi hz0 hz1 _ _ _ _ (p+r) rfl rfl ?b0 ?b00 ?b1 ?b2 ?b3 ?_)
 case b0=>first|rfl|omega
 case b00=>first|rfl|omega
 case b1=>rw[hz2];omega
 case b2=>unfold maxLen;omega
 case b3=>exact Nat.le_refl _
 intro w1 hown0 hgrow
 have HO:=zwd (zbX hown0 hgrow)
 clear hown0 hgrow hz2 hz1 hz0 hi
 go_wp2_with fail
 go_loopw [19] (fun iV wr=>∃(i:Nat) (L:List Int),iV= .int .i64 (i:Int)/\ i<=p/\ zaz w3 wr (.slice (some ⟨w3.heap.size,0,none⟩) (p+r) (p+r)) L/\ zay L/\ L.length=p+r/\ valZ L=valZ (us.take i)*valZ vs/\ ∀j,i+r<=j->L[j]?.getD 0=0) (fun iV _=>(1000001-intOf iV).toNat)
 case atStart=>exact⟨0,_,rfl,by omega,HO.out,zby _,by simp,by simp[valZ,zbW],fun j _=>by rw[List.getElem?_replicate];split<;>rfl⟩
 case round=>
  obtain⟨i,L,rfl,hi,ho,hL,hlen,hval,hzero⟩:=hrel
  have HO0:=zwd ho
  have HL0:=zwd hL
  have HN0:=zwd hlen
  have HV0:=zwd hval
  have HZ0:=zwd hzero
  clear ho hL hlen hval hzero HO
  by_cases hmore:i<p
  · have t1:decide ((i:Int)<(p:Int))=true:=decide_eq_true (by omega)
    have hiM:i<=1000000:=by omega
    have RA:=zwd (HA.out.below HO0.out.2)
    obtain⟨b1,o1,rfl,hb1,hc1⟩:=HA.out.2.2 (by omega)
    have ca0:∀W,Below w3.heap.size wr.drew W->W.cell? ⟨b1,o1+i,none⟩=some (.int .u32 (us[i]?.getD 0)):=fun W hW=>by
     have h1:W.cell? ⟨b1,o1+i,none⟩=wr.drew.cell? ⟨b1,o1+i,none⟩:=hW.cell (p:=⟨b1,o1+i,none⟩) hb1
     have h2:wr.drew.cell? ⟨b1,o1+i,none⟩=w3.cell? ⟨b1,o1+i,none⟩:=(show Below w3.heap.size w3 wr.drew from {HO0.out.2 with}).cell (p:=⟨b1,o1+i,none⟩) hb1
     exact h1.trans (h2.trans (hc1 i hmore))
    have xr:=HA.out.num i
    have MR:=zwd (fun(L':List Int) (c:Int)=>zpL (L:=L) (L':=L') (us:=us) (vs:=vs) (i:=i) (r:=r) (c:=c))
    generalize us[i]?.getD 0=x at*
    have AM:=zwd (zhe w3 wr.drew w3.heap.size (p+r) i r (p+r-i) r b L vs x HO0.out.drew HN0.out (Nat.le_refl _) HL0.out (by omega) (by omega) HB.out xr.1 xr.2)
    have i1:IntKind.i64.wrap ((i:Int)+(r:Int))=(i:Int)+(r:Int):=IntWalk.i64_in _ (by omega)
    have i2:(i:Int)<(p:Int):=by omega
    have i3:(i:Int)+(r:Int)<(p:Int)+(r:Int):=by omega
    have i4:(i:Int)<=(i:Int)+(r:Int):=by omega
    have i5:(i:Int)+(r:Int)<=(p:Int)+(r:Int):=by omega
    have i6:0<=(i:Int)+(r:Int):=by omega
    have i7:((i:Int)+(r:Int)).toNat=i+r:=by omega
    have i8:i+r-i=r:=by omega
    have i9:¬p+r=i:=by omega
    clear hc1
    go_wp2_with fail
    refine zaa (Below w3.heap.size) (Below.refl _) (fun _ _ _=>Below.trans) [(0,false),(1,false),(2,false),(3,false),(4,false),(5,false),(6,false),(7,false),(8,false),(9,false),(10,false),(11,false),(12,false),(13,false),(14,false),(15,false),(16,false),(17,true),(18,false),(19,true)] (by kernel_rfl) (by kernel_rfl) rfl (by kernel_rfl) (fun _ _ _ _ _ h=>h) ?_
    repeat(refine zab _ rfl (by rfl) (fun W hW=>by go_simp;first|done|rfl) ?_;simp only[Act.put,zwe,zwg,zwf])
    refine zad rfl (by rfl) (fun K1 hK1=> ?_)
    go_simp
    refine AM.out.mono ?_
    rintro e w4 ⟨L',c,rfl,c0,c1,hO,hL',hlen,hval,hhigh,hbw⟩
    refine hK1 _ _ hbw ?_
    clear hK1 K1 ca0
    obtain⟨cx,fx⟩:=hO.cell (i+r) (by rw[hlen];omega)
    have z0:L'[i+r]?.getD 0=0:=by rw[hhigh _ (Nat.le_refl _)];exact HZ0.out _ (Nat.le_refl _)
    rw[z0]at cx
    have O5:=zwd (hO.set (Nat.le_refl _) (i+r) c)
    have L5:=zwd (zbD hL' (i+r) c0 c1)
    have V5:=zwd (MR.out L' c (by rw[hlen];omega) z0 hval HV0.out)
    have Z5:=zwd (zsw (c:=c) hhigh HZ0.out)
    have N5:=zwd hlen
    clear hO hL' hlen hval hhigh hbw z0
    try simp only[Act.put,zwe,zwg,zwf]
    refine zab _ rfl (by rfl) (fun W hW=>by go_simp;first|done|rfl) ?_
    try simp only[Act.put,zwe,zwg,zwf]
    refine zad rfl (by rfl) (fun K1 hK1=> ?_)
    unfold Oper.wp
    go_simp
    refine hK1 _ _ ((Below.refl _ _).setCell (p:=⟨w3.heap.size,i+r,none⟩) (Nat.le_refl _) _) ?_
    clear hK1 K1 cx fx
    refine zai ?_
    generalize hw5:w4.setCell ⟨w3.heap.size,i+r,none⟩ (.int .u32 c)=w5 at*
    clear hw5
    go_wp2_with fail
    go_roundw
    case rel=>exact⟨i+1,_,by go_num,by omega,O5.out,L5.out,by rw[List.length_set];exact N5.out,V5.out,Z5.out⟩
    case measure=>simp only[intOf];exact zbm hiM
  · obtain rfl:i=p:=by omega
    have t1:decide ((i:Int)<(i:Int))=false:=decide_eq_false (by omega)
    have F:Hid (valZ L=valZ us*valZ vs):=zwd (by rw[HV0.out,List.take_of_length_le (by rw[HP.out];omega)])
    have R3:=(HO0.out.normed HL0.out).1
    have N3:=zwd (zbg (some ⟨w3.heap.size,0,none⟩) (i+r) (i+r) L wr R3 (Nat.le_refl _) (by omega) (fun e=>by cases e))
    have G3:=zwd R3.norm
    rw[F.out]at N3 G3
    clear R3 HV0 F
    go_wp2_with fail
    refine N3.out.mono ?_
    rintro e w4 ⟨rfl,rfl⟩
    go_wp2_with fail
    go_ret
    exact⟨_,_,rfl,G3.out,(fun e=>by cases e),Nat.le_refl _,HO0.out.2⟩
theorem zpM (a:Option Addr) (n ca:Nat) (zs:List Int) (w:World) (hr:Row w a n zs) (hn:n<=100000):Calls Tryz.prog 114 #[.slice a n ca] w (zfn (beV zs) w):=by
 obtain⟨i0,hi,hz0,hz1,hz2⟩:=info_parts Tryz.info32
 have HA:=zwd hr
 have HL:Hid (zs.length=n):=zwd hr.1
 clear hr
 obtain⟨N,hN⟩:∃N,n/4+1=N:=⟨_,rfl⟩
 have g1:(n:Int)/4+1=(N:Int):=by omega
 have w1:IntKind.i64.wrap ((n:Int)/4)=(n:Int)/4:=IntWalk.i64_in _ (by omega)
 have w2:IntKind.i64.wrap ((n:Int)/4+1)=(N:Int):=by rw[g1];exact IntWalk.i64_in _ (by omega)
 go_enter Tryz.func114,Tryz.ntmps114
 go_wp2_with (at_make;refine wpList_make_full _ rfl _ _ 23 rfl w.heap.size 22 i0 (.int .u32 0) 1 Tryz.underlying23 hi hz0 hz1 _ _ _ _ N rfl rfl ?b0 ?b00 ?b1 ?b2 ?b3 ?_)
 case b0=>first|rfl|omega
 case b00=>first|rfl|omega
 case b1=>rw[hz2];omega
 case b2=>unfold maxLen;omega
 case b3=>exact Nat.le_refl _
 intro w1 hown0 hgrow
 have HO:=zwd (zbX hown0 hgrow)
 clear hown0 hgrow hz2 hz1 hz0 hi
 go_wp2_with fail
 go_loopw [4] (fun iV wr=>∃(i:Nat) (L:List Int),iV= .int .i64 (i:Int)/\ i<=n/\ zaz w wr (.slice (some ⟨w.heap.size,0,none⟩) N N) L/\ zay L/\ L.length=N/\ valZ L=beV (zs.take i)*256^(n-i)) (fun iV _=>(1000001-intOf iV).toNat)
 case atStart=>exact⟨0,_,rfl,by omega,HO.out,zby _,by simp,by rw[zbW];simp[zun]⟩
 case round=>
  obtain⟨i,L,rfl,hi,ho,hL,hlen,hval⟩:=hrel
  have HO2:=zwd ho
  have HLL:=zwd hL
  have HN:=zwd hlen
  have HV:=zwd hval
  clear ho hL hlen hval HO
  by_cases hmore:i<n
  · have t1:decide ((i:Int)<(n:Int))=true:=decide_eq_true (by omega)
    obtain⟨k,hk⟩:∃k,n-1-i=k:=⟨_,rfl⟩
    obtain⟨q,hq⟩:∃q,k/4=q:=⟨_,rfl⟩
    have r4:=Nat.mod_lt k (show 0<4 by omega)
    obtain⟨r,hr⟩:∃r,k%4=r:=⟨_,rfl⟩
    rw[hr]at r4
    obtain⟨b,off,rfl,hbl0,hcell0⟩:=HA.out.2.2 (by omega)
    have cb:wr.drew.cell? ⟨b,off+i,none⟩=some (.int .u8 (zs[i]?.getD 0)):=((show Below w.heap.size w wr.drew from {HO2.out.2 with}).cell (p:=⟨b,off+i,none⟩) hbl0).trans (hcell0 i hmore)
    have br:=HA.out.byte i
    have qN:q<N:=by omega
    have HV1:valZ L=beV (zs.take i)*256^(4*q+r+1):=by rw[HV.out,show n-i=4*q+r+1 by omega]
    have S:=zpK (b:=zs[i]?.getD 0) (by rw[HN.out];exact qN) HV1
    rw[<-zsr (by rw[HL.out];exact hmore),show 4*q+r=n-(i+1)by omega]at S
    have RM:=zpI HLL.out r4 (by rw[HN.out];exact qN) HV1
    have lr:0<=L[q]?.getD 0/\ L[q]?.getD 0<=4294967295:=by
     rw[List.getElem?_eq_getElem (by rw[HN.out];exact qN)]
     exact HLL.out _ (List.getElem_mem _)
    have FT:=zpJ r4 lr.1 lr.2 br.1 br.2 RM
    obtain⟨hc1,hf1⟩:=HO2.out.cell q (by rw[HN.out];exact qN)
    have HSET:=zwd (fun v=>HO2.out.set (Nat.le_refl _) q v)
    have LN:=zwd (zbD HLL.out q (v:=L[q]?.getD 0+zs[i]?.getD 0*256^r) (by omega) (by omega))
    have SV:=zwd S
    generalize L[q]?.getD 0=l at*
    generalize zs[i]?.getD 0=z at*
    have k1:IntKind.i64.wrap ((n:Int)-1)=(n:Int)-1:=IntWalk.i64_in _ (by omega)
    have k2:IntKind.i64.wrap ((n:Int)-1-(i:Int))=(k:Int):=by rw[show(n:Int)-1-(i:Int)=(k:Int)by omega];exact IntWalk.i64_in _ (by omega)
    have k3:(k:Int)/4=(q:Int):=by omega
    have k4:(k:Int)%4=(r:Int):=by omega
    have k5:IntKind.i64.wrap (q:Int)=(q:Int):=IntWalk.i64_in _ (by omega)
    have qI:(q:Int)<(N:Int):=by omega
    have iI:(i:Int)<(n:Int):=by omega
    have k6:IntKind.u32.wrap z=z:=IntWalk.u32_in _ (by omega)
    have hiM:i<=1000000:=by omega
    clear hcell0 HV1 S RM HV
    have cz:∀W,Below w.heap.size wr.drew W->W.cell? ⟨b,off+i,none⟩=some (.int .u8 z):=fun W hW=>by
     have h1:W.cell? ⟨b,off+i,none⟩=wr.drew.cell? ⟨b,off+i,none⟩:=hW.cell (p:=⟨b,off+i,none⟩) hbl0
     exact h1.trans cb
    obtain rfl|rfl|rfl|rfl:r=0 \/r=1 \/r=2 \/r=3:=by omega
    · have kt:(k:Int).tmod 4=0:=by rw[Int.tmod_eq_emod_of_nonneg (by omega)];omega
      have kp:(256:Int)^0=1:=by decide
      rw[kp,Int.mul_one]at FT LN SV
      have wz:IntKind.u32.wrap (z)=z:=IntWalk.u32_in _ (by omega)
      have wl:IntKind.u32.wrap (l+z)=l+z:=IntWalk.u32_in _ (by omega)
      have w8:IntKind.i64.wrap 0=0:=by decide
      have hc2:wr.drew.cell? ⟨w.heap.size,q,none⟩=some (.int .u32 l):=hc1
      have hf2:wr.drew.frozen? ⟨w.heap.size,q,none⟩=false:=hf1
      clear FT kp k4 r4
      go_wp2_with fail
      refine zaa (Below w.heap.size) (Below.refl _) (fun _ _ _=>Below.trans) [(0,false),(1,false),(2,false),(3,false),(4,false),(5,false),(6,false),(8,false),(9,false),(10,false),(11,false),(12,false),(13,false),(14,false),(15,false),(16,false),(7,true),(17,false),(18,false),(19,true)] (by kernel_rfl) (by kernel_rfl) rfl (by kernel_rfl) (fun _ _ _ _ _ h=>h) ?_
      repeat(refine zab _ rfl (by rfl) (fun W hW=>by go_simp;first|done|rfl) ?_;simp only[Act.put,zwe,zwg,zwf])
      refine zad rfl (by rfl) (fun K1 hK1=> ?_)
      unfold Oper.wp
      go_simp
      refine hK1 _ _ (Below.refl _ _) ?_
      clear hK1 K1 cz
      try simp only[Act.put,zwe,zwg,zwf]
      repeat(refine zab _ rfl (by rfl) (fun W hW=>by go_simp;first|done|rfl) ?_;try simp only[Act.put,zwe,zwg,zwf])
      refine zad rfl (by rfl) (fun K1 hK1=> ?_)
      unfold Oper.wp
      go_simp
      refine hK1 _ _ ((Below.refl _ _).setCell (p:=⟨w.heap.size,q,none⟩) (Nat.le_refl _) _) ?_
      clear hK1 K1 hc1 hc2 hf1 hf2
      refine zai ?_
      have O5:=zwd (HO2.out.set (Nat.le_refl _) q (l+z)).drew
      generalize hw5:(wr.setCell ⟨w.heap.size,q,none⟩ (.int .u32 (l+z))).drew=w5 at*
      clear hw5
      go_wp2_with fail
      go_roundw
      case rel=>exact⟨i+1,_,by go_num,by omega,O5.out,LN.out,by rw[List.length_set];exact HN.out,SV.out⟩
      case measure=>simp only[intOf];exact zbm hiM
    · have kt:(k:Int).tmod 4=1:=by rw[Int.tmod_eq_emod_of_nonneg (by omega)];omega
      have kp:(256:Int)^1=256:=by decide
      rw[kp]at FT LN SV
      have wz:IntKind.u32.wrap (z*256)=z*256:=IntWalk.u32_in _ (by omega)
      have wl:IntKind.u32.wrap (l+z*256)=l+z*256:=IntWalk.u32_in _ (by omega)
      have w8:IntKind.i64.wrap 8=8:=by decide
      have hc2:wr.drew.cell? ⟨w.heap.size,q,none⟩=some (.int .u32 l):=hc1
      have hf2:wr.drew.frozen? ⟨w.heap.size,q,none⟩=false:=hf1
      clear FT kp k4 r4
      go_wp2_with fail
      refine zaa (Below w.heap.size) (Below.refl _) (fun _ _ _=>Below.trans) [(0,false),(1,false),(2,false),(3,false),(4,false),(5,false),(6,false),(8,false),(9,false),(10,false),(11,false),(12,false),(13,false),(14,false),(15,false),(16,false),(7,true),(17,false),(18,false),(19,true)] (by kernel_rfl) (by kernel_rfl) rfl (by kernel_rfl) (fun _ _ _ _ _ h=>h) ?_
      repeat(refine zab _ rfl (by rfl) (fun W hW=>by go_simp;first|done|rfl) ?_;simp only[Act.put,zwe,zwg,zwf])
      refine zad rfl (by rfl) (fun K1 hK1=> ?_)
      unfold Oper.wp
      go_simp
      refine hK1 _ _ (Below.refl _ _) ?_
      clear hK1 K1 cz
      try simp only[Act.put,zwe,zwg,zwf]
      repeat(refine zab _ rfl (by rfl) (fun W hW=>by go_simp;first|done|rfl) ?_;try simp only[Act.put,zwe,zwg,zwf])
      refine zad rfl (by rfl) (fun K1 hK1=> ?_)
      unfold Oper.wp
      go_simp
      refine hK1 _ _ ((Below.refl _ _).setCell (p:=⟨w.heap.size,q,none⟩) (Nat.le_refl _) _) ?_
      clear hK1 K1 hc1 hc2 hf1 hf2
      refine zai ?_
      have O5:=zwd (HO2.out.set (Nat.le_refl _) q (l+z*256)).drew
      generalize hw5:(wr.setCell ⟨w.heap.size,q,none⟩ (.int .u32 (l+z*256))).drew=w5 at*
      clear hw5
      go_wp2_with fail
      go_roundw
      case rel=>exact⟨i+1,_,by go_num,by omega,O5.out,LN.out,by rw[List.length_set];exact HN.out,SV.out⟩
      case measure=>simp only[intOf];exact zbm hiM
    · have kt:(k:Int).tmod 4=2:=by rw[Int.tmod_eq_emod_of_nonneg (by omega)];omega
      have kp:(256:Int)^2=65536:=by decide
      rw[kp]at FT LN SV
      have wz:IntKind.u32.wrap (z*65536)=z*65536:=IntWalk.u32_in _ (by omega)
      have wl:IntKind.u32.wrap (l+z*65536)=l+z*65536:=IntWalk.u32_in _ (by omega)
      have w8:IntKind.i64.wrap 16=16:=by decide
      have hc2:wr.drew.cell? ⟨w.heap.size,q,none⟩=some (.int .u32 l):=hc1
      have hf2:wr.drew.frozen? ⟨w.heap.size,q,none⟩=false:=hf1
      clear FT kp k4 r4
      go_wp2_with fail
      refine zaa (Below w.heap.size) (Below.refl _) (fun _ _ _=>Below.trans) [(0,false),(1,false),(2,false),(3,false),(4,false),(5,false),(6,false),(8,false),(9,false),(10,false),(11,false),(12,false),(13,false),(14,false),(15,false),(16,false),(7,true),(17,false),(18,false),(19,true)] (by kernel_rfl) (by kernel_rfl) rfl (by kernel_rfl) (fun _ _ _ _ _ h=>h) ?_
      repeat(refine zab _ rfl (by rfl) (fun W hW=>by go_simp;first|done|rfl) ?_;simp only[Act.put,zwe,zwg,zwf])
      refine zad rfl (by rfl) (fun K1 hK1=> ?_)
      unfold Oper.wp
      go_simp
      refine hK1 _ _ (Below.refl _ _) ?_
      clear hK1 K1 cz
      try simp only[Act.put,zwe,zwg,zwf]
      repeat(refine zab _ rfl (by rfl) (fun W hW=>by go_simp;first|done|rfl) ?_;try simp only[Act.put,zwe,zwg,zwf])
      refine zad rfl (by rfl) (fun K1 hK1=> ?_)
      unfold Oper.wp
      go_simp
      refine hK1 _ _ ((Below.refl _ _).setCell (p:=⟨w.heap.size,q,none⟩) (Nat.le_refl _) _) ?_
      clear hK1 K1 hc1 hc2 hf1 hf2
      refine zai ?_
      have O5:=zwd (HO2.out.set (Nat.le_refl _) q (l+z*65536)).drew
      generalize hw5:(wr.setCell ⟨w.heap.size,q,none⟩ (.int .u32 (l+z*65536))).drew=w5 at*
      clear hw5
      go_wp2_with fail
      go_roundw
      case rel=>exact⟨i+1,_,by go_num,by omega,O5.out,LN.out,by rw[List.length_set];exact HN.out,SV.out⟩
      case measure=>simp only[intOf];exact zbm hiM
    · have kt:(k:Int).tmod 4=3:=by rw[Int.tmod_eq_emod_of_nonneg (by omega)];omega
      have kp:(256:Int)^3=16777216:=by decide
      rw[kp]at FT LN SV
      have wz:IntKind.u32.wrap (z*16777216)=z*16777216:=IntWalk.u32_in _ (by omega)
      have wl:IntKind.u32.wrap (l+z*16777216)=l+z*16777216:=IntWalk.u32_in _ (by omega)
      have w8:IntKind.i64.wrap 24=24:=by decide
      have hc2:wr.drew.cell? ⟨w.heap.size,q,none⟩=some (.int .u32 l):=hc1
      have hf2:wr.drew.frozen? ⟨w.heap.size,q,none⟩=false:=hf1
      clear FT kp k4 r4
      go_wp2_with fail
      refine zaa (Below w.heap.size) (Below.refl _) (fun _ _ _=>Below.trans) [(0,false),(1,false),(2,false),(3,false),(4,false),(5,false),(6,false),(8,false),(9,false),(10,false),(11,false),(12,false),(13,false),(14,false),(15,false),(16,false),(7,true),(17,false),(18,false),(19,true)] (by kernel_rfl) (by kernel_rfl) rfl (by kernel_rfl) (fun _ _ _ _ _ h=>h) ?_
      repeat(refine zab _ rfl (by rfl) (fun W hW=>by go_simp;first|done|rfl) ?_;simp only[Act.put,zwe,zwg,zwf])
      refine zad rfl (by rfl) (fun K1 hK1=> ?_)
      unfold Oper.wp
      go_simp
      refine hK1 _ _ (Below.refl _ _) ?_
      clear hK1 K1 cz
      try simp only[Act.put,zwe,zwg,zwf]
      repeat(refine zab _ rfl (by rfl) (fun W hW=>by go_simp;first|done|rfl) ?_;try simp only[Act.put,zwe,zwg,zwf])
      refine zad rfl (by rfl) (fun K1 hK1=> ?_)
      unfold Oper.wp
      go_simp
      refine hK1 _ _ ((Below.refl _ _).setCell (p:=⟨w.heap.size,q,none⟩) (Nat.le_refl _) _) ?_
      clear hK1 K1 hc1 hc2 hf1 hf2
      refine zai ?_
      have O5:=zwd (HO2.out.set (Nat.le_refl _) q (l+z*16777216)).drew
      generalize hw5:(wr.setCell ⟨w.heap.size,q,none⟩ (.int .u32 (l+z*16777216))).drew=w5 at*
      clear hw5
      go_wp2_with fail
      go_roundw
      case rel=>exact⟨i+1,_,by go_num,by omega,O5.out,LN.out,by rw[List.length_set];exact HN.out,SV.out⟩
      case measure=>simp only[intOf];exact zbm hiM
  · obtain rfl:i=n:=by omega
    have t1:decide ((i:Int)<(i:Int))=false:=decide_eq_false (by omega)
    have F:Hid (valZ L=beV zs):=zwd (by rw[HV.out,List.take_of_length_le (by rw[HL.out];omega),Nat.sub_self];simp)
    have R3:=(HO2.out.normed HLL.out).1
    have N3:=zwd (zcV (some ⟨w.heap.size,0,none⟩) N N L wr R3 (Nat.le_refl _) (by omega) (fun e=>by cases e))
    rw[F.out]at N3
    have B1:=zwd HO2.out.2
    clear R3 HV F
    go_wp2_with fail
    refine N3.out.mono ?_
    rintro e w5 ⟨a5,c5,rfl,h5⟩
    have H5:=zwd h5
    clear h5
    go_wp2_with fail
    go_ret
    exact⟨a5,c5,rfl,H5.out.1,H5.out.2.1,H5.out.2.2.1,B1.out.trans (H5.out.2.2.2.mono B1.out.size)⟩
theorem zjm:∀(l:List Int) (v:Int),l.foldl (fun v x=>v*256+x) v=v*256^l.length+beV l
 | [],v=>by simp[beV]
 |x::xs,v=>by
   have e:beV (x::xs)=xs.foldl (fun v x=>v*256+x) (0*256+x):=rfl
   rw[List.foldl_cons,zjm xs,e,zjm xs,List.length_cons,Int.pow_succ,Int.add_mul,Int.zero_mul,Int.zero_add,Int.mul_comm (256^xs.length) 256,Int.mul_assoc,Int.add_assoc]
theorem zfp (x:Int) (xs:List Int):beV (x::xs)=x*256^xs.length+beV xs:=by
 have e:beV (x::xs)=xs.foldl (fun v x=>v*256+x) (0*256+x):=rfl
 rw[e,zjm xs,Int.zero_mul,Int.zero_add]
theorem zm0:∀ {l:List Int},(∀x∈l,0<=x/\ x<=255)->beV l<256^l.length
 | [],_=>by decide
 |x::xs,h=>by
   have ih:=zm0 (l:=xs) (fun y hy=>h y (by simp[hy]))
   have hx:=h x (by simp)
   have p:(0:Int)<256^xs.length:=Int.pow_pos (by decide)
   rw[zfp,List.length_cons,Int.pow_succ]
   generalize(256:Int)^xs.length=P at*
   have:=Int.mul_le_mul_of_nonneg_right (show x<=255 by omega) (Int.le_of_lt p)
   omega
theorem zsx {zs:List Int} {i:Nat} (hi:i<zs.length):beV (zs.drop (zs.length-1-i))=zs[zs.length-1-i]?.getD 0*256^i+beV (zs.drop (zs.length-i)):=by
 have h:zs.length-1-i<zs.length:=by omega
 rw[List.drop_eq_getElem_cons h,zfp,List.length_drop,List.getElem?_eq_getElem h,show zs.length-1-i+1=zs.length-i by omega,show zs.length-(zs.length-i)=i by omega]
 rfl
theorem zsy {L:List Int} (hL:zay L) {q r:Nat} (hq:q<L.length) (h:valZ L<256^(4*q+r)):L[q]?.getD 0<256^r:=by
 have e:=za0 L q
 rw[zaN L q]at e
 have t:=zcg hL q
 have p:=zaM q
 have d0:=zaA (hL.drop (q+1))
 rw[zkn]at h
 have h2:4294967296^q*(L[q]?.getD 0+4294967296*valZ (L.drop (q+1)))<4294967296^q*256^r:=by omega
 have:=Int.lt_of_mul_lt_mul_left h2 (by omega)
 omega
theorem zpN {L zs:List Int} {q r i:Nat} (hi:i<zs.length) (hir:i=4*q+r) (hq:q<L.length) (h:valZ L=beV (zs.drop (zs.length-i))):
 valZ (L.set q (L[q]?.getD 0+zs[zs.length-1-i]?.getD 0*256^r))=beV (zs.drop (zs.length-(i+1))):=by
 rw[zcH L q _ hq,h,show zs.length-(i+1)=zs.length-1-i by omega,zsx hi,hir,zkn]
 generalize zs[zs.length-1-(4*q+r)]?.getD 0=z
 generalize(4294967296:Int)^q=P
 generalize(256:Int)^r=R
 generalize L[q]?.getD 0=l
 rw[show l+z*R-l=z*R by omega,Int.mul_left_comm,Int.add_comm]
theorem zm1 {l h:Int} (r:Nat) (l0:0<=l) (h0:0<=h) (l1:l<=4294967295) (h1:h<=4294967295) (hl:l<2^r) (hh:h%2^r=0):bits .or .u32 l h=l+h:=by
 obtain⟨x,rfl⟩:=Int.eq_ofNat_of_zero_le l0
 obtain⟨y,rfl⟩:=Int.eq_ofNat_of_zero_le h0
 rw[nor x y (by omega) (by omega),Nat.or_comm,<-nor y x (by omega) (by omega),bits_join .u32 32 (by decide) zfo r _ _ h0 hh (by omega) l0 hl (by omega),Int.add_comm]
theorem zsz (a:Option Addr) (n ca:Nat) (zs:List Int) (w:World) (hr:Row w a n zs) (hn:n<=100000):Calls Tryz.prog 103 #[.slice a n ca] w (zfn (beV zs) w):=by
 obtain⟨i0,hi,hz0,hz1,hz2⟩:=info_parts Tryz.info32
 have HA:=zwd hr
 have HL:Hid (zs.length=n):=zwd hr.1
 have HBY:Hid (∀x∈zs,0<=x/\ x<=255):=zwd hr.2.1
 clear hr
 obtain⟨N,hN⟩:∃N,(n+4-1)/4=N:=⟨_,rfl⟩
 have g1:((n:Int)+4-1)/4=(N:Int):=by omega
 have g2:((n:Int)+4-1).tdiv 4=(N:Int):=by rw[Int.tdiv_eq_ediv_of_nonneg (by omega)];exact g1
 have w0:IntKind.i64.wrap ((n:Int)+4)=(n:Int)+4:=IntWalk.i64_in _ (by omega)
 have w1:IntKind.i64.wrap ((n:Int)+4-1)=(n:Int)+4-1:=IntWalk.i64_in _ (by omega)
 have w2:IntKind.i64.wrap (N:Int)=(N:Int):=IntWalk.i64_in _ (by omega)
 go_enter Tryz.func103,Tryz.ntmps103
 go_wp2_with (at_make;refine wpList_make_full _ rfl _ _ 23 rfl w.heap.size 22 i0 (.int .u32 0) 1 Tryz.underlying23 hi hz0 hz1 _ _ _ _ N rfl rfl ?b0 ?b00 ?b1 ?b2 ?b3 ?_)
 case b0=>first|rfl|omega
 case b00=>first|rfl|omega
 case b1=>rw[hz2];omega
 case b2=>unfold maxLen;omega
 case b3=>exact Nat.le_refl _
 intro w1 hown0 hgrow
 have HO:=zwd (zbX hown0 hgrow)
 clear hown0 hgrow hz2 hz1 hz0 hi
 go_wp2_with fail
 go_loopw [14] (fun iV wr=>∃(i:Nat) (L:List Int),iV= .int .i64 (i:Int)/\ i<=n/\ zaz w wr (.slice (some ⟨w.heap.size,0,none⟩) N N) L/\ zay L/\ L.length=N/\ valZ L=beV (zs.drop (zs.length-i))) (fun iV _=>(1000001-intOf iV).toNat)
 case atStart=>exact⟨0,_,rfl,by omega,HO.out,zby _,by simp,by rw[zbW,Nat.sub_zero,List.drop_length];rfl⟩
 case round=>
  obtain⟨i,L,rfl,hi,ho,hL,hlen,hval⟩:=hrel
  have HO2:=zwd ho
  have HLL:=zwd hL
  have HN:=zwd hlen
  have HV:=zwd hval
  clear ho hL hlen hval HO
  by_cases hmore:i<n
  · have t1:decide ((i:Int)<(n:Int))=true:=decide_eq_true (by omega)
    obtain⟨k,hk⟩:∃k,n-1-i=k:=⟨_,rfl⟩
    obtain⟨q,hq⟩:∃q,i/4=q:=⟨_,rfl⟩
    have r4:=Nat.mod_lt i (show 0<4 by omega)
    obtain⟨r,hr⟩:∃r,i%4=r:=⟨_,rfl⟩
    rw[hr]at r4
    obtain⟨b,off,rfl,hbl0,hcell0⟩:=HA.out.2.2 (by omega)
    have cb:wr.cell? ⟨b,off+k,none⟩=some (.int .u8 (zs[k]?.getD 0)):=(HO2.out.2.cell (p:=⟨b,off+k,none⟩) hbl0).trans (hcell0 k (by omega))
    have br:=HA.out.byte k
    have qN:q<N:=by omega
    have hir:i=4*q+r:=by omega
    have S:=zpN (zs:=zs) (r:=r) (by rw[HL.out];exact hmore) hir (by rw[HN.out];exact qN) HV.out
    have LOW:L[q]?.getD 0<256^r:=zsy HLL.out (by rw[HN.out];exact qN) (by
     have h1:=zm0 (l:=zs.drop (zs.length-i)) (fun x hx=>HBY.out x (List.mem_of_mem_drop hx))
     rw[List.length_drop,HL.out,show n-(n-i)=i by omega]at h1
     have h2:=HV.out
     rw[HL.out]at h2
     rw[h2,<-hir]
     exact h1)
    rw[HL.out,hk]at S
    have lr:=HLL.out.at q
    obtain⟨hc1,hf1⟩:=HO2.out.cell q (by rw[HN.out];exact qN)
    have LNf:=zwd (fun v (h0:0<=v) (h1:v<=4294967295)=>zbD HLL.out q (v:=v) h0 h1)
    have SV:=zwd S
    generalize L[q]?.getD 0=l at*
    generalize zs[k]?.getD 0=z at*
    have k1:IntKind.i64.wrap ((n:Int)-1)=(n:Int)-1:=IntWalk.i64_in _ (by omega)
    have k2:IntKind.i64.wrap ((n:Int)-1-(i:Int))=(k:Int):=by rw[show(n:Int)-1-(i:Int)=(k:Int)by omega];exact IntWalk.i64_in _ (by omega)
    have k3:(i:Int)/4=(q:Int):=by omega
    have k5:IntKind.i64.wrap (q:Int)=(q:Int):=IntWalk.i64_in _ (by omega)
    have qI:(q:Int)<(N:Int):=by omega
    have kI:(k:Int)<(n:Int):=by omega
    have k6:IntKind.u32.wrap z=z:=IntWalk.u32_in _ (by omega)
    have hiM:i<=1000000:=by omega
    clear hcell0 S HV hir
    obtain rfl|rfl|rfl|rfl:r=0 \/r=1 \/r=2 \/r=3:=by omega
    · have kt:(i:Int).tmod 4=0:=by rw[Int.tmod_eq_emod_of_nonneg (by omega)];omega
      have kp:(256:Int)^0=1:=by decide
      rw[kp,Int.mul_one]at SV
      rw[kp]at LOW
      have wz:IntKind.u32.wrap (z)=z:=IntWalk.u32_in _ (by omega)
      have wl:bits .or .u32 l (z)=l+z:=zm1 0 lr.1 (by omega) lr.2 (by omega) (by omega) (by omega)
      have w8:IntKind.i64.wrap 0=0:=by decide
      have LN:=zwd (LNf.out (l+z) (by omega) (by omega))
      have hc2:wr.drew.cell? ⟨w.heap.size,q,none⟩=some (.int .u32 l):=hc1
      have hf2:wr.drew.frozen? ⟨w.heap.size,q,none⟩=false:=hf1
      clear kp r4 LNf LOW
      go_wp2_with fail
      refine zaa (Below w.heap.size) (Below.refl _) (fun _ _ _=>Below.trans) [(0,false),(1,false),(2,false),(3,false),(5,false),(6,false),(7,false),(8,false),(9,false),(4,true),(10,false),(11,false),(12,true)] (by kernel_rfl) (by kernel_rfl) rfl (by kernel_rfl) (fun _ _ _ _ _ h=>h) ?_
      repeat(refine zab _ rfl (by rfl) (fun W hW=>by go_simp;first|done|rfl) ?_;simp only[Act.put,zwe,zwg,zwf])
      refine zad rfl (by rfl) (fun K1 hK1=> ?_)
      unfold Oper.wp
      go_simp
      refine hK1 _ _ (Below.refl _ _) ?_
      clear hK1 K1
      try simp only[Act.put,zwe,zwg,zwf]
      repeat(refine zab _ rfl (by rfl) (fun W hW=>by go_simp;first|done|rfl) ?_;try simp only[Act.put,zwe,zwg,zwf])
      refine zad rfl (by rfl) (fun K1 hK1=> ?_)
      unfold Oper.wp
      go_simp
      refine hK1 _ _ ((Below.refl _ _).setCell (p:=⟨w.heap.size,q,none⟩) (Nat.le_refl _) _) ?_
      clear hK1 K1 hc1 hc2 hf1 hf2
      refine zai ?_
      have O5:=zwd (HO2.out.set (Nat.le_refl _) q (l+z)).drew
      generalize hw5:(wr.setCell ⟨w.heap.size,q,none⟩ (.int .u32 (l+z))).drew=w5 at*
      clear hw5
      go_wp2_with fail
      go_roundw
      case rel=>exact⟨i+1,_,by go_num,by omega,O5.out,LN.out,by rw[List.length_set];exact HN.out,by rw[HL.out];exact SV.out⟩
      case measure=>simp only[intOf];exact zbm hiM
    · have kt:(i:Int).tmod 4=1:=by rw[Int.tmod_eq_emod_of_nonneg (by omega)];omega
      have kp:(256:Int)^1=256:=by decide
      rw[kp]at SV
      rw[kp]at LOW
      have wz:IntKind.u32.wrap (z*256)=z*256:=IntWalk.u32_in _ (by omega)
      have wl:bits .or .u32 l (z*256)=l+z*256:=zm1 8 lr.1 (by omega) lr.2 (by omega) (by omega) (by omega)
      have w8:IntKind.i64.wrap 8=8:=by decide
      have LN:=zwd (LNf.out (l+z*256) (by omega) (by omega))
      have hc2:wr.drew.cell? ⟨w.heap.size,q,none⟩=some (.int .u32 l):=hc1
      have hf2:wr.drew.frozen? ⟨w.heap.size,q,none⟩=false:=hf1
      clear kp r4 LNf LOW
      go_wp2_with fail
      refine zaa (Below w.heap.size) (Below.refl _) (fun _ _ _=>Below.trans) [(0,false),(1,false),(2,false),(3,false),(5,false),(6,false),(7,false),(8,false),(9,false),(4,true),(10,false),(11,false),(12,true)] (by kernel_rfl) (by kernel_rfl) rfl (by kernel_rfl) (fun _ _ _ _ _ h=>h) ?_
      repeat(refine zab _ rfl (by rfl) (fun W hW=>by go_simp;first|done|rfl) ?_;simp only[Act.put,zwe,zwg,zwf])
      refine zad rfl (by rfl) (fun K1 hK1=> ?_)
      unfold Oper.wp
      go_simp
      refine hK1 _ _ (Below.refl _ _) ?_
      clear hK1 K1
      try simp only[Act.put,zwe,zwg,zwf]
      repeat(refine zab _ rfl (by rfl) (fun W hW=>by go_simp;first|done|rfl) ?_;try simp only[Act.put,zwe,zwg,zwf])
      refine zad rfl (by rfl) (fun K1 hK1=> ?_)
      unfold Oper.wp
      go_simp
      refine hK1 _ _ ((Below.refl _ _).setCell (p:=⟨w.heap.size,q,none⟩) (Nat.le_refl _) _) ?_
      clear hK1 K1 hc1 hc2 hf1 hf2
      refine zai ?_
      have O5:=zwd (HO2.out.set (Nat.le_refl _) q (l+z*256)).drew
      generalize hw5:(wr.setCell ⟨w.heap.size,q,none⟩ (.int .u32 (l+z*256))).drew=w5 at*
      clear hw5
      go_wp2_with fail
      go_roundw
      case rel=>exact⟨i+1,_,by go_num,by omega,O5.out,LN.out,by rw[List.length_set];exact HN.out,by rw[HL.out];exact SV.out⟩
      case measure=>simp only[intOf];exact zbm hiM
    · have kt:(i:Int).tmod 4=2:=by rw[Int.tmod_eq_emod_of_nonneg (by omega)];omega
      have kp:(256:Int)^2=65536:=by decide
      rw[kp]at SV
      rw[kp]at LOW
      have wz:IntKind.u32.wrap (z*65536)=z*65536:=IntWalk.u32_in _ (by omega)
      have wl:bits .or .u32 l (z*65536)=l+z*65536:=zm1 16 lr.1 (by omega) lr.2 (by omega) (by omega) (by omega)
      have w8:IntKind.i64.wrap 16=16:=by decide
      have LN:=zwd (LNf.out (l+z*65536) (by omega) (by omega))
      have hc2:wr.drew.cell? ⟨w.heap.size,q,none⟩=some (.int .u32 l):=hc1
      have hf2:wr.drew.frozen? ⟨w.heap.size,q,none⟩=false:=hf1
      clear kp r4 LNf LOW
      go_wp2_with fail
      refine zaa (Below w.heap.size) (Below.refl _) (fun _ _ _=>Below.trans) [(0,false),(1,false),(2,false),(3,false),(5,false),(6,false),(7,false),(8,false),(9,false),(4,true),(10,false),(11,false),(12,true)] (by kernel_rfl) (by kernel_rfl) rfl (by kernel_rfl) (fun _ _ _ _ _ h=>h) ?_
      repeat(refine zab _ rfl (by rfl) (fun W hW=>by go_simp;first|done|rfl) ?_;simp only[Act.put,zwe,zwg,zwf])
      refine zad rfl (by rfl) (fun K1 hK1=> ?_)
      unfold Oper.wp
      go_simp
      refine hK1 _ _ (Below.refl _ _) ?_
      clear hK1 K1
      try simp only[Act.put,zwe,zwg,zwf]
      repeat(refine zab _ rfl (by rfl) (fun W hW=>by go_simp;first|done|rfl) ?_;try simp only[Act.put,zwe,zwg,zwf])
      refine zad rfl (by rfl) (fun K1 hK1=> ?_)
      unfold Oper.wp
      go_simp
      refine hK1 _ _ ((Below.refl _ _).setCell (p:=⟨w.heap.size,q,none⟩) (Nat.le_refl _) _) ?_
      clear hK1 K1 hc1 hc2 hf1 hf2
      refine zai ?_
      have O5:=zwd (HO2.out.set (Nat.le_refl _) q (l+z*65536)).drew
      generalize hw5:(wr.setCell ⟨w.heap.size,q,none⟩ (.int .u32 (l+z*65536))).drew=w5 at*
      clear hw5
      go_wp2_with fail
      go_roundw
      case rel=>exact⟨i+1,_,by go_num,by omega,O5.out,LN.out,by rw[List.length_set];exact HN.out,by rw[HL.out];exact SV.out⟩
      case measure=>simp only[intOf];exact zbm hiM
    · have kt:(i:Int).tmod 4=3:=by rw[Int.tmod_eq_emod_of_nonneg (by omega)];omega
      have kp:(256:Int)^3=16777216:=by decide
      rw[kp]at SV
      rw[kp]at LOW
      have wz:IntKind.u32.wrap (z*16777216)=z*16777216:=IntWalk.u32_in _ (by omega)
      have wl:bits .or .u32 l (z*16777216)=l+z*16777216:=zm1 24 lr.1 (by omega) lr.2 (by omega) (by omega) (by omega)
      have w8:IntKind.i64.wrap 24=24:=by decide
      have LN:=zwd (LNf.out (l+z*16777216) (by omega) (by omega))
      have hc2:wr.drew.cell? ⟨w.heap.size,q,none⟩=some (.int .u32 l):=hc1
      have hf2:wr.drew.frozen? ⟨w.heap.size,q,none⟩=false:=hf1
      clear kp r4 LNf LOW
      go_wp2_with fail
      refine zaa (Below w.heap.size) (Below.refl _) (fun _ _ _=>Below.trans) [(0,false),(1,false),(2,false),(3,false),(5,false),(6,false),(7,false),(8,false),(9,false),(4,true),(10,false),(11,false),(12,true)] (by kernel_rfl) (by kernel_rfl) rfl (by kernel_rfl) (fun _ _ _ _ _ h=>h) ?_
      repeat(refine zab _ rfl (by rfl) (fun W hW=>by go_simp;first|done|rfl) ?_;simp only[Act.put,zwe,zwg,zwf])
      refine zad rfl (by rfl) (fun K1 hK1=> ?_)
      unfold Oper.wp
      go_simp
      refine hK1 _ _ (Below.refl _ _) ?_
      clear hK1 K1
      try simp only[Act.put,zwe,zwg,zwf]
      repeat(refine zab _ rfl (by rfl) (fun W hW=>by go_simp;first|done|rfl) ?_;try simp only[Act.put,zwe,zwg,zwf])
      refine zad rfl (by rfl) (fun K1 hK1=> ?_)
      unfold Oper.wp
      go_simp
      refine hK1 _ _ ((Below.refl _ _).setCell (p:=⟨w.heap.size,q,none⟩) (Nat.le_refl _) _) ?_
      clear hK1 K1 hc1 hc2 hf1 hf2
      refine zai ?_
      have O5:=zwd (HO2.out.set (Nat.le_refl _) q (l+z*16777216)).drew
      generalize hw5:(wr.setCell ⟨w.heap.size,q,none⟩ (.int .u32 (l+z*16777216))).drew=w5 at*
      clear hw5
      go_wp2_with fail
      go_roundw
      case rel=>exact⟨i+1,_,by go_num,by omega,O5.out,LN.out,by rw[List.length_set];exact HN.out,by rw[HL.out];exact SV.out⟩
      case measure=>simp only[intOf];exact zbm hiM
  · obtain rfl:i=n:=by omega
    have t1:decide ((i:Int)<(i:Int))=false:=decide_eq_false (by omega)
    have F:Hid (valZ L=beV zs):=zwd (by rw[HV.out,HL.out,Nat.sub_self,List.drop_zero])
    have R3:=(HO2.out.normed HLL.out).1
    have N3:=zwd (zbg (some ⟨w.heap.size,0,none⟩) N N L wr R3 (Nat.le_refl _) (by omega) (fun e=>by cases e))
    have G3:=zwd R3.norm
    rw[F.out]at N3 G3
    clear R3 HV F
    go_wp2_with fail
    refine N3.out.mono ?_
    rintro e w5 ⟨rfl,rfl⟩
    go_wp2_with fail
    go_ret
    exact⟨_,_,rfl,G3.out,(fun e=>by cases e),Nat.le_refl _,HO2.out.2⟩
end Go.Proofs.YtpgahclpbdpbnaaGreatDoor
