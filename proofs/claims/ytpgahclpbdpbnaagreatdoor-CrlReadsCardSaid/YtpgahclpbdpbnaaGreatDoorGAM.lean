import Derived.Test.YtpgahclpbdpbnaaGreatDoorGAL
import Derived.Test.YtpgahclpbdpbnaaGreatDoorGAJ
import Derived.Test.YtpgahclpbdpbnaaGreatDoorGAK
import Derived.ChangeKeysEq
set_option maxHeartbeats 4000000
set_option maxRecDepth 100000
namespace Go.Proofs.YtpgahclpbdpbnaaGreatDoor
open Go.RowKit
set_option linter.unusedVariables false
theorem zoi {y:Int} (h0:0<y) (h1:y<18446744073709551616):∃s:Nat,(64:Int)-(Lib.bitLen y.toNat:Int)=(s:Int)/\ s<=63/\ 9223372036854775808<=y*2^s/\ y*2^s<18446744073709551616:=by
 have e:=zkp y.toNat (by omega)
 have hy:y.toNat≠0:=by omega
 have b1:=zpP y.toNat
 have b2:=zsA hy
 have b3:=zgI hy
 have b4:=zea 64 y.toNat (by omega)
 obtain⟨t,ht⟩:∃t:Nat,bitN y.toNat=(t:Int)+1:=⟨(bitN y.toNat).toNat-1,by omega⟩
 rw[ht]at b1 b2 b4 e
 rw[show((t:Int)+1).toNat=t+1 by omega]at b1 b2
 rw[show t+1-1=t by omega]at b2
 obtain⟨Y,rfl⟩:∃Y:Nat,y=(Y:Int):=⟨y.toNat,by omega⟩
 rw[Int.toNat_natCast]at b1 b2 e
 have p:0<2^(63-t):=Nat.pow_pos (by decide)
 have c1:2^t*2^(63-t)=9223372036854775808:=by rw[<-Nat.pow_add,show t+(63-t)=63 by omega]
 have c2:=Nat.mul_le_mul_right (2^(63-t)) b2
 have c3:=Nat.mul_lt_mul_of_pos_right b1 p
 rw[c1]at c2
 rw[Nat.pow_succ,Nat.mul_right_comm,c1]at c3
 have e3:(Y:Int)*2^(63-t)=((Y*2^(63-t):Nat):Int):=by push_cast;rfl
 refine⟨63-t,by rw[Int.toNat_natCast];omega,by omega,by rw[e3];omega,by rw[e3];omega⟩
theorem zlZ {hi lo y:Int} (h0:0<hi) (h1:hi<y) (l0:0<=lo) (l1:lo<18446744073709551616) (y1:y<18446744073709551616):
 ∃(s m:Nat) (Y h l H U V u1 u0:Int),IntKind.u64.wrap (64-(Lib.bitLen y.toNat:Int))=(s:Int)/\ min s 64=s/\ IntKind.u64.wrap (y*2^s)=Y/\ Y/4294967296=h/\ bits .and .u64 Y 4294967295=l/\ IntKind.u64.wrap (hi*2^s)=H/\
   IntKind.u64.wrap (64-(s:Int))=(m:Int)/\ min m 64=m/\ bits .or .u64 H (lo/2^m)=U/\ IntKind.u64.wrap (lo*2^s)=V/\ V/4294967296=u1/\ bits .and .u64 V 4294967295=u0/\
   Y=h*4294967296+l/\ zhh U u1 h l/\ 0<=u0/\ u0<4294967296/\
   (U*4294967296+u1)/Y*4294967296+((U*4294967296+u1)%Y*4294967296+u0)/Y=(hi*18446744073709551616+lo)/y:=by
 obtain⟨s,hs,s63,Y0,Y1⟩:=zoi (y:=y) (by omega) y1
 have p1:(0:Int)<2^s:=Int.pow_pos (by decide)
 obtain⟨a0,a1,a2⟩:=zlY (hi:=hi) (s:=s) (by omega) l0 l1
 have hH:hi*2^s+2^s<=y*2^s:=by
  have:=Int.mul_le_mul_of_nonneg_right (show hi+1<=y by omega) (Int.le_of_lt p1)
  rw[Int.add_mul,Int.one_mul]at this
  exact this
 have H0:0<=hi*2^s:=Int.mul_nonneg (by omega) (by omega)
 have V0:0<=lo*2^s%18446744073709551616:=Int.emod_nonneg _ (by omega)
 have V1:lo*2^s%18446744073709551616<18446744073709551616:=Int.emod_lt_of_pos _ (by omega)
 have hA:=zvv (A:=(hi*18446744073709551616+lo)*2^s) (Y:=y*2^s) (U:=hi*2^s+lo/2^(64-s)) (u1:=lo*2^s%18446744073709551616/4294967296) (u0:=lo*2^s%18446744073709551616%4294967296) (by omega) (by rw[a2];omega)
 rw[Int.mul_ediv_mul_of_pos_left _ _ p1]at hA
 refine⟨s,64-s,y*2^s,_,y*2^s%4294967296,hi*2^s,hi*2^s+lo/2^(64-s),lo*2^s%18446744073709551616,_,lo*2^s%18446744073709551616%4294967296,?_,by omega,IntWalk.u64_in _ (by omega),rfl,zvx (by omega) Y1,IntWalk.u64_in _ (by omega),?_,by omega,?_,rfl,rfl,zvx V0 V1,by omega,⟨by omega,by omega,by omega,by omega,by omega,by omega,by omega,by omega⟩,by omega,by omega,hA⟩
 · rw[hs]
   exact IntWalk.u64_in _ (by omega)
 · rw[show(64:Int)-(s:Int)=((64-s:Nat):Int)by omega]
   exact IntWalk.u64_in _ (by omega)
 · exact zuw s (by omega) a0 a1 (by omega)
theorem zpY (lo y:Int) (w:World) (l0:0<=lo) (l1:lo<18446744073709551616) (y0:0<y) (y1:y<18446744073709551616):
 Calls Tryz.prog 233 #[.int .u64 0,.int .u64 lo,.int .u64 y] w fun e w'=>∃n,w'=w.drewN n/\ ∃r,e= .returned (.tuple #[.int .u64 (lo/y),.int .u64 r]):=by
 have t1:(y==0)=false:=by simp;omega
 have t2:decide (y<=0)=false:=by simp;omega
 have ne:¬y=0:=by omega
 have Q0:0<=lo/y:=Int.ediv_nonneg l0 (by omega)
 have Q1:lo/y<=lo:=Int.ediv_le_self y l0
 have e1:lo.tdiv y=lo/y:=Int.tdiv_eq_ediv_of_nonneg l0
 have k1:IntKind.u64.wrap (lo/y)=lo/y:=IntWalk.u64_in _ (by omega)
 go_enter Tryz.func233,Tryz.ntmps233
 go_wp2_with fail
 go_quiet (fail)
 go_wp2_with fail
 go_ret2
 exact⟨nq,rfl,_,rfl⟩
theorem zpZ (hi lo y:Int) (w:World) (h0:0<hi) (h1:hi<y) (l0:0<=lo) (l1:lo<18446744073709551616) (y1:y<18446744073709551616):
 Calls Tryz.prog 233 #[.int .u64 hi,.int .u64 lo,.int .u64 y] w fun e w'=>w'=w/\ ∃r,e= .returned (.tuple #[.int .u64 ((hi*18446744073709551616+lo)/y),.int .u64 r]):=by
 have t1:(y==0)=false:=by simp;omega
 have t2:decide (y<=hi)=false:=by simp;omega
 have t3:(hi==0)=false:=by simp;omega
 have LZ:=zwd (Tryz.bits_LeadingZeros64 y w (by omega) (by omega))
 obtain⟨s,m,Y,h,l,H,U,V,u1,u0,f1,f2,f3,f4,f5,f6,f7,f8,f9,f10,f11,f12,hY,HI,u00,u01,hF⟩:=zlZ h0 h1 l0 l1 y1
 obtain⟨HS,hs2,r00,r01,q00⟩:=ziE HI
 have HR:=zku HI
 have HR2:=zdu HI HS
 rw[<-hY]at HR
 have HIN:=zwd HI
 obtain⟨g0,g1,g2,g3,g4,g5,g6,g7⟩:=HI
 have HF:=zwd hF
 have HYY:=zwd hY
 have n1:¬h=0:=by omega
 have d1:U.tdiv h=U/h:=Int.tdiv_eq_ediv_of_nonneg g4
 generalize U/h=q at*
 generalize U%h=r at*
 have HSH:=zwd HS
 obtain⟨P,hP⟩:∃P,q*h=P:=⟨_,rfl⟩
 have P0:0<=P:=by rw[<-hP];exact Int.mul_nonneg q00 (by omega)
 have d2:IntKind.u64.wrap q=q:=IntWalk.u64_in _ (by omega)
 have d3:IntKind.u64.wrap (q*h)=P:=by rw[hP];exact IntWalk.u64_in _ (by omega)
 have d4:IntKind.u64.wrap (U-P)=r:=by rw[show U-P=r by omega];exact IntWalk.u64_in _ (by omega)
 generalize Lib.bitLen y.toNat=B at*
 generalize(hi*18446744073709551616+lo)/y=A at*
 generalize hQ1:(U*4294967296+u1)/Y=Q1 at*
 generalize hR1:(U*4294967296+u1)%Y=R1 at*
 have HQ1:=zwd hQ1
 obtain⟨Q10,Q11,R10,R11,hT⟩:=HR
 have HI2:zhh R1 u0 h l:=⟨g0,g1,g2,g3,by omega,by omega,by omega,by omega⟩
 obtain⟨HS2,hs3,r20,r21,q20⟩:=ziE HI2
 have HR3:=zdu HI2 HS2
 have HR4:=zku HI2
 rw[<-hY]at HR4
 have HIN2:=zwd HI2
 have c5h:Hid (R1.tdiv h=R1/h):=zwd (Int.tdiv_eq_ediv_of_nonneg (by omega))
 generalize R1/h=q2 at*
 generalize R1%h=r2 at*
 have HSH2:=zwd HS2
 obtain⟨P2,hP2⟩:∃P,q2*h=P:=⟨_,rfl⟩
 have P20:0<=P2:=by rw[<-hP2];exact Int.mul_nonneg q20 (by omega)
 have c6h:Hid (IntKind.u64.wrap q2=q2):=zwd (IntWalk.u64_in _ (by omega))
 have c7h:Hid (IntKind.u64.wrap (q2*h)=P2):=zwd (by rw[hP2];exact IntWalk.u64_in _ (by omega))
 have c8h:Hid (IntKind.u64.wrap (R1-P2)=r2):=zwd (by rw[show R1-P2=r2 by omega];exact IntWalk.u64_in _ (by omega))
 obtain⟨M1,hM1⟩:∃M,U*4294967296%18446744073709551616=M:=⟨_,rfl⟩
 obtain⟨M2,hM2⟩:∃M,(M1+u1)%18446744073709551616=M:=⟨_,rfl⟩
 obtain⟨M3,hM3⟩:∃M,Q1*Y%18446744073709551616=M:=⟨_,rfl⟩
 have c1h:Hid (IntKind.u64.wrap (U*4294967296)=M1):=zwd hM1
 have c2h:Hid (IntKind.u64.wrap (M1+u1)=M2):=zwd hM2
 have c3h:Hid (IntKind.u64.wrap (Q1*Y)=M3):=zwd hM3
 have c4h:Hid (IntKind.u64.wrap (M2-M3)=R1):=zwd (by
  show(M2-M3)%18446744073709551616=R1
  generalize Q1*Y=T at*
  omega)
 clear hM1 hM2 hM3
 generalize hQ2:(R1*4294967296+u0)/Y=Q2 at*
 have HQ2:=zwd hQ2
 obtain⟨Q20,Q21,_,_,_⟩:=HR4
 clear hQ1 hR1 hQ2 hY hF HI2 HS HS2 hP hP2 hs2 hs3 hT
 go_enter Tryz.func233,Tryz.ntmps233
 go_wp2_with (go_at_call 237;refine LZ.out.mono ?_;rintro e w' ⟨rfl,rfl⟩)
 go_loopw [15,16] (fun qV rV wr=>wr=w'/\ ∃(q r:Int),qV= .int .u64 q/\ rV= .int .u64 r/\ Half U u1 h l q r/\ r<4294967296) (fun qV _ _=>(intOf qV).toNat)
 case atStart=>exact⟨rfl,q,r,rfl,rfl,HSH.out,by omega⟩
 case round=>
  clear HSH d1 d2 d3 d4 r00 r01 q00 HR2
  obtain⟨rfl,qa,ra,rfl,rfl,hh,ra1⟩:=hrel
  have HH:=zwd hh
  have HRA:=zdu HIN.out hh
  have ra0:=hh.2.1
  have qa0:=hh.2.2.1
  clear hh
  by_cases hc1:4294967296<=qa
  · have e1:decide (4294967296<=qa)=true:=decide_eq_true hc1
    have e1g:decide (qa>=4294967296)=true:=decide_eq_true hc1
    have HL:=zwd (zdi HIN.out HH.out (.inl hc1))
    have k2:IntKind.u64.wrap (ra+h)=ra+h:=IntWalk.u64_in _ (by omega)
    by_cases hb:4294967296<=ra+h
    · have e3:decide (4294967296<=ra+h)=true:=decide_eq_true hb
      have e4:decide (ra+h>=4294967296)=true:=decide_eq_true hb
      have k1:IntKind.u64.wrap (qa-1)=Q1:=by
       have:=zcb HIN.out HL.out.1 (.inr hb)
       rw[<-HYY.out,HQ1.out]at this
       rw[this]
       exact IntWalk.u64_in _ (by omega)
      clear HL HH
      have c1:IntKind.u64.wrap (U*4294967296)=M1:=c1h.out
      have c2:IntKind.u64.wrap (M1+u1)=M2:=c2h.out
      have c3:IntKind.u64.wrap (Q1*Y)=M3:=c3h.out
      have c4:IntKind.u64.wrap (M2-M3)=R1:=c4h.out
      have c5:R1.tdiv h=q2:=c5h.out
      have c6:IntKind.u64.wrap q2=q2:=c6h.out
      have c7:IntKind.u64.wrap (q2*h)=P2:=c7h.out
      have c8:IntKind.u64.wrap (R1-P2)=r2:=c8h.out
      go_wp2_with fail
      go_loopw [18,16] (fun qV rV w2=>w2=wr/\ ∃(q r:Int),qV= .int .u64 q/\ rV= .int .u64 r/\ Half R1 u0 h l q r/\ r<4294967296) (fun qV _ _=>(intOf qV).toNat)
      case atStart=>exact⟨rfl,q2,r2,rfl,rfl,HSH2.out,by omega⟩
      case round=>
       clear c1 c2 c3 c4 c5 c6 c7 c8
       obtain⟨rfl,qb,rb,rfl,rfl,hh2,rb1⟩:=hrel
       have HH:=zwd hh2
       have HRB:=zdu HIN2.out hh2
       have rb0:=hh2.2.1
       have qb0:=hh2.2.2.1
       clear hh2
       by_cases hc1:4294967296<=qb
       · have e1:decide (4294967296<=qb)=true:=decide_eq_true hc1
         have e1g:decide (qb>=4294967296)=true:=decide_eq_true hc1
         have HL:=zwd (zdi HIN2.out HH.out (.inl hc1))
         have k2:IntKind.u64.wrap (rb+h)=rb+h:=IntWalk.u64_in _ (by omega)
         by_cases hb:4294967296<=rb+h
         · have e3:decide (4294967296<=rb+h)=true:=decide_eq_true hb
           have e4:decide (rb+h>=4294967296)=true:=decide_eq_true hb
           have k1:IntKind.u64.wrap (qb-1)=Q2:=by
            have:=zcb HIN2.out HL.out.1 (.inr hb)
            rw[<-HYY.out,HQ2.out]at this
            rw[this]
            exact IntWalk.u64_in _ (by omega)
           clear HL HH
           have z1:IntKind.u64.wrap (Q1*4294967296)=Q1*4294967296:=IntWalk.u64_in _ (by omega)
           have z2:IntKind.u64.wrap (Q1*4294967296+Q2)=A:=by rw[HF.out];exact IntWalk.u64_in _ (by have:=HF.out;omega)
           go_wp2_with fail
           go_ret2
           exact⟨rfl,_,rfl⟩
         · have e3:decide (4294967296<=rb+h)=false:=decide_eq_false hb
           have e4:decide (rb+h>=4294967296)=false:=decide_eq_false hb
           have k1:IntKind.u64.wrap (qb-1)=qb-1:=IntWalk.u64_in _ (by omega)
           go_wp2_with fail
           go_roundw
           case rel=>exact⟨trivial,_,_,rfl,rfl,HL.out.1,by omega⟩
           case measure=>simp only[intOf];omega
       · have e1:decide (4294967296<=qb)=false:=decide_eq_false hc1
         have e1g:decide (qb>=4294967296)=false:=decide_eq_false hc1
         have PR:=zfr qb0 (by omega) g2 g3
         by_cases hc2:rb*4294967296+u0<qb*l
         · have HL0:=zdi HIN2.out HH.out (.inr hc2)
           obtain⟨pq,hpq⟩:∃pq,qb*l=pq:=⟨_,rfl⟩
           rw[hpq]at hc2 PR
           have m1:IntKind.u64.wrap (qb*l)=pq:=by rw[hpq];exact IntWalk.u64_in _ (by omega)
           have m2:IntKind.u64.wrap (4294967296*rb)=rb*4294967296:=by rw[Int.mul_comm];exact IntWalk.u64_in _ (by omega)
           have m3:IntKind.u64.wrap (rb*4294967296+u0)=rb*4294967296+u0:=IntWalk.u64_in _ (by omega)
           have e2:decide (rb*4294967296+u0<pq)=true:=decide_eq_true hc2
           have e2g:decide (pq>rb*4294967296+u0)=true:=decide_eq_true hc2
           clear hpq
           have HL:=zwd HL0
           have k2:IntKind.u64.wrap (rb+h)=rb+h:=IntWalk.u64_in _ (by omega)
           by_cases hb:4294967296<=rb+h
           · have e3:decide (4294967296<=rb+h)=true:=decide_eq_true hb
             have e4:decide (rb+h>=4294967296)=true:=decide_eq_true hb
             have k1:IntKind.u64.wrap (qb-1)=Q2:=by
              have:=zcb HIN2.out HL.out.1 (.inr hb)
              rw[<-HYY.out,HQ2.out]at this
              rw[this]
              exact IntWalk.u64_in _ (by omega)
             clear HL HH
             have z1:IntKind.u64.wrap (Q1*4294967296)=Q1*4294967296:=IntWalk.u64_in _ (by omega)
             have z2:IntKind.u64.wrap (Q1*4294967296+Q2)=A:=by rw[HF.out];exact IntWalk.u64_in _ (by have:=HF.out;omega)
             go_wp2_with fail
             go_ret2
             exact⟨rfl,_,rfl⟩
           · have e3:decide (4294967296<=rb+h)=false:=decide_eq_false hb
             have e4:decide (rb+h>=4294967296)=false:=decide_eq_false hb
             have k1:IntKind.u64.wrap (qb-1)=qb-1:=IntWalk.u64_in _ (by omega)
             go_wp2_with fail
             go_roundw
             case rel=>exact⟨trivial,_,_,rfl,rfl,HL.out.1,by omega⟩
             case measure=>simp only[intOf];omega
         · have EQ:=zcb HIN2.out HH.out (.inl ⟨by omega,by omega⟩)
           rw[<-HYY.out,HQ2.out]at EQ
           obtain⟨pq,hpq⟩:∃pq,qb*l=pq:=⟨_,rfl⟩
           rw[hpq]at hc2 PR
           have m1:IntKind.u64.wrap (qb*l)=pq:=by rw[hpq];exact IntWalk.u64_in _ (by omega)
           have m2:IntKind.u64.wrap (4294967296*rb)=rb*4294967296:=by rw[Int.mul_comm];exact IntWalk.u64_in _ (by omega)
           have m3:IntKind.u64.wrap (rb*4294967296+u0)=rb*4294967296+u0:=IntWalk.u64_in _ (by omega)
           have e2:decide (rb*4294967296+u0<pq)=false:=decide_eq_false hc2
           have e2g:decide (pq>rb*4294967296+u0)=false:=decide_eq_false hc2
           have EQ2:=EQ.symm
           clear EQ
           subst EQ2
           clear hpq HH
           have z1:IntKind.u64.wrap (Q1*4294967296)=Q1*4294967296:=IntWalk.u64_in _ (by omega)
           have z2:IntKind.u64.wrap (Q1*4294967296+Q2)=A:=by rw[HF.out];exact IntWalk.u64_in _ (by have:=HF.out;omega)
           go_wp2_with fail
           go_ret2
           exact⟨rfl,_,rfl⟩
    · have e3:decide (4294967296<=ra+h)=false:=decide_eq_false hb
      have e4:decide (ra+h>=4294967296)=false:=decide_eq_false hb
      have k1:IntKind.u64.wrap (qa-1)=qa-1:=IntWalk.u64_in _ (by omega)
      go_wp2_with fail
      go_roundw
      case rel=>exact⟨trivial,_,_,rfl,rfl,HL.out.1,by omega⟩
      case measure=>simp only[intOf];omega
  · have e1:decide (4294967296<=qa)=false:=decide_eq_false hc1
    have e1g:decide (qa>=4294967296)=false:=decide_eq_false hc1
    have PR:=zfr qa0 (by omega) g2 g3
    by_cases hc2:ra*4294967296+u1<qa*l
    · have HL0:=zdi HIN.out HH.out (.inr hc2)
      obtain⟨pq,hpq⟩:∃pq,qa*l=pq:=⟨_,rfl⟩
      rw[hpq]at hc2 PR
      have m1:IntKind.u64.wrap (qa*l)=pq:=by rw[hpq];exact IntWalk.u64_in _ (by omega)
      have m2:IntKind.u64.wrap (4294967296*ra)=ra*4294967296:=by rw[Int.mul_comm];exact IntWalk.u64_in _ (by omega)
      have m3:IntKind.u64.wrap (ra*4294967296+u1)=ra*4294967296+u1:=IntWalk.u64_in _ (by omega)
      have e2:decide (ra*4294967296+u1<pq)=true:=decide_eq_true hc2
      have e2g:decide (pq>ra*4294967296+u1)=true:=decide_eq_true hc2
      clear hpq
      have HL:=zwd HL0
      have k2:IntKind.u64.wrap (ra+h)=ra+h:=IntWalk.u64_in _ (by omega)
      by_cases hb:4294967296<=ra+h
      · have e3:decide (4294967296<=ra+h)=true:=decide_eq_true hb
        have e4:decide (ra+h>=4294967296)=true:=decide_eq_true hb
        have k1:IntKind.u64.wrap (qa-1)=Q1:=by
         have:=zcb HIN.out HL.out.1 (.inr hb)
         rw[<-HYY.out,HQ1.out]at this
         rw[this]
         exact IntWalk.u64_in _ (by omega)
        clear HL HH
        have c1:IntKind.u64.wrap (U*4294967296)=M1:=c1h.out
        have c2:IntKind.u64.wrap (M1+u1)=M2:=c2h.out
        have c3:IntKind.u64.wrap (Q1*Y)=M3:=c3h.out
        have c4:IntKind.u64.wrap (M2-M3)=R1:=c4h.out
        have c5:R1.tdiv h=q2:=c5h.out
        have c6:IntKind.u64.wrap q2=q2:=c6h.out
        have c7:IntKind.u64.wrap (q2*h)=P2:=c7h.out
        have c8:IntKind.u64.wrap (R1-P2)=r2:=c8h.out
        go_wp2_with fail
        go_loopw [18,16] (fun qV rV w2=>w2=wr/\ ∃(q r:Int),qV= .int .u64 q/\ rV= .int .u64 r/\ Half R1 u0 h l q r/\ r<4294967296) (fun qV _ _=>(intOf qV).toNat)
        case atStart=>exact⟨rfl,q2,r2,rfl,rfl,HSH2.out,by omega⟩
        case round=>
         clear c1 c2 c3 c4 c5 c6 c7 c8
         obtain⟨rfl,qb,rb,rfl,rfl,hh2,rb1⟩:=hrel
         have HH:=zwd hh2
         have HRB:=zdu HIN2.out hh2
         have rb0:=hh2.2.1
         have qb0:=hh2.2.2.1
         clear hh2
         by_cases hc1:4294967296<=qb
         · have e1:decide (4294967296<=qb)=true:=decide_eq_true hc1
           have e1g:decide (qb>=4294967296)=true:=decide_eq_true hc1
           have HL:=zwd (zdi HIN2.out HH.out (.inl hc1))
           have k2:IntKind.u64.wrap (rb+h)=rb+h:=IntWalk.u64_in _ (by omega)
           by_cases hb:4294967296<=rb+h
           · have e3:decide (4294967296<=rb+h)=true:=decide_eq_true hb
             have e4:decide (rb+h>=4294967296)=true:=decide_eq_true hb
             have k1:IntKind.u64.wrap (qb-1)=Q2:=by
              have:=zcb HIN2.out HL.out.1 (.inr hb)
              rw[<-HYY.out,HQ2.out]at this
              rw[this]
              exact IntWalk.u64_in _ (by omega)
             clear HL HH
             have z1:IntKind.u64.wrap (Q1*4294967296)=Q1*4294967296:=IntWalk.u64_in _ (by omega)
             have z2:IntKind.u64.wrap (Q1*4294967296+Q2)=A:=by rw[HF.out];exact IntWalk.u64_in _ (by have:=HF.out;omega)
             go_wp2_with fail
             go_ret2
             exact⟨rfl,_,rfl⟩
           · have e3:decide (4294967296<=rb+h)=false:=decide_eq_false hb
             have e4:decide (rb+h>=4294967296)=false:=decide_eq_false hb
             have k1:IntKind.u64.wrap (qb-1)=qb-1:=IntWalk.u64_in _ (by omega)
             go_wp2_with fail
             go_roundw
             case rel=>exact⟨trivial,_,_,rfl,rfl,HL.out.1,by omega⟩
             case measure=>simp only[intOf];omega
         · have e1:decide (4294967296<=qb)=false:=decide_eq_false hc1
           have e1g:decide (qb>=4294967296)=false:=decide_eq_false hc1
           have PR:=zfr qb0 (by omega) g2 g3
           by_cases hc2:rb*4294967296+u0<qb*l
           · have HL0:=zdi HIN2.out HH.out (.inr hc2)
             obtain⟨pq,hpq⟩:∃pq,qb*l=pq:=⟨_,rfl⟩
             rw[hpq]at hc2 PR
             have m1:IntKind.u64.wrap (qb*l)=pq:=by rw[hpq];exact IntWalk.u64_in _ (by omega)
             have m2:IntKind.u64.wrap (4294967296*rb)=rb*4294967296:=by rw[Int.mul_comm];exact IntWalk.u64_in _ (by omega)
             have m3:IntKind.u64.wrap (rb*4294967296+u0)=rb*4294967296+u0:=IntWalk.u64_in _ (by omega)
             have e2:decide (rb*4294967296+u0<pq)=true:=decide_eq_true hc2
             have e2g:decide (pq>rb*4294967296+u0)=true:=decide_eq_true hc2
             clear hpq
             have HL:=zwd HL0
             have k2:IntKind.u64.wrap (rb+h)=rb+h:=IntWalk.u64_in _ (by omega)
             by_cases hb:4294967296<=rb+h
             · have e3:decide (4294967296<=rb+h)=true:=decide_eq_true hb
               have e4:decide (rb+h>=4294967296)=true:=decide_eq_true hb
               have k1:IntKind.u64.wrap (qb-1)=Q2:=by
                have:=zcb HIN2.out HL.out.1 (.inr hb)
                rw[<-HYY.out,HQ2.out]at this
                rw[this]
                exact IntWalk.u64_in _ (by omega)
               clear HL HH
               have z1:IntKind.u64.wrap (Q1*4294967296)=Q1*4294967296:=IntWalk.u64_in _ (by omega)
               have z2:IntKind.u64.wrap (Q1*4294967296+Q2)=A:=by rw[HF.out];exact IntWalk.u64_in _ (by have:=HF.out;omega)
               go_wp2_with fail
               go_ret2
               exact⟨rfl,_,rfl⟩
             · have e3:decide (4294967296<=rb+h)=false:=decide_eq_false hb
               have e4:decide (rb+h>=4294967296)=false:=decide_eq_false hb
               have k1:IntKind.u64.wrap (qb-1)=qb-1:=IntWalk.u64_in _ (by omega)
               go_wp2_with fail
               go_roundw
               case rel=>exact⟨trivial,_,_,rfl,rfl,HL.out.1,by omega⟩
               case measure=>simp only[intOf];omega
           · have EQ:=zcb HIN2.out HH.out (.inl ⟨by omega,by omega⟩)
             rw[<-HYY.out,HQ2.out]at EQ
             obtain⟨pq,hpq⟩:∃pq,qb*l=pq:=⟨_,rfl⟩
             rw[hpq]at hc2 PR
             have m1:IntKind.u64.wrap (qb*l)=pq:=by rw[hpq];exact IntWalk.u64_in _ (by omega)
             have m2:IntKind.u64.wrap (4294967296*rb)=rb*4294967296:=by rw[Int.mul_comm];exact IntWalk.u64_in _ (by omega)
             have m3:IntKind.u64.wrap (rb*4294967296+u0)=rb*4294967296+u0:=IntWalk.u64_in _ (by omega)
             have e2:decide (rb*4294967296+u0<pq)=false:=decide_eq_false hc2
             have e2g:decide (pq>rb*4294967296+u0)=false:=decide_eq_false hc2
             have EQ2:=EQ.symm
             clear EQ
             subst EQ2
             clear hpq HH
             have z1:IntKind.u64.wrap (Q1*4294967296)=Q1*4294967296:=IntWalk.u64_in _ (by omega)
             have z2:IntKind.u64.wrap (Q1*4294967296+Q2)=A:=by rw[HF.out];exact IntWalk.u64_in _ (by have:=HF.out;omega)
             go_wp2_with fail
             go_ret2
             exact⟨rfl,_,rfl⟩
      · have e3:decide (4294967296<=ra+h)=false:=decide_eq_false hb
        have e4:decide (ra+h>=4294967296)=false:=decide_eq_false hb
        have k1:IntKind.u64.wrap (qa-1)=qa-1:=IntWalk.u64_in _ (by omega)
        go_wp2_with fail
        go_roundw
        case rel=>exact⟨trivial,_,_,rfl,rfl,HL.out.1,by omega⟩
        case measure=>simp only[intOf];omega
    · have EQ:=zcb HIN.out HH.out (.inl ⟨by omega,by omega⟩)
      rw[<-HYY.out,HQ1.out]at EQ
      obtain⟨pq,hpq⟩:∃pq,qa*l=pq:=⟨_,rfl⟩
      rw[hpq]at hc2 PR
      have m1:IntKind.u64.wrap (qa*l)=pq:=by rw[hpq];exact IntWalk.u64_in _ (by omega)
      have m2:IntKind.u64.wrap (4294967296*ra)=ra*4294967296:=by rw[Int.mul_comm];exact IntWalk.u64_in _ (by omega)
      have m3:IntKind.u64.wrap (ra*4294967296+u1)=ra*4294967296+u1:=IntWalk.u64_in _ (by omega)
      have e2:decide (ra*4294967296+u1<pq)=false:=decide_eq_false hc2
      have e2g:decide (pq>ra*4294967296+u1)=false:=decide_eq_false hc2
      have EQ2:=EQ.symm
      clear EQ
      subst EQ2
      clear hpq HH
      have c1:IntKind.u64.wrap (U*4294967296)=M1:=c1h.out
      have c2:IntKind.u64.wrap (M1+u1)=M2:=c2h.out
      have c3:IntKind.u64.wrap (Q1*Y)=M3:=c3h.out
      have c4:IntKind.u64.wrap (M2-M3)=R1:=c4h.out
      have c5:R1.tdiv h=q2:=c5h.out
      have c6:IntKind.u64.wrap q2=q2:=c6h.out
      have c7:IntKind.u64.wrap (q2*h)=P2:=c7h.out
      have c8:IntKind.u64.wrap (R1-P2)=r2:=c8h.out
      go_wp2_with fail
      go_loopw [18,16] (fun qV rV w2=>w2=wr/\ ∃(q r:Int),qV= .int .u64 q/\ rV= .int .u64 r/\ Half R1 u0 h l q r/\ r<4294967296) (fun qV _ _=>(intOf qV).toNat)
      case atStart=>exact⟨rfl,q2,r2,rfl,rfl,HSH2.out,by omega⟩
      case round=>
       clear c1 c2 c3 c4 c5 c6 c7 c8
       obtain⟨rfl,qb,rb,rfl,rfl,hh2,rb1⟩:=hrel
       have HH:=zwd hh2
       have HRB:=zdu HIN2.out hh2
       have rb0:=hh2.2.1
       have qb0:=hh2.2.2.1
       clear hh2
       by_cases hc1:4294967296<=qb
       · have e1:decide (4294967296<=qb)=true:=decide_eq_true hc1
         have e1g:decide (qb>=4294967296)=true:=decide_eq_true hc1
         have HL:=zwd (zdi HIN2.out HH.out (.inl hc1))
         have k2:IntKind.u64.wrap (rb+h)=rb+h:=IntWalk.u64_in _ (by omega)
         by_cases hb:4294967296<=rb+h
         · have e3:decide (4294967296<=rb+h)=true:=decide_eq_true hb
           have e4:decide (rb+h>=4294967296)=true:=decide_eq_true hb
           have k1:IntKind.u64.wrap (qb-1)=Q2:=by
            have:=zcb HIN2.out HL.out.1 (.inr hb)
            rw[<-HYY.out,HQ2.out]at this
            rw[this]
            exact IntWalk.u64_in _ (by omega)
           clear HL HH
           have z1:IntKind.u64.wrap (Q1*4294967296)=Q1*4294967296:=IntWalk.u64_in _ (by omega)
           have z2:IntKind.u64.wrap (Q1*4294967296+Q2)=A:=by rw[HF.out];exact IntWalk.u64_in _ (by have:=HF.out;omega)
           go_wp2_with fail
           go_ret2
           exact⟨rfl,_,rfl⟩
         · have e3:decide (4294967296<=rb+h)=false:=decide_eq_false hb
           have e4:decide (rb+h>=4294967296)=false:=decide_eq_false hb
           have k1:IntKind.u64.wrap (qb-1)=qb-1:=IntWalk.u64_in _ (by omega)
           go_wp2_with fail
           go_roundw
           case rel=>exact⟨trivial,_,_,rfl,rfl,HL.out.1,by omega⟩
           case measure=>simp only[intOf];omega
       · have e1:decide (4294967296<=qb)=false:=decide_eq_false hc1
         have e1g:decide (qb>=4294967296)=false:=decide_eq_false hc1
         have PR:=zfr qb0 (by omega) g2 g3
         by_cases hc2:rb*4294967296+u0<qb*l
         · have HL0:=zdi HIN2.out HH.out (.inr hc2)
           obtain⟨pq,hpq⟩:∃pq,qb*l=pq:=⟨_,rfl⟩
           rw[hpq]at hc2 PR
           have m1:IntKind.u64.wrap (qb*l)=pq:=by rw[hpq];exact IntWalk.u64_in _ (by omega)
           have m2:IntKind.u64.wrap (4294967296*rb)=rb*4294967296:=by rw[Int.mul_comm];exact IntWalk.u64_in _ (by omega)
           have m3:IntKind.u64.wrap (rb*4294967296+u0)=rb*4294967296+u0:=IntWalk.u64_in _ (by omega)
           have e2:decide (rb*4294967296+u0<pq)=true:=decide_eq_true hc2
           have e2g:decide (pq>rb*4294967296+u0)=true:=decide_eq_true hc2
           clear hpq
           have HL:=zwd HL0
           have k2:IntKind.u64.wrap (rb+h)=rb+h:=IntWalk.u64_in _ (by omega)
           by_cases hb:4294967296<=rb+h
           · have e3:decide (4294967296<=rb+h)=true:=decide_eq_true hb
             have e4:decide (rb+h>=4294967296)=true:=decide_eq_true hb
             have k1:IntKind.u64.wrap (qb-1)=Q2:=by
              have:=zcb HIN2.out HL.out.1 (.inr hb)
              rw[<-HYY.out,HQ2.out]at this
              rw[this]
              exact IntWalk.u64_in _ (by omega)
             clear HL HH
             have z1:IntKind.u64.wrap (Q1*4294967296)=Q1*4294967296:=IntWalk.u64_in _ (by omega)
             have z2:IntKind.u64.wrap (Q1*4294967296+Q2)=A:=by rw[HF.out];exact IntWalk.u64_in _ (by have:=HF.out;omega)
             go_wp2_with fail
             go_ret2
             exact⟨rfl,_,rfl⟩
           · have e3:decide (4294967296<=rb+h)=false:=decide_eq_false hb
             have e4:decide (rb+h>=4294967296)=false:=decide_eq_false hb
             have k1:IntKind.u64.wrap (qb-1)=qb-1:=IntWalk.u64_in _ (by omega)
             go_wp2_with fail
             go_roundw
             case rel=>exact⟨trivial,_,_,rfl,rfl,HL.out.1,by omega⟩
             case measure=>simp only[intOf];omega
         · have EQ:=zcb HIN2.out HH.out (.inl ⟨by omega,by omega⟩)
           rw[<-HYY.out,HQ2.out]at EQ
           obtain⟨pq,hpq⟩:∃pq,qb*l=pq:=⟨_,rfl⟩
           rw[hpq]at hc2 PR
           have m1:IntKind.u64.wrap (qb*l)=pq:=by rw[hpq];exact IntWalk.u64_in _ (by omega)
           have m2:IntKind.u64.wrap (4294967296*rb)=rb*4294967296:=by rw[Int.mul_comm];exact IntWalk.u64_in _ (by omega)
           have m3:IntKind.u64.wrap (rb*4294967296+u0)=rb*4294967296+u0:=IntWalk.u64_in _ (by omega)
           have e2:decide (rb*4294967296+u0<pq)=false:=decide_eq_false hc2
           have e2g:decide (pq>rb*4294967296+u0)=false:=decide_eq_false hc2
           have EQ2:=EQ.symm
           clear EQ
           subst EQ2
           clear hpq HH
           have z1:IntKind.u64.wrap (Q1*4294967296)=Q1*4294967296:=IntWalk.u64_in _ (by omega)
           have z2:IntKind.u64.wrap (Q1*4294967296+Q2)=A:=by rw[HF.out];exact IntWalk.u64_in _ (by have:=HF.out;omega)
           go_wp2_with fail
           go_ret2
           exact⟨rfl,_,rfl⟩
theorem ziF (x y:Int) (w:World) (x0:0<=x) (x1:x<=4294967295) (y0:0<=y) (y1:y<=4294967295):
 Calls Tryz.prog 234 #[.int .u32 x,.int .u32 y] w fun e w'=>e= .returned (.int .u64 (x*4294967296+y))/\ w'=w:=by
 have k1:IntKind.u64.wrap x=x:=IntWalk.u64_in _ (by omega)
 have k2:IntKind.u64.wrap y=y:=IntWalk.u64_in _ (by omega)
 have k3:IntKind.u64.wrap (x*4294967296)=x*4294967296:=IntWalk.u64_in _ (by omega)
 have k4:bits .or .u64 (x*4294967296) y=x*4294967296+y:=zuw (x:=x) (b:=y) 32 x0 y0 (by omega) (by omega)
 go_enter Tryz.func234,Tryz.ntmps234
 go_wp2_with fail
 go_ret
 exact⟨rfl,rfl⟩
theorem zkw (hi lo m:Int) (w:World) (h0:0<=hi) (h1:hi<m) (l0:0<=lo) (l1:lo<=4294967295) (m1:m<=4294967295):
 Calls Tryz.prog 220 #[.int .u32 hi,.int .u32 lo,.int .u32 m] w fun e w'=>e= .returned (.tuple #[.int .u32 ((hi*4294967296+lo)/m),.int .u32 ((hi*4294967296+lo)%m)])/\ Below w.heap.size w w':=by
 have t1:(m !=0)=true:=by simp;omega
 have t2:decide (m<=hi)=false:=by simp;omega
 have ne:¬m=0:=by omega
 have k1:IntKind.u64.wrap hi=hi:=IntWalk.u64_in _ (by omega)
 have k2:IntKind.u64.wrap lo=lo:=IntWalk.u64_in _ (by omega)
 have k3:IntKind.u64.wrap (hi*4294967296)=hi*4294967296:=IntWalk.u64_in _ (by omega)
 have k4:bits .or .u64 (hi*4294967296) lo=hi*4294967296+lo:=zuw (x:=hi) (b:=lo) 32 h0 l0 (by omega) (by omega)
 have k5:IntKind.u64.wrap m=m:=IntWalk.u64_in _ (by omega)
 obtain⟨T,hT⟩:∃T,hi*4294967296+lo=T:=⟨_,rfl⟩
 rw[hT]at k4⊢
 have T0:0<=T:=by omega
 have q0:0<=T/m:=Int.ediv_nonneg T0 (by omega)
 have q1:T/m<4294967296:=Int.ediv_lt_of_lt_mul (by omega) (by omega)
 have r0:0<=T%m:=Int.emod_nonneg _ ne
 have r1:T%m<m:=Int.emod_lt_of_pos _ (by omega)
 have e1:T.tdiv m=T/m:=Int.tdiv_eq_ediv_of_nonneg T0
 have e2:T.tmod m=T%m:=Int.tmod_eq_emod_of_nonneg T0
 have k6:IntKind.u64.wrap (T/m)=T/m:=IntWalk.u64_in _ (by omega)
 have k7:IntKind.u32.wrap (T/m)=T/m:=IntWalk.u32_in _ (by omega)
 have k8:IntKind.u64.wrap (T%m)=T%m:=IntWalk.u64_in _ (by omega)
 have k9:IntKind.u32.wrap (T%m)=T%m:=IntWalk.u32_in _ (by omega)
 clear hT q0 q1 r0 r1 T0
 go_enter Tryz.func220,Tryz.ntmps220
 go_wp2_with fail
 go_quiet (fail)
 go_wp2_with fail
 go_ret2
 exact⟨rfl,zaE w nq⟩
theorem zp0 (hi lo y:Int) (w:World) (h0:0<=hi) (h1:hi<y) (l0:0<=lo) (l1:lo<18446744073709551616) (y1:y<18446744073709551616):
 Calls Tryz.prog 233 #[.int .u64 hi,.int .u64 lo,.int .u64 y] w fun e w'=>(∃r,e= .returned (.tuple #[.int .u64 ((hi*18446744073709551616+lo)/y),.int .u64 r]))/\ Below w.heap.size w w':=by
 rcases(show hi=0 \/0<hi by omega)with rfl|h
 · refine(zpY lo y w l0 l1 (by omega) y1).mono ?_
   rintro e w' ⟨n,rfl,r,rfl⟩
   exact⟨⟨r,by rw[Int.zero_mul,Int.zero_add]⟩,zaE w n⟩
 · refine(zpZ hi lo y w h h1 l0 l1 y1).mono ?_
   rintro e w' ⟨rfl,r,rfl⟩
   exact⟨⟨r,rfl⟩,Below.refl _ _⟩
def zcw (L L':List Int) (i k:Nat):Prop:=L'.length=L.length/\ zay L'/\ L'.take i=L.take i/\ ∀j,i+k+1<=j->L'[j]?.getD 0=L[j]?.getD 0
theorem zcw.refl {L:List Int} (h:zay L) (i k:Nat):zcw L L i k:=⟨rfl,h,rfl,fun _ _=>rfl⟩
theorem zcw.set {L L':List Int} {i k j:Nat} {v:Int} (h:zcw L L' i k) (hj:j<=k) (v0:0<=v) (v1:v<=4294967295):zcw L (L'.set (i+j) v) i k:=by
 refine⟨by rw[List.length_set];exact h.1,zbD h.2.1 _ v0 v1,?_,fun m hm=> ?_⟩
 · rw[List.take_set_of_le (by omega)]
   exact h.2.2.1
 · rw[List.getElem?_set_ne (by omega)]
   exact h.2.2.2 m hm
theorem zcw.trans {L L' L'':List Int} {i k:Nat} (h:zcw L L' i k) (h2:zcw L' L'' i k):zcw L L'' i k:=
 ⟨h2.1.trans h.1,h2.2.1,h2.2.2.1.trans h.2.2.1,fun j hj=>(h2.2.2.2 j hj).trans (h.2.2.2 j hj)⟩
theorem zeC {L:List Int} {i j:Nat} (v:Int) (h:i+j<L.length):valZ ((L.set (i+j) v).drop i)=valZ (L.drop i)+4294967296^j*(v-L[i+j]?.getD 0):=by
 rw[List.drop_set,if_neg (by omega),show i+j-i=j by omega,zcH _ _ _ (by rw[List.length_drop];omega),List.getElem?_drop]
theorem zl0 {L:List Int} (hL:zay L) {i n:Nat} (hz:∀j,i+n<=j->L[j]?.getD 0=0):0<=valZ (L.drop i)/\ valZ (L.drop i)<4294967296^n/\ valZ ((L.drop i).take n)=valZ (L.drop i):=by
 have e:=za0 (L.drop i) n
 have z:∀l:List Int,(∀j:Nat,l[j]?.getD 0=0)->valZ l=0:=by
  intro l
  induction l with
  |nil=>intro _;rfl
  |cons x xs ih=>
    intro h
    have h0:=h 0
    rw[valZ,ih (fun j=>by have:=h (j+1);rwa[List.getElem?_cons_succ]at this)]
    simp at h0
    omega
 have e2:valZ ((L.drop i).drop n)=0:=z _ (fun j=>by rw[List.drop_drop,List.getElem?_drop];exact hz _ (by omega))
 rw[e2,Int.mul_zero,Int.add_zero]at e
 have t:=zcg (hL.drop i) n
 rw[<-e]at t
 exact⟨t.1,t.2,e.symm⟩
theorem zp1 {L:List Int} (hL:zay L) {s k:Nat} (h:valZ (L.drop s)<4294967296^k):∀j,s+k<=j->L[j]?.getD 0=0:=by
 intro j hj
 have e:=za0 (L.drop s) (j-s)
 rw[List.drop_drop,show s+(j-s)=j by omega,zaN L j]at e
 have t:=zcg (hL.drop s) (j-s)
 have r:=hL.at j
 have n:=zaA (hL.drop (j+1))
 have p:=zdt (show k<=j-s by omega)
 have p2:=zaM (j-s)
 generalize(4294967296:Int)^(j-s)=P at*
 generalize valZ (L.drop (j+1))=V at*
 rcases(show L[j]?.getD 0+4294967296*V=0 \/1<=L[j]?.getD 0+4294967296*V by omega)with h1|h1
 · omega
 · have:=Int.mul_le_mul_of_nonneg_left h1 (Int.le_of_lt p2)
   rw[Int.mul_one]at this
   omega
theorem zsJ {ps ys:List Int} {t:Nat} {a b c d e:Int} (hp:zay ps) (hy:zay ys) (lp:ps.length=t+3) (ly:ys.length=t+2) (ha:ps[t+2]?.getD 0=a) (hb:ps[t+1]?.getD 0=b) (hc:ps[t]?.getD 0=c) (hd:ys[t+1]?.getD 0=d) (he:ys[t]?.getD 0=e)
 (hn:d≠0) (hlt:valZ ps<valZ ys*4294967296):
 0<=valZ ps/valZ ys/\ valZ ps/valZ ys<=4294967295/\ (¬(a=d/\ b=e)->a<d*4294967296+e/\ valZ ps/valZ ys<=(a*18446744073709551616+(b*4294967296+c))/(d*4294967296+e)/\ (a*18446744073709551616+(b*4294967296+c))/(d*4294967296+e)<=4294967295):=by
 have ra:=hp.at (t+2)
 have rb:=hp.at (t+1)
 have rc:=hp.at t
 have rd:=hy.at (t+1)
 have re:=hy.at t
 rw[ha]at ra
 rw[hb]at rb
 rw[hc]at rc
 rw[hd]at rd
 rw[he]at re
 have eP:=za0 ps t
 rw[zaN ps t,zaN ps (t+1),zaN ps (t+1+1),show ps.drop (t+1+1+1)=[]from List.drop_of_length_le (by omega),valZ,Int.mul_zero,Int.add_zero,hc,hb,show t+1+1=t+2 from rfl,ha]at eP
 have eM:=za0 ys t
 rw[zaN ys t,zaN ys (t+1),show ys.drop (t+1+1)=[]from List.drop_of_length_le (by omega),valZ,Int.mul_zero,Int.add_zero,he,hd]at eM
 have tP:=zcg hp t
 have tM:=zcg hy t
 have p:=zaM t
 have P0:=zaA hp
 generalize valZ (ps.take t)=pl at*
 generalize valZ (ys.take t)=ml at*
 generalize(4294967296:Int)^t=B at*
 generalize valZ ps=P at*
 generalize valZ ys=M at*
 obtain⟨D,hD⟩:∃D,d*4294967296+e=D:=⟨_,rfl⟩
 obtain⟨T,hT⟩:∃T,a*18446744073709551616+(b*4294967296+c)=T:=⟨_,rfl⟩
 rw[show c+4294967296*(b+4294967296*a)=T by omega]at eP
 rw[show e+4294967296*d=D by omega]at eM
 rw[hD,hT]
 have D0:4294967296<=D:=by omega
 have BD:B*4294967296<=B*D:=Int.mul_le_mul_of_nonneg_left D0 (Int.le_of_lt p)
 have M0:0<M:=by omega
 have TD:T<(D+1)*4294967296:=by
  refine Int.lt_of_mul_lt_mul_left (a:=B) ?_ (Int.le_of_lt p)
  rw[<-Int.mul_assoc,Int.mul_add,Int.mul_one]
  omega
 have q0:0<=P/M:=Int.ediv_nonneg P0 (Int.le_of_lt M0)
 have q1:P/M<4294967296:=Int.ediv_lt_of_lt_mul M0 (by rw[Int.mul_comm];exact hlt)
 refine⟨q0,by omega,fun hne=>⟨by omega,?_,?_⟩⟩
 · refine Int.le_ediv_of_mul_le (by omega) ?_
   have e1:=Int.mul_ediv_add_emod P M
   have e2:=Int.emod_nonneg P (show M≠0 by omega)
   generalize P/M=q at*
   have e3:M*q=ml*q+B*(q*D):=by rw[eM,Int.add_mul,Int.mul_assoc,Int.mul_comm D q]
   have e4:0<=ml*q:=Int.mul_nonneg tM.1 q0
   have:q*D<T+1:=by
    refine Int.lt_of_mul_lt_mul_left (a:=B) ?_ (Int.le_of_lt p)
    rw[Int.mul_add,Int.mul_one]
    omega
   omega
 · have:T/D<4294967296:=Int.ediv_lt_of_lt_mul (by omega) (by
    have:a*4294967296+b<D:=by omega
    omega)
   omega
theorem zp2 {L ys:List Int} {i j:Nat} {V x c o r q:Int} (hi:i+j<L.length) (h:valZ (L.drop i)=V-x*valZ (ys.take j)+4294967296^j*(c+o)) (hr:r+ -1*(4294967296*q)=L[i+j]?.getD 0+ -1*((c+x*ys[j]?.getD 0)%4294967296+o)):
 valZ ((L.set (i+j) r).drop i)=V-x*valZ (ys.take (j+1))+4294967296^(j+1)*((c+x*ys[j]?.getD 0)/4294967296+q):=by
 rw[zeC r hi,h,zc9,Int.pow_succ]
 generalize(4294967296:Int)^j=B at*
 generalize ys[j]?.getD 0=y at*
 generalize L[i+j]?.getD 0=z at*
 generalize valZ (ys.take j)=Y at*
 have e:=Int.mul_ediv_add_emod (c+x*y) 4294967296
 have e2:x*(Y+B*y)=x*Y+B*(x*y):=by rw[Int.mul_add,Int.mul_left_comm]
 rw[e2,Int.mul_assoc B]
 generalize(c+x*y)/4294967296=u at*
 generalize(c+x*y)%4294967296=v at*
 generalize x*y=T at*
 generalize x*Y=W at*
 have:B*(r-z)=B*(4294967296*(u+q))-B*T-B*(c+o):=by rw[<-Int.mul_sub,<-Int.mul_sub];congr 1;omega
 omega
theorem zsK {L:List Int} {i k:Nat} {V x Y c o r q:Int} (hi:i+k<L.length) (h:valZ (L.drop i)=V-x*Y+4294967296^k*(c+o)) (hr:r+ -1*(4294967296*q)=L[i+k]?.getD 0+ -1*(c+o)):
 valZ ((L.set (i+k) r).drop i)=V-x*Y+4294967296^(k+1)*q:=by
 rw[zeC r hi,h,Int.pow_succ,Int.mul_assoc]
 generalize(4294967296:Int)^k=B at*
 generalize L[i+k]?.getD 0=z at*
 have:B*(r-z)=B*(4294967296*q)-B*(c+o):=by rw[<-Int.mul_sub];congr 1;omega
 omega
theorem zp3 {L ys:List Int} {i j:Nat} {V c r q:Int} (hi:i+j<L.length) (h:valZ (L.drop i)=V+valZ (ys.take j)-4294967296^j*c) (hr:r+1*(4294967296*q)=L[i+j]?.getD 0+1*(ys[j]?.getD 0+c)):
 valZ ((L.set (i+j) r).drop i)=V+valZ (ys.take (j+1))-4294967296^(j+1)*q:=by
 rw[zeC r hi,h,zc9,Int.pow_succ,Int.mul_assoc]
 generalize(4294967296:Int)^j=B at*
 generalize ys[j]?.getD 0=y at*
 generalize L[i+j]?.getD 0=z at*
 have:B*(r-z)=B*y+B*c-B*(4294967296*q):=by rw[<-Int.mul_add,<-Int.mul_sub];congr 1;omega
 omega
theorem zsL {L:List Int} {i k:Nat} {V Y c r q:Int} (hi:i+k<L.length) (h:valZ (L.drop i)=V+Y-4294967296^k*c) (hr:r+1*(4294967296*q)=L[i+k]?.getD 0+1*(0+c)):
 valZ ((L.set (i+k) r).drop i)=V+Y-4294967296^(k+1)*q:=by
 rw[zeC r hi,h,Int.pow_succ,Int.mul_assoc]
 generalize(4294967296:Int)^k=B at*
 generalize L[i+k]?.getD 0=z at*
 have:B*(r-z)=B*c-B*(4294967296*q):=by rw[<-Int.mul_sub];congr 1;omega
 omega
def zhi (P M Z d o D:Int):Prop:=D=P-d*M+Z*o/\ P/M<=d/\ 0<=D/\ D<Z/\ 0<M/\ 0<=P
theorem zhi.done {P M Z d D:Int} (h:zhi P M Z d 0 D):d=P/M/\ D=P%M:=by
 obtain⟨e,hq,D0,D1,M0,P0⟩:=h
 have e1:=Int.mul_ediv_add_emod P M
 have le:d<=P/M:=Int.le_ediv_of_mul_le M0 (by omega)
 obtain rfl:d=P/M:=by omega
 refine⟨rfl,?_⟩
 rw[Int.mul_comm]at e1
 omega
theorem zhi.less {P M Z d D:Int} (h:zhi P M Z d 1 D):P/M<=d-1/\ 1<=d:=by
 obtain⟨e,hq,D0,D1,M0,P0⟩:=h
 have e1:=Int.mul_ediv_add_emod P M
 have e2:=Int.emod_nonneg P (show M≠0 by omega)
 have e3:0<=P/M:=Int.ediv_nonneg P0 (Int.le_of_lt M0)
 have:P/M≠d:=by
  intro hd
  rw[hd,Int.mul_comm]at e1
  omega
 omega
theorem zhi.next {P M Z d D D' c:Int} (h:zhi P M Z d 1 D) (e:D'=D+M-Z*c) (d0:0<=D') (d1:D'<Z):zhi P M Z (d-1) (1-c) D':=by
 have l:=h.less
 obtain⟨e0,hq,D0,D1,M0,P0⟩:=h
 refine⟨?_,l.1,d0,d1,M0,P0⟩
 rw[Int.sub_mul,Int.mul_sub]
 omega
theorem zp4 {L:List Int} {i k:Nat} {M:Int} (hL:zay L) (h:valZ (L.drop (i+1))<M) (hM:M<4294967296^k):0<=valZ (L.drop i)/\ valZ (L.drop i)<M*4294967296/\ (∀j,i+k+1<=j->L[j]?.getD 0=0):=by
 have z:=zp1 hL (s:=i+1) (k:=k) (by omega)
 have r:=hL.at i
 rw[zaN L i]
 have n:=zaA (hL.drop (i+1))
 exact⟨by omega,by omega,fun j hj=>z j (by omega)⟩
theorem zp5 {L L' Q:List Int} {i:Nat} {A M P:Int} (ht:L'.take i=L.take i) (hP:valZ (L.drop i)=P) (hQ:Q[i]?.getD 0=0) (hi:i<Q.length) (h:A=valZ L+M*valZ Q) (h':valZ (L'.drop i)=P%M):A=valZ L'+M*valZ (Q.set i (P/M)):=by
 rw[zcH _ _ _ hi,hQ,Int.sub_zero,za0 L' i,h',ht]
 rw[za0 L i,hP]at h
 have e:=Int.mul_ediv_add_emod P M
 generalize P/M=q at*
 generalize P%M=r at*
 rw[Int.mul_add,Int.mul_left_comm,h,<-e,Int.mul_add]
 omega
theorem zux {L:List Int} {n k q:Nat} {M:Int} (hL:zay L) (hl:L.length=n+1) (h0:L[n]?.getD 0=0) (hq:(q:Int)=max ((n:Int)+1-k) 0) (hk:1<=k) (hM:4294967296^(k-1)<=M):valZ (L.drop q)<M:=by
 have:q+k>=n+1:=by omega
 refine Int.lt_of_lt_of_le ?_ hM
 refine(zl0 hL (i:=q) (n:=k-1) (fun j hj=> ?_)).2.1
 rcases Nat.lt_or_ge j (n+1)with hj2|hj2
 · rw[show j=n by omega]
   exact h0
 · rw[List.getElem?_eq_none (by omega)]
   rfl
theorem zuy {L Q:List Int} {A M:Int} (hL:zay L) (h:A=valZ L+M*valZ Q) (hM:0<M) (hr:valZ (L.drop 0)<M):valZ Q=A/M/\ valZ L=A%M:=by
 rw[List.drop_zero]at hr
 have:=ze4 hM (a:=A) (q:=valZ Q) (r:=valZ L) (by rw[h,Int.mul_comm M,Int.add_comm]) (zaA hL) hr
 exact⟨this.1.symm,this.2.symm⟩
theorem zkx {xs Q:List Int} {i:Nat} {m r:Int} (h:valZ (xs.drop (i+1))=m*valZ (Q.drop (i+1))+r) (hi:i<Q.length) (hm:0<m) (r1:r<m) (r0:0<=r) (hx:zay xs) (m1:m<=4294967295):
 valZ (xs.drop i)=m*valZ ((Q.set i ((r*4294967296+xs[i]?.getD 0)/m)).drop i)+(r*4294967296+xs[i]?.getD 0)%m/\ 0<=(r*4294967296+xs[i]?.getD 0)%m/\ (r*4294967296+xs[i]?.getD 0)%m<m/\ 0<=(r*4294967296+xs[i]?.getD 0)/m/\ (r*4294967296+xs[i]?.getD 0)/m<=4294967295:=by
 have xr:=hx.at i
 have e:=Int.mul_ediv_add_emod (r*4294967296+xs[i]?.getD 0) m
 have e0:=Int.emod_nonneg (r*4294967296+xs[i]?.getD 0) (show m≠0 by omega)
 have e1:=Int.emod_lt_of_pos (r*4294967296+xs[i]?.getD 0) hm
 have q0:0<=(r*4294967296+xs[i]?.getD 0)/m:=Int.ediv_nonneg (by omega) (by omega)
 have q1:(r*4294967296+xs[i]?.getD 0)/m<4294967296:=Int.ediv_lt_of_lt_mul hm (by omega)
 refine⟨?_,e0,e1,q0,by omega⟩
 rw[zaN xs i,h,zaN (Q.set i _) i,List.getElem?_set_self hi,List.drop_set,if_pos (by omega)]
 generalize(r*4294967296+xs[i]?.getD 0)/m=q at*
 show _=m*(q+_)+_
 have e3:m*(q+4294967296*valZ (Q.drop (i+1)))=m*q+4294967296*(m*valZ (Q.drop (i+1))):=by rw[Int.mul_add,Int.mul_left_comm m]
 rw[e3]
 generalize m*valZ (Q.drop (i+1))=T at*
 omega
theorem zcz {base b o:Nat} {w:World} {v:Value} (h:w.cell? ⟨b,o,none⟩=some v) (hb:b<base):∀W,Below base w.drew W->W.cell? ⟨b,o,none⟩=some v:=by
 intro W hW
 have h1:W.cell? ⟨b,o,none⟩=w.drew.cell? ⟨b,o,none⟩:=hW.cell (p:=⟨b,o,none⟩) hb
 exact h1.trans h
theorem zm5 {B:Nat} {a b:World} (h:Below B a b):Below B a.drew b.drew:=⟨h.os,h.tape,h.output,h.size,h.block⟩
theorem zhj {B:Nat} {a b:World} (h:Below B a.drew b):Below B a b:=⟨h.os,h.tape,h.output,h.size,h.block⟩
def Only (g:Nat) (w w':World):Prop:=w.heap.size<=w'.heap.size/\ ∀b,b<w.heap.size->b≠g->w'.heap[b]?=w.heap[b]?
theorem Only.refl (g:Nat) (w:World):Only g w w:=⟨Nat.le_refl _,fun _ _ _=>rfl⟩
theorem Only.trans {g:Nat} {a b c:World} (h:Only g a b) (h2:Only g b c):Only g a c:=⟨Nat.le_trans h.1 h2.1,fun k hk hn=>(h2.2 k (Nat.lt_of_lt_of_le hk h.1) hn).trans (h.2 k hk hn)⟩
theorem Only.set {g:Nat} {a b:World} (h:Only g a b) (j:Nat) (v:Value):Only g a (b.setCell ⟨g,j,none⟩ v):=⟨by simpa using h.1,fun k hk hn=>(heap_setCell_other b ⟨g,j,none⟩ k v hn).trans (h.2 k hk hn)⟩
theorem Only.of_below {g:Nat} {a b:World} (h:Below a.heap.size a b):Only g a b:=⟨h.size,fun k hk _=>h.block k hk⟩
theorem zaz.only {W0 w w':World} {g g' n cap:Nat} {L:List Int} (h:zaz W0 w (.slice (some ⟨g',0,none⟩) n cap) L) (ho:Only g w w') (hne:g'≠g) (hb:Below W0.heap.size W0 w'):zaz W0 w' (.slice (some ⟨g',0,none⟩) n cap) L:=by
 refine⟨⟨h.1.1,?_⟩,hb⟩
 rcases h.1.2 with⟨e,_⟩|⟨b,cap,cur,e,h1,h2,h3⟩
 · cases e
 · injection e with e1 e2 e3
   injection e1 with e1
   injection e1 with e1
   subst e1
   subst e2 e3
   exact .inr ⟨g',_,cur,rfl,h1,(ho.2 g' (Array.getElem?_eq_some_iff.1 h2).1 hne).trans h2,h3⟩
def two (a b:Int):Array Value:=#[.int .u32 a,.int .u32 b]
theorem zp6 (a b:Int):(two a b).all (·.oneCell')=true:=by
 unfold two
 simp[Value.oneCell']
theorem Tryz.size2:(Tryz.prog.info? 233).map (·.size)=some 2:=by kernel_rfl
theorem Tryz.info35s:(Tryz.prog.info? 22).isSome=true:=by kernel_rfl
theorem Tryz.cells35:Tryz.prog.cellsOf 22=1:=by kernel_rfl
theorem zt2 (a b c d:Int) (w:World):(Op.equalIn 10000 233 (.agg (two a b)) (.agg (two c d))).run Tryz.prog w= .ok (a==c&&b==d) w:=by
 obtain⟨i0,hi⟩:=Option.isSome_iff_exists.1 Tryz.info35s
 rw[run_equalIn_array w 9999 _ _ Tryz.underlying233 hi,Tryz.cells35]
 have q:∀(a b:Int) (w:World),(Op.equalIn 9999 22 (.int .u32 a) (.int .u32 b)).run Tryz.prog w= .ok (a==b) w:=fun a b w=>run_equalIn_int w 9998 22 .u32 .u32 a b Tryz.underlying22
 have p:∀(xs:Array Value) (j:Nat) (v:Int) (h:xs[j]?=some (.int .u32 v)) (w:World),(part 22 xs j).run Tryz.prog w= .ok (.int .u32 v) w:=by
  intro xs j v h w
  simp[part,h,go_sem]
 show(Op.eqItems 9999 22 1 (two a b) (two c d) [0,1]).run Tryz.prog w=_
 by_cases h1:a=c
 · subst h1
   by_cases h2:b=d
   · subst h2
     simp[Op.eqItems,Sem.run_bind,p (two a b) 0 a rfl,p (two a b) 1 b rfl,q]
   · simp[Op.eqItems,Sem.run_bind,p (two a b) 0 a rfl,p (two a b) 1 b rfl,p (two a d) 0 a rfl,p (two a d) 1 d rfl,q,h2]
 · simp[Op.eqItems,Sem.run_bind,p (two a b) 0 a rfl,p (two c d) 0 c rfl,q,h1]
theorem zky (a b:Option Addr) (r n ca cb:Nat) (ps ys:List Int) (w:World) (hr:zat w a r ps) (hs:zat w b n ys) (hrn:r=n+1) (h2:2<=n) (hn:n<=100000) (htop:ys[n-1]?.getD 0≠0) (hlt:valZ ps<valZ ys*4294967296):
 Calls Tryz.prog 230 #[.slice a r ca,.slice b n cb] w fun e w'=>∃d,e= .returned (.int .u32 d)/\ valZ ps/valZ ys<=d/\ 0<=d/\ d<=4294967295/\ Below w.heap.size w w':=by
 obtain⟨t,ht⟩:∃t,n=t+2:=⟨n-2,by omega⟩
 obtain⟨p,hp⟩:∃p,n=p+1:=⟨n-1,by omega⟩
 rw[show n-1=t+1 by omega]at htop
 obtain⟨b1,o1,rfl,hb1,hc1⟩:=hr.2.2 (by omega)
 obtain⟨b2,o2,rfl,hb2,hc2⟩:=hs.2.2 (by omega)
 have EO:=zsJ (t:=t) hr.2.1 hs.2.1 (by rw[hr.1];omega) (by rw[hs.1];omega) rfl rfl rfl rfl rfl htop hlt
 have cA:=zcz (hc1 n (by omega)) hb1
 have cB:=zcz (hc1 p (by omega)) hb1
 have cC:=zcz (hc1 t (by omega)) hb1
 have cD:=hc2 p (by omega)
 have cE:=hc2 t (by omega)
 have C0:=zwd (hc1 t (by omega))
 have rA:=hr.num n
 have rB:=hr.num p
 have rC:=hr.num t
 have rD:=hs.num p
 have rE:=hs.num t
 rw[show t+2=n by omega,show t+1=p by omega]at EO
 generalize ps[n]?.getD 0=xa at*
 generalize ps[p]?.getD 0=xb at*
 generalize ps[t]?.getD 0=xc at*
 generalize ys[p]?.getD 0=xd at*
 generalize ys[t]?.getD 0=xe at*
 obtain⟨q0,q1,EN⟩:=EO
 have HEN:=zwd EN
 have HD:=zwd cD
 have HE:=zwd cE
 have w1:IntKind.i64.wrap ((n:Int)-1)=(p:Int):=by rw[show(n:Int)-1=(p:Int)by omega];exact IntWalk.i64_in _ (by omega)
 have w2:IntKind.i64.wrap ((p:Int)+1)=(n:Int):=by rw[show(p:Int)+1=(n:Int)by omega];exact IntWalk.i64_in _ (by omega)
 have w3:IntKind.i64.wrap ((p:Int)-1)=(t:Int):=by rw[show(p:Int)-1=(t:Int)by omega];exact IntWalk.i64_in _ (by omega)
 have i1:(n:Int)<(r:Int):=by omega
 have i2:(p:Int)<(r:Int):=by omega
 have i3:(t:Int)<(r:Int):=by omega
 have i4:(p:Int)<(n:Int):=by omega
 have i5:(t:Int)<(n:Int):=by omega
 generalize valZ ps/valZ ys=Q at*
 clear hr hs hc1 hc2 hlt EN cD cE hrn ht hp
 go_enter Tryz.func230,Tryz.ntmps230
 go_wp2_with fail
 refine zaa (Below w.heap.size) (Below.refl _) (fun _ _ _=>Below.trans) [(0,false),(1,false),(2,false),(3,false),(4,false),(5,false),(6,false),(7,false),(8,false),(9,false),(10,true),(11,true)] (by kernel_rfl) (by kernel_rfl) rfl (by kernel_rfl) (fun _ _ _ _ _ h=>h) ?_
 repeat(refine zab _ rfl (by rfl) (fun W hW=>by go_simp;first|done|rfl) ?_;simp only[Act.put,zwe,zwg,zwf])
 refine zad rfl (by rfl) (fun K1 hK1=> ?_)
 unfold Oper.wp
 go_simp
 refine hK1 _ _ (zm5 ((Below.refl _ _).alloc (Nat.le_refl _) _)) ?_
 clear hK1 K1
 have S1:=zwd (Blk.new w 233 #[.int .u32 0,.int .u32 0])
 have B1:=zwd (below_setRow (zm5 ((Below.refl w.heap.size w).alloc (Nat.le_refl _) (.cells #[.int .u32 0,.int .u32 0] 233))) (Nat.le_refl _) (two xa xb))
 have K1:Hid (Blk (((w.alloc (.cells #[.int .u32 0,.int .u32 0] 233)).drew).setRow w.heap.size (two xa xb)) w.heap.size 233 (two xa xb)):=zwd (setRow_heap _ _ _ _ _ _ S1.out)
 refine zad rfl (by rfl) (fun K2 hK2=> ?_)
 refine wp_store_row 233 (.tmp 6) (.tmp 22) rfl w.heap.size (two xa xb) rfl rfl 233 #[.int .u32 0,.int .u32 0] S1.out Tryz.size2 rfl (zp6 _ _) ?_
 refine hK2 _ _ (below_setRow (Below.refl _ _) (Nat.le_refl _) _) ?_
 clear hK2 K2
 refine zai ?_
 generalize((w.alloc (.cells #[.int .u32 0,.int .u32 0] 233)).drew).setRow w.heap.size (two xa xb)=w2 at*
 have hS:=K1.out.lt
 have B1':=zhj B1.out
 have hsz:=B1'.size
 generalize hSe:w.heap.size=S at*
 have HSZ:=zwd hSe
 clear hSe
 have cD:=zcz ((B1'.cell (p:=⟨b2,o2+p,none⟩) hb2).trans HD.out) (base:=w2.heap.size) (by omega)
 have cE:=zcz ((B1'.cell (p:=⟨b2,o2+t,none⟩) hb2).trans HE.out) (base:=w2.heap.size) (by omega)
 clear S1 cA cB HD HE
 go_wp2_with fail
 refine zaa (Below w2.heap.size) (Below.refl _) (fun _ _ _=>Below.trans) [(0,false),(1,false),(2,false),(3,false),(4,false),(5,false),(6,false),(7,false),(8,false),(9,false),(10,true),(11,true)] (by kernel_rfl) (by kernel_rfl) rfl (by kernel_rfl) (fun _ _ _ _ _ h=>h) ?_
 repeat(refine zab _ rfl (by rfl) (fun W hW=>by go_simp;first|done|rfl) ?_;simp only[Act.put,zwe,zwg,zwf])
 refine zad rfl (by rfl) (fun K3 hK3=> ?_)
 unfold Oper.wp
 go_simp
 refine hK3 _ _ (zm5 ((Below.refl _ _).alloc (Nat.le_refl _) _)) ?_
 clear hK3 K3
 have S2:=zwd (Blk.new w2 233 #[.int .u32 0,.int .u32 0])
 have B2:=zwd (below_setRow (zm5 ((Below.refl w2.heap.size w2).alloc (Nat.le_refl _) (.cells #[.int .u32 0,.int .u32 0] 233))) (Nat.le_refl _) (two xd xe))
 have K2:Hid (Blk (((w2.alloc (.cells #[.int .u32 0,.int .u32 0] 233)).drew).setRow w2.heap.size (two xd xe)) w2.heap.size 233 (two xd xe)):=zwd (setRow_heap _ _ _ _ _ _ S2.out)
 refine zad rfl (by rfl) (fun K4 hK4=> ?_)
 refine wp_store_row 233 (.tmp 7) (.tmp 32) rfl w2.heap.size (two xd xe) rfl rfl 233 #[.int .u32 0,.int .u32 0] S2.out Tryz.size2 rfl (zp6 _ _) ?_
 refine hK4 _ _ (below_setRow (Below.refl _ _) (Nat.le_refl _) _) ?_
 clear hK4 K4
 refine zai ?_
 generalize((w2.alloc (.cells #[.int .u32 0,.int .u32 0] 233)).drew).setRow w2.heap.size (two xd xe)=w3 at*
 have B2':=zhj B2.out
 have KA:=zwd (K1.out.below B2' hS)
 have hT:=K2.out.lt
 have hS2:=KA.out.lt
 have B3:=zwd (B1'.trans (B2'.mono hsz))
 have cC3:=(B3.out.cell (p:=⟨b1,o1+t,none⟩) hb1).trans C0.out
 clear S2 cC cD cE C0 K1
 generalize w2.heap.size=T at*
 by_cases hEq:xa=xd/\ xb=xe
 · obtain⟨rfl,rfl⟩:=hEq
   have EQ:∀W:World,(Op.equalIn 10000 233 (.agg (two xa xb)) (.agg (two xa xb))).run Tryz.prog W= .ok true W:=fun W=>by rw[zt2];simp
   go_wp2_with (first
    |(refine wpList_load_row rfl 233 (.tmp 6) rfl S rfl 233 (two xa xb) (0,0) (.array 2 22) KA.out Tryz.underlying233 rfl Tryz.size2 ?_)
    |(refine wpList_load_row rfl 233 (.tmp 7) rfl T rfl 233 (two xa xb) (0,0) (.array 2 22) K2.out Tryz.underlying233 rfl Tryz.size2 ?_))
   go_ret
   exact⟨_,rfl,by omega,by omega,by omega,by rw[HSZ.out];exact B3.out⟩
 · have EQ:∀W:World,(Op.equalIn 10000 233 (.agg (two xa xb)) (.agg (two xd xe))).run Tryz.prog W= .ok false W:=fun W=>by
    rw[zt2]
    have:(xa==xd&&xb==xe)=false:=by
     by_cases h1:xa=xd
     · have h2:xb≠xe:=fun h2=>hEq ⟨h1,h2⟩
       simp[h2]
     · simp[h1]
    rw[this]
   obtain⟨E1,E2,E3⟩:=HEN.out hEq
   go_wp2_with (first
    |(refine wpList_load_row rfl 233 (.tmp 6) rfl S rfl 233 (two xa xb) (0,0) (.array 2 22) KA.out Tryz.underlying233 rfl Tryz.size2 ?_)
    |(refine wpList_load_row rfl 233 (.tmp 7) rfl T rfl 233 (two xd xe) (0,0) (.array 2 22) K2.out Tryz.underlying233 rfl Tryz.size2 ?_))
   have e0:=zcz ((KA.out.cell 0).trans rfl) (base:=w3.heap.size) hS2 (v:= .int .u32 xa)
   have e1:=zcz ((KA.out.cell 1).trans rfl) (base:=w3.heap.size) hS2 (v:= .int .u32 xb)
   have f0:=zcz ((K2.out.cell 0).trans rfl) (base:=w3.heap.size) hT (v:= .int .u32 xd)
   have f1:=zcz ((K2.out.cell 1).trans rfl) (base:=w3.heap.size) hT (v:= .int .u32 xe)
   have e2:=zcz cC3 (base:=w3.heap.size) (by have:=B3.out.size;have:=HSZ.out;omega)
   clear EQ hEq HEN KA K2 cC3
   have DV:=zwd (zp0 xa (xb*4294967296+xc) (xd*4294967296+xe) w3.drew rA.1 E1 (by omega) (by omega) (by omega))
   have k1:IntKind.u64.wrap xa=xa:=IntWalk.u64_in _ (by omega)
   generalize(xa*18446744073709551616+(xb*4294967296+xc))/(xd*4294967296+xe)=D at*
   have D0:0<=D:=by omega
   have k2:IntKind.u32.wrap D=D:=IntWalk.u32_in _ (by omega)
   refine zaa (Below w3.heap.size) (Below.refl _) (fun _ _ _=>Below.trans) [(0,false),(1,false),(2,false),(3,false),(4,false),(5,false),(6,false),(7,false),(8,false),(9,false),(11,false),(12,false),(13,false),(14,false),(10,true),(15,true),(16,true),(17,false),(18,false),(19,false),(20,false),(21,false)] (by kernel_rfl) (by kernel_rfl) rfl (by kernel_rfl) (fun _ _ _ _ _ h=>h) ?_
   repeat(refine zab _ rfl (by rfl) (fun W hW=>by go_simp;first|done|rfl) ?_;simp only[Act.put,zwe,zwg,zwf])
   refine zad rfl (by rfl) (fun K3 hK3=> ?_)
   go_simp
   refine(ziF _ _ _ rB.1 rB.2 rC.1 rC.2).mono ?_
   rintro e w4 ⟨rfl,rfl⟩
   refine hK3 _ _ (Below.refl _ _) ?_
   clear hK3 K3
   refine zad rfl (by rfl) (fun K3 hK3=> ?_)
   go_simp
   refine(ziF _ _ _ rD.1 rD.2 rE.1 rE.2).mono ?_
   rintro e w4 ⟨rfl,rfl⟩
   refine hK3 _ _ (Below.refl _ _) ?_
   clear hK3 K3
   refine zad rfl (by rfl) (fun K3 hK3=> ?_)
   go_simp
   refine DV.out.mono ?_
   rintro e w4 ⟨⟨r64,rfl⟩,hb⟩
   refine hK3 _ _ hb ?_
   clear hK3 K3
   repeat(refine zab _ rfl (by rfl) (fun W hW=>by go_simp;first|done|rfl) ?_;simp only[Act.put,zwe,zwg,zwf])
   refine zai ?_
   have B4:=zwd (B3.out.trans ((zhj hb).mono (by have:=B3.out.size;have:=HSZ.out;show S<=w3.heap.size;omega)))
   clear e0 e1 f0 f1 e2 hb
   go_wp2_with fail
   go_ret
   exact⟨_,rfl,by omega,by omega,by omega,by rw[HSZ.out];exact B4.out⟩
end Go.Proofs.YtpgahclpbdpbnaaGreatDoor
