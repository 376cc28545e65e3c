import Derived.Test.YtpgahclpbdpbnaaGreatDoorGAM
import Derived.Test.YtpgahclpbdpbnaaGreatDoorGAK
import Derived.ScopeJumps
import Derived.ArgAppend
import Derived.BigRegion
import Derived.Deep.OwnRows
import Derived.Test.YtpgahclpbdpbnaaGreatDoorGAL
import Derived.Test.YtpgahclpbdpbnaaGreatDoorGAI
import Derived.Test.YtpgahclpbdpbnaaGreatDoorGAB
import Derived.KernelRfl
set_option maxHeartbeats 1000000
set_option maxRecDepth 100000
namespace Go.Proofs.YtpgahclpbdpbnaaGreatDoor
open Go.RowKit
set_option linter.unusedVariables false
def zvE (W0 w:World) (g M cap i k:Nat) (L ys:List Int) (x:Int) (e:Ending) (w':World):Prop:=
 ∃(L':List Int) (o:Int),e= .returned (.int .u32 o)/\ 0<=o/\ o<=1/\ zaz W0 w' (.slice (some ⟨g,0,none⟩) M cap) L'/\ zcw L L' i k/\ valZ (L'.drop i)=valZ (L.drop i)-x*valZ ys+4294967296^(k+1)*o/\ Only g w w'
def zvF (W0 w:World) (g M cap i k:Nat) (L ys:List Int) (e:Ending) (w':World):Prop:=
 ∃(L':List Int) (o:Int),e= .returned (.int .u32 o)/\ 0<=o/\ o<=1/\ zaz W0 w' (.slice (some ⟨g,0,none⟩) M cap) L'/\ zcw L L' i k/\ valZ (L'.drop i)=valZ (L.drop i)+valZ ys-4294967296^(k+1)*o/\ Only g w w'
theorem zcw.at {L L':List Int} {i k:Nat} (h:zcw L L' i k) (j:Nat):0<=L'[j]?.getD 0/\ L'[j]?.getD 0<=4294967295:=h.2.1.at j
theorem zk5 (W0 w:World) (g M cap i k cP cb:Nat) (b:Option Addr) (L ys:List Int) (x:Int) (ho:zaz W0 w (.slice (some ⟨g,0,none⟩) M cap) L) (hln:L.length=M) (hg:W0.heap.size<=g) (hL:zay L) (hi:i+k+1<=M) (hM:M<=100000) (hr:zat W0 b k ys) (x0:0<=x) (x1:x<=4294967295):
 Calls Tryz.prog 231 #[.slice (some ⟨g,i,none⟩) (k+1) cP,.slice b k cb,.int .u32 x] w (zvE W0 w g M cap i k L ys x):=by
 have HO:=zwd ho
 have HLN:=zwd hln
 have HLL:=zwd hL
 have HR:=zwd hr
 have k1:IntKind.u64.wrap x=x:=IntWalk.u64_in _ (by omega)
 clear ho hln hL hr
 go_enter Tryz.func231,Tryz.ntmps231
 go_wp2_with fail
 go_loopw [7,8,12] (fun cV oV jV wr=>∃(j:Nat) (c o:Int) (L1:List Int),cV= .int .u64 c/\ oV= .int .u32 o/\ jV= .int .i64 (j:Int)/\ j<=k/\ 0<=c/\ c<=4294967295/\ 0<=o/\ o<=1/\ zaz W0 wr (.slice (some ⟨g,0,none⟩) M cap) L1/\ zcw L L1 i k/\ valZ (L1.drop i)=valZ (L.drop i)-x*valZ (ys.take j)+4294967296^j*(c+o)/\ Only g w wr) (fun _ _ jV _=>(1000001-intOf jV).toNat)
 case atStart=>exact⟨0,0,0,L,rfl,rfl,rfl,by omega,by omega,by omega,by omega,by omega,HO.out,.refl HLL.out _ _,by simp[valZ],.refl _ _⟩
 case round=>
  obtain⟨j,c,o,L1,rfl,rfl,rfl,hj,c0,c1,o0,o1,ho,hA,hval,hon⟩:=hrel
  have HO1:=zwd ho
  have HA1:=zwd hA
  have HV1:=zwd hval
  have ON1:=zwd hon
  have HN1:Hid (L1.length=M):=zwd (hA.1.trans HLN.out)
  have RB:=zwd (HR.out.below ho.2)
  clear ho hA hval hon HO
  by_cases hmore:j<k
  · have t1:decide ((j:Int)<(k:Int))=true:=decide_eq_true (by omega)
    have hjM:j<=1000000:=by omega
    have jI:(j:Int)<(k:Int):=by omega
    have jI2:(j:Int)<(k:Int)+1:=by omega
    have jN:(0:Int)<=(j:Int):=by omega
    obtain⟨b1,o1',rfl,hb1,hc1⟩:=RB.out.2.2 (by omega)
    have cy:=hc1 j hmore
    obtain⟨cx,fx⟩:=HO1.out.cell (i+j) (by rw[HN1.out];omega)
    have zr:=HA1.out.at (i+j)
    have yr:=RB.out.num j
    have hS:=zwd (fun(r q:Int) (h:r+ -1*(4294967296*q)=L1[i+j]?.getD 0+ -1*((c+x*ys[j]?.getD 0)%4294967296+o))=>zp2 (by rw[HN1.out];omega) HV1.out h)
    have HSET:=zwd (fun v=>HO1.out.set hg (i+j) v)
    generalize L1[i+j]?.getD 0=z at*
    generalize ys[j]?.getD 0=y at*
    have MR:=zg9 c0 c1 (show(0:Int)<=0 by omega) (by omega) x0 x1 yr.1 yr.2
    rw[Int.add_zero]at MR
    have k2:IntKind.u64.wrap y=y:=IntWalk.u64_in _ (by omega)
    have k3:IntKind.u64.wrap (x*y)=x*y:=IntWalk.u64_in _ (by omega)
    have k6:IntKind.u64.wrap (c+x*y)=c+x*y:=IntWalk.u64_in _ (by omega)
    clear hc1 HV1
    obtain⟨T,hT⟩:∃T,c+x*y=T:=⟨_,rfl⟩
    rw[hT]at k6 MR hS
    have HT:=zwd hT
    have k7:IntKind.u32.wrap T=T%4294967296:=rfl
    have k8:IntKind.u64.wrap (T/4294967296)=T/4294967296:=IntWalk.u64_in _ (by omega)
    have d0:=MR.2.2.1
    have d1:=MR.2.2.2.1
    have e0:0<=T%4294967296:=by omega
    have e1:T%4294967296<=4294967295:=by omega
    clear MR
    go_wp2_with (go_at_call 235;go_must (refine(zhc z (T%4294967296) o wr zr.1 zr.2 e0 e1 o0 o1).mono ?_;rintro e w' ⟨rfl,r,q',rfl,r0,r1,q0',q1',hrq⟩;have HRQ:=zwd (hS.out r q' hrq);have r0h:=zwd r0;have r1h:=zwd r1;have q0h:=zwd q0';have q1h:=zwd q1';clear hrq r0 r1 q0' q1'))
    go_roundw
    case rel=>exact⟨j+1,_,_,_,rfl,rfl,by go_num,by omega,d0,d1,q0h.out,q1h.out,HSET.out _,HA1.out.set (by omega) r0h.out r1h.out,HRQ.out,ON1.out.set _ _⟩
    case measure=>simp only[intOf];exact zbm hjM
  · obtain rfl:j=k:=by omega
    have t1:decide ((j:Int)<(j:Int))=false:=decide_eq_false (by omega)
    have jI2:(j:Int)<(j:Int)+1:=by omega
    have jN:(0:Int)<=(j:Int):=by omega
    have k2:IntKind.u32.wrap c=c:=IntWalk.u32_in _ (by omega)
    have E:=HV1.out
    rw[List.take_of_length_le (by rw[HR.out.1];omega)]at E
    obtain⟨cx,fx⟩:=HO1.out.cell (i+j) (by rw[HN1.out];omega)
    have zr:=HA1.out.at (i+j)
    have hS:=zwd (fun(r q:Int) (h:r+ -1*(4294967296*q)=L1[i+j]?.getD 0+ -1*(c+o))=>zsK (by rw[HN1.out];omega) E h)
    have HSET:=zwd (fun v=>HO1.out.set hg (i+j) v)
    generalize L1[i+j]?.getD 0=z at*
    clear E HV1
    go_wp2_with (go_at_call 235;go_must (refine(zhc z c o wr zr.1 zr.2 c0 c1 o0 o1).mono ?_;rintro e w' ⟨rfl,r,q',rfl,r0,r1,q0',q1',hrq⟩;have HRQ:=zwd (hS.out r q' hrq);have r0h:=zwd r0;have r1h:=zwd r1;have q0h:=zwd q0';have q1h:=zwd q1';clear hrq r0 r1 q0' q1'))
    go_ret
    exact⟨_,_,rfl,q0h.out,q1h.out,HSET.out _,HA1.out.set (by omega) r0h.out r1h.out,HRQ.out,ON1.out.set _ _⟩
theorem zk6 (W0 w:World) (g M cap i k cP cb:Nat) (b:Option Addr) (L ys:List Int) (ho:zaz W0 w (.slice (some ⟨g,0,none⟩) M cap) L) (hln:L.length=M) (hg:W0.heap.size<=g) (hL:zay L) (hi:i+k+1<=M) (hM:M<=100000) (hr:zat W0 b k ys):
 Calls Tryz.prog 232 #[.slice (some ⟨g,i,none⟩) (k+1) cP,.slice b k cb] w (zvF W0 w g M cap i k L ys):=by
 have HO:=zwd ho
 have HLN:=zwd hln
 have HLL:=zwd hL
 have HR:=zwd hr
 clear ho hln hL hr
 go_enter Tryz.func232,Tryz.ntmps232
 go_wp2_with fail
 go_loopw [5,9] (fun oV jV wr=>∃(j:Nat) (o:Int) (L1:List Int),oV= .int .u32 o/\ jV= .int .i64 (j:Int)/\ j<=k/\ 0<=o/\ o<=1/\ zaz W0 wr (.slice (some ⟨g,0,none⟩) M cap) L1/\ zcw L L1 i k/\ valZ (L1.drop i)=valZ (L.drop i)+valZ (ys.take j)-4294967296^j*o/\ Only g w wr) (fun _ jV _=>(1000001-intOf jV).toNat)
 case atStart=>exact⟨0,0,L,rfl,rfl,by omega,by omega,by omega,HO.out,.refl HLL.out _ _,by simp[valZ],.refl _ _⟩
 case round=>
  obtain⟨j,o,L1,rfl,rfl,hj,o0,o1,ho,hA,hval,hon⟩:=hrel
  have HO1:=zwd ho
  have HA1:=zwd hA
  have HV1:=zwd hval
  have ON1:=zwd hon
  have HN1:Hid (L1.length=M):=zwd (hA.1.trans HLN.out)
  have RB:=zwd (HR.out.below ho.2)
  clear ho hA hval hon HO
  by_cases hmore:j<k
  · have t1:decide ((j:Int)<(k:Int))=true:=decide_eq_true (by omega)
    have hjM:j<=1000000:=by omega
    have jI:(j:Int)<(k:Int):=by omega
    have jI2:(j:Int)<(k:Int)+1:=by omega
    have jN:(0:Int)<=(j:Int):=by omega
    obtain⟨b1,o1',rfl,hb1,hc1⟩:=HR.out.2.2 (by omega)
    have cy:=zcz (base:=W0.heap.size) ((HO1.out.2.cell (p:=⟨b1,o1'+j,none⟩) hb1).trans (hc1 j hmore)) hb1
    obtain⟨cx0,fx0⟩:=HO1.out.cell (i+j) (by rw[HN1.out];omega)
    have cx2:wr.drew.cell? ⟨g,i+j,none⟩=some (.int .u32 (L1[i+j]?.getD 0)):=cx0
    have fx:wr.drew.frozen? ⟨g,i+j,none⟩=false:=fx0
    have zr:=HA1.out.at (i+j)
    have yr:=RB.out.num j
    have hS:=zwd (fun(r q:Int) (h:r+1*(4294967296*q)=L1[i+j]?.getD 0+1*(ys[j]?.getD 0+o))=>zp3 (by rw[HN1.out];omega) HV1.out h)
    have HSET:=zwd (fun v=>(HO1.out.set hg (i+j) v).drew)
    generalize L1[i+j]?.getD 0=z at*
    generalize ys[j]?.getD 0=y at*
    clear hc1 HV1 cx0 fx0
    go_wp2_with fail
    refine zaa (Below W0.heap.size) (Below.refl _) (fun _ _ _=>Below.trans) [(0,false),(1,false),(2,false),(3,false),(4,false),(6,false),(7,false),(8,false),(9,false),(10,false),(5,true),(11,true),(12,false),(13,false),(14,false),(15,false),(16,true),(17,false)] (by kernel_rfl) (by kernel_rfl) rfl (by kernel_rfl) (fun _ _ _ _ _ h=>h) ?_
    repeat(refine zab _ rfl (by rfl) (fun W hW=>by go_simp;first|done|rfl) ?_;simp only[Act.put,zwe,zwg,zwf])
    refine zad rfl (by rfl) (fun K1 hK1=> ?_)
    unfold Oper.wp
    go_simp
    refine hK1 _ _ (Below.refl _ _) ?_
    clear hK1 K1 cy
    try simp only[Act.put,zwe,zwg,zwf]
    refine zad rfl (by rfl) (fun K1 hK1=> ?_)
    go_simp
    refine(zhb z y o wr.drew zr.1 zr.2 yr.1 yr.2 o0 o1).mono ?_
    rintro e w' ⟨rfl,r,q',rfl,r0,r1,q0',q1',hrq⟩
    have HRQ:=zwd (hS.out r q' hrq)
    refine hK1 _ _ (Below.refl _ _) ?_
    clear hK1 K1
    try simp only[Act.put,zwe,zwg,zwf]
    repeat(refine zab _ rfl (by rfl) (fun W hW=>by go_simp;first|done|rfl) ?_;try simp only[Act.put,zwe,zwg,zwf])
    refine zad rfl (by rfl) (fun K1 hK1=> ?_)
    unfold Oper.wp
    go_simp
    refine hK1 _ _ ((Below.refl _ _).setCell (p:=⟨g,i+j,none⟩) hg _) ?_
    clear hK1 K1 cx2 fx
    try simp only[Act.put,zwe,zwg,zwf]
    refine zab _ rfl (by rfl) (fun W hW=>by go_simp;first|done|rfl) ?_
    try simp only[Act.put,zwe,zwg,zwf]
    refine zai ?_
    have O5:=zwd (HSET.out r)
    have N5:Hid (Only g w (wr.setCell ⟨g,i+j,none⟩ (.int .u32 r)).drew):=zwd (ON1.out.set (i+j) (.int .u32 r))
    clear HSET
    generalize(wr.setCell ⟨g,i+j,none⟩ (.int .u32 r)).drew=w5 at*
    go_wp2_with fail
    go_roundw
    case rel=>exact⟨j+1,_,_,rfl,by go_num,by omega,q0',q1',O5.out,HA1.out.set (by omega) r0 r1,HRQ.out,N5.out⟩
    case measure=>simp only[intOf];exact zbm hjM
  · obtain rfl:j=k:=by omega
    have t1:decide ((j:Int)<(j:Int))=false:=decide_eq_false (by omega)
    have jI2:(j:Int)<(j:Int)+1:=by omega
    have jN:(0:Int)<=(j:Int):=by omega
    have E:=HV1.out
    rw[List.take_of_length_le (by rw[HR.out.1];omega)]at E
    obtain⟨cx,fx⟩:=HO1.out.cell (i+j) (by rw[HN1.out];omega)
    have zr:=HA1.out.at (i+j)
    have hS:=zwd (fun(r q:Int) (h:r+1*(4294967296*q)=L1[i+j]?.getD 0+1*(0+o))=>zsL (by rw[HN1.out];omega) E h)
    have HSET:=zwd (fun v=>HO1.out.set hg (i+j) v)
    generalize L1[i+j]?.getD 0=z at*
    clear E HV1
    go_wp2_with (go_at_call 236;go_must (refine(zhb z 0 o wr zr.1 zr.2 (by omega) (by omega) o0 o1).mono ?_;rintro e w' ⟨rfl,r,q',rfl,r0,r1,q0',q1',hrq⟩;have HRQ:=zwd (hS.out r q' hrq);have r0h:=zwd r0;have r1h:=zwd r1;have q0h:=zwd q0';have q1h:=zwd q1';clear hrq r0 r1 q0' q1'))
    go_ret
    exact⟨_,_,rfl,q0h.out,q1h.out,HSET.out _,HA1.out.set (by omega) r0h.out r1h.out,HRQ.out,ON1.out.set _ _⟩
theorem zaz.part {W0 wr:World} {g cap n:Nat} {L:List Int} (h:zaz W0 wr (.slice (some ⟨g,0,none⟩) n cap) L) (hL:zay L) {i m:Nat} (hi:i+m<=L.length):zat wr (some ⟨g,i,none⟩) m ((L.drop i).take m):=by
 refine⟨by rw[List.length_take,List.length_drop];omega,(hL.drop i).take m,fun h0=>⟨g,i,rfl,?_,fun j hj=> ?_⟩⟩
 · exact zc1 (h.cell i (by omega)).1
 · rw[(h.cell (i+j) (by omega)).1,List.getElem?_take,if_pos hj,List.getElem?_drop]
theorem zjC (W0 w:World) (g M cap i k cP cb:Nat) (b:Option Addr) (L ys:List Int) (ho:zaz W0 w (.slice (some ⟨g,0,none⟩) M cap) L) (hln:L.length=M) (hg:W0.heap.size<=g) (hL:zay L) (hi:i+k+1<=M) (hM:M<=100000) (hr:zat W0 b k ys) (h2:2<=k) (htop:ys[k-1]?.getD 0≠0) (hlt:valZ (L.drop i)<valZ ys*4294967296) (hz:∀j,i+k+1<=j->L[j]?.getD 0=0):
 Calls Tryz.prog 221 #[.slice (some ⟨g,i,none⟩) (k+1) cP,.slice b k cb] w fun e w'=>∃L',e= .returned (.int .u32 (valZ (L.drop i)/valZ ys))/\ zaz W0 w' (.slice (some ⟨g,0,none⟩) M cap) L'/\ zcw L L' i k/\ valZ (L'.drop i)=valZ (L.drop i)%valZ ys/\ Only g w w':=by
 have dl:=zl0 hL (i:=i) (n:=k+1) (by intro j hj;exact hz j (by omega))
 have M0:0<valZ ys:=by omega
 have ER:=zwd (zky (some ⟨g,i,none⟩) b (k+1) k cP cb ((L.drop i).take (k+1)) ys w (ho.part hL (by omega)) (hr.below ho.2) rfl h2 (by omega) htop (by rw[dl.2.2];exact hlt))
 rw[dl.2.2]at ER
 have DL:Hid (∀L',zcw L L' i k->0<=valZ (L'.drop i)/\ valZ (L'.drop i)<4294967296^(k+1)):=zwd (fun L' hA=>by
  have:=zl0 hA.2.1 (i:=i) (n:=k+1) (by intro j hj;rw[hA.2.2.2 j (by omega)];exact hz j (by omega))
  exact⟨this.1,this.2.1⟩)
 have HO:=zwd ho
 have HLN:=zwd hln
 have HLL:=zwd hL
 have HR:=zwd hr
 have P0:=dl.1
 clear ho hln hL hr hz hlt htop dl
 go_enter Tryz.func221,Tryz.ntmps221
 go_wp2_with fail
 refine wp_scope_jumps 0 (fun a' w'=>∃(d o:Int) (L1:List Int) (u7 u8 u9 u10 u11 u12 u13 u14 u15 u16 u17 u18 u19 u20 u21 u22 u23:Value),a'= {tmps:=#[.slice (some ⟨g,i,none⟩) (k+1) cP,.slice b k cb,undef,undef,.int .u32 0,.int .u32 d,.int .u32 o,u7,u8,u9,u10,u11,u12,u13,u14,u15,u16,u17,u18,u19,u20,u21,u22,u23],defers:=[]}/\ 0<=d/\ d<=4294967295/\ 0<=o/\ o<=1/\ zhi (valZ (L.drop i)) (valZ ys) (4294967296^(k+1)) d o (valZ (L1.drop i))/\ zaz W0 w' (.slice (some ⟨g,0,none⟩) M cap) L1/\ zcw L L1 i k/\ Only g w w') (fun a' _=>(intOf (a'.tmps.getD 5 undef)).toNat) rfl ?_ ?_
 · go_wp2_with fail
   refine ER.out.mono ?_
   rintro e w2 ⟨d,rfl,d0,d1,d2,hb2⟩
   have O2:=zwd (HO.out.below hb2)
   have N2:Hid (Only g w w2):=zwd (.of_below hb2)
   have SM:=zwd (zk5 W0 w2 g M cap i k cP cb b L ys d O2.out HLN.out hg HLL.out hi hM HR.out (by omega) d2)
   clear hb2 ER
   go_wp2_with fail
   refine SM.out.mono ?_
   rintro e w3 ⟨L1,o,rfl,o0,o1,ho3,hA3,hv3,hon3⟩
   have DG:Hid (zhi (valZ (L.drop i)) (valZ ys) (4294967296^(k+1)) d o (valZ (L1.drop i))):=zwd ⟨hv3,d0,(DL.out L1 hA3).1,(DL.out L1 hA3).2,M0,P0⟩
   have O3:=zwd ho3
   have A3:=zwd hA3
   have N3:=zwd (N2.out.trans hon3)
   clear SM ho3 hA3 hv3 hon3 O2
   go_wp2_with fail
   go_step3
   by_cases hq:o=0
   · subst hq
     have t0:((0:Int)==0)=true:=rfl
     have F:=zwd DG.out.done
     rw[F.out.1]
     go_wp2_with fail
     go_big_unhide
     simp only[Exit.jump]
     go_ret
     exact⟨L1,rfl,O3.out,A3.out,F.out.2,N3.out⟩
   · obtain rfl:o=1:=by omega
     have t0:((1:Int)==0)=false:=rfl
     have ls:=DG.out.less
     have k1:IntKind.u32.wrap (d-1)=d-1:=IntWalk.u32_in _ (by omega)
     have AT:=zwd (zk6 W0 w3 g M cap i k cP cb b L1 ys O3.out (A3.out.1.trans HLN.out) hg A3.out.2.1 hi hM HR.out)
     go_wp2_with fail
     refine AT.out.mono ?_
     rintro e w4 ⟨L2,c,rfl,c0,c1,ho4,hA4,hv4,hon4⟩
     have A4:=A3.out.trans hA4
     have DG4:Hid (zhi (valZ (L.drop i)) (valZ ys) (4294967296^(k+1)) (d-1) (1-c) (valZ (L2.drop i))):=zwd (DG.out.next hv4 (DL.out L2 A4).1 (DL.out L2 A4).2)
     have k2:IntKind.u32.wrap (1-c)=1-c:=IntWalk.u32_in _ (by omega)
     have O4:=zwd ho4
     have AA4:=zwd A4
     have N4:=zwd (N3.out.trans hon4)
     clear AT ho4 hA4 hv4 hon4 A4
     go_wp2_with fail
     go_step3
     exact⟨rfl,⟨d-1,1-c,L2,_,_,_,_,_,_,_,_,_,_,_,_,_,_,_,_,_,rfl,by omega,by omega,by omega,by omega,DG4.out,O4.out,AA4.out,N4.out⟩⟩
 · rintro a' w3 ⟨d,o,L1,u7,u8,u9,u10,u11,u12,u13,u14,u15,u16,u17,u18,u19,u20,u21,u22,u23,rfl,d0',d2,o0,o1,hd,ho3,hA3,hon3⟩
   have DG:=zwd hd
   have O3:=zwd ho3
   have A3:=zwd hA3
   have N3:=zwd hon3
   clear hd ho3 hA3 hon3 ER HO
   by_cases hq:o=0
   · subst hq
     have t0:((0:Int)==0)=true:=rfl
     have F:=zwd DG.out.done
     rw[F.out.1]
     go_wp2_with fail
     go_big_unhide
     simp only[Exit.jump]
     go_ret
     exact⟨L1,rfl,O3.out,A3.out,F.out.2,N3.out⟩
   · obtain rfl:o=1:=by omega
     have t0:((1:Int)==0)=false:=rfl
     have ls:=DG.out.less
     have k1:IntKind.u32.wrap (d-1)=d-1:=IntWalk.u32_in _ (by omega)
     have AT:=zwd (zk6 W0 w3 g M cap i k cP cb b L1 ys O3.out (A3.out.1.trans HLN.out) hg A3.out.2.1 hi hM HR.out)
     go_wp2_with fail
     refine AT.out.mono ?_
     rintro e w4 ⟨L2,c,rfl,c0,c1,ho4,hA4,hv4,hon4⟩
     have A4:=A3.out.trans hA4
     have DG4:Hid (zhi (valZ (L.drop i)) (valZ ys) (4294967296^(k+1)) (d-1) (1-c) (valZ (L2.drop i))):=zwd (DG.out.next hv4 (DL.out L2 A4).1 (DL.out L2 A4).2)
     have k2:IntKind.u32.wrap (1-c)=1-c:=IntWalk.u32_in _ (by omega)
     have O4:=zwd ho4
     have AA4:=zwd A4
     have N4:=zwd (N3.out.trans hon4)
     clear AT ho4 hA4 hv4 hon4 A4
     go_wp2_with fail
     go_step3
     refine⟨rfl,⟨d-1,1-c,L2,_,_,_,_,_,_,_,_,_,_,_,_,_,_,_,_,_,rfl,by omega,by omega,by omega,by omega,DG4.out,O4.out,AA4.out,N4.out⟩,?_⟩
     show(d-1).toNat<d.toNat
     omega
theorem zaz.lt {W0 w:World} {g n cap:Nat} {L:List Int} (h:zaz W0 w (.slice (some ⟨g,0,none⟩) n cap) L):g<w.heap.size:=by
 rcases h.1.2 with⟨e,_⟩|⟨b,cap,cur,e,h1,h2,h3⟩
 · cases e
 · injection e with e1 e2 e3
   injection e1 with e1
   injection e1 with e1
   subst e1
   exact(Array.getElem?_eq_some_iff.1 h2).1
theorem zjD {ops:Array Oper} {rest:List Oper} {o:Oper} {a:Act} {Q:Exit->Act->World->Prop} {w:World} {zs ns:List Int} {A:Option Addr} {ad:Addr} {n m c:Nat} (hgd:o.guard=none) (s x:Operand)
 (hop:o.op= .call {callee:= .builtin .append,args:=#[s,x],argTypes:=#[23,23]}) (hs:a.eval s= .slice A n n) (hr:zat w A n zs) (hx:a.eval x= .slice (some ad) m c) (hrx:zat w (some ad) m ns) (hm:1<=m) (hl:n+m<=1000000)
 (h:∀g cap w',w.heap.size<=g->zaz w w' (.slice (some ⟨g,0,none⟩) (n+m) cap) (zs++ns)->wpList Tryz.prog ops Q rest (a.put o.dst (.slice (some ⟨g,0,none⟩) (n+m) cap)) w'):wpList Tryz.prog ops Q (o::rest) a w:=by
 obtain⟨i0,hi5,hz0,hz1,hz2⟩:=info_parts Tryz.info32
 refine wpList_append_grows w hgd s x 23 hop 22 i0 (.int .u32 0) 1 4 Tryz.underlying23 hi5 hz0 hz1 hz2 rfl (by decide) A n n (zs.map (Value.int .u32)) hs (fun e=>by subst e;have:=(zfX hr).1;omega) (by rw[List.length_map,hr.1,Nat.mul_one]) (fun b hb=>by subst hb;exact hr.cells) ad m c (ns.map (Value.int .u32)) hx (by rw[List.length_map,hrx.1,Nat.mul_one]) hrx.cells ?_ (by omega) (by unfold maxLen;omega) (by omega) ?_
 · intro u hu
   obtain⟨_,_,rfl⟩:=List.mem_map.1 hu
   rfl
 · intro V' w' hown hg
   have ho:zaz w w' V' (zs++ns):=by
    refine⟨?_,(Below.refl _ _).grown hg (Nat.le_refl _) (fun k hk=>by cases hk)⟩
    rw[List.length_append,hr.1,hrx.1,List.map_append]
    exact hown
   have hlen:(zs++ns).length=n+m:=by rw[List.length_append,hr.1,hrx.1]
   obtain⟨g,cap,rfl,hgg⟩:=ho.form (by omega)
   rw[hlen]at ho⊢
   exact h g cap w' hgg ho
theorem zub {ys:List Int} {k:Nat} (hy:zay ys) (hl:ys.length=k) (hk:1<=k) (ht:ys[k-1]?.getD 0≠0):4294967296^(k-1)<=valZ ys:=by
 obtain⟨j,rfl⟩:∃j,k=j+1:=⟨k-1,by omega⟩
 rw[show j+1-1=j by omega]at ht⊢
 have e:=za0 ys j
 rw[zaN ys j,show ys.drop (j+1)=[]from List.drop_of_length_le (by omega),valZ,Int.mul_zero,Int.add_zero]at e
 have t:=zcg hy j
 have r:=hy.at j
 have p:=zaM j
 have:=Int.mul_le_mul_of_nonneg_left (show(1:Int)<=ys[j]?.getD 0 by omega) (Int.le_of_lt p)
 rw[Int.mul_one]at this
 omega
def zuc (q r:Int) (N:Nat) (w:World) (e:Ending) (w':World):Prop:=
 ∃(a b:Option Addr) (n c k d:Nat) (zs us:List Int),e= .returned (.tuple #[.slice a n c,.slice b k d])/\ zat w' a n zs/\ zat w' b k us/\ valZ zs=q/\ valZ us=r/\ n<=N/\ k<=N/\ (a=none->c=0)/\ (b=none->d=0)/\ n<=c/\ k<=d/\ Below w.heap.size w w'
theorem zoB (a b:Option Addr) (n ca k cb:Nat) (xs ys:List Int) (w:World) (hr:zat w a n xs) (hn:n<=40000) (hnil:a=none->ca=0) (hs:zat w b k ys) (h2:2<=k) (hk:k<=40000) (htop:ys[k-1]?.getD 0≠0):
 Calls Tryz.prog 197 #[.slice a n ca,.slice b k cb] w (zuc (valZ xs/valZ ys) (valZ xs%valZ ys) (n+1) w):=by
 obtain⟨i0,hi,hz0,hz1,hz2⟩:=info_parts Tryz.info32
 have LX:=zap hr
 have LY:=zap hs
 have BO:=zwd (zmY a n ca xs w hr (by omega) hnil)
 have HS:=zwd hs
 have TP:=zwd htop
 have hNn:(limZ (valZ xs)).length<=n:=by have:=(zcn LX).1;have:=hr.1;omega
 have M1:=zwd (zub LY hs.1 (by omega) htop)
 have M2:Hid (valZ ys<4294967296^k):=zwd (by have:=zdN LY;rwa[hs.1]at this)
 have M0:Hid (0<valZ ys):=zwd (by have:=zub LY hs.1 (by omega) htop;have:=zaM (k-1);omega)
 have NV:Hid (valZ (limZ (valZ xs))=valZ xs):=zwd (zca (zaA LX))
 have NL:=zwd (zbo (valZ xs))
 have NT:=zwd (zcn LX)
 have HLX:=zwd LX
 obtain⟨N,hN⟩:∃N,(limZ (valZ xs)).length=N:=⟨_,rfl⟩
 rw[hN]at BO hNn NT
 have HN:=zwd hN
 clear hr hs htop LX LY hN
 obtain⟨q,hq⟩:∃q:Nat,(q:Int)=max ((N:Int)+1-k) 0:=⟨(N+1-k:Nat),by omega⟩
 obtain⟨D,hD⟩:∃D:Int,(N:Int)+1-k=D:=⟨_,rfl⟩
 have hmax:max D 0=(q:Int):=by omega
 have w1:IntKind.i64.wrap ((N:Int)+1-k)=D:=by rw[hD];exact IntWalk.i64_in _ (by omega)
 have w2:IntKind.i64.wrap ((q:Int)-1)=(q:Int)-1:=IntWalk.i64_in _ (by omega)
 have HQ:=zwd hq
 have HD:=zwd hD
 have qN:q<=n+1:=by omega
 clear hq hD
 go_enter Tryz.func197,Tryz.ntmps197
 go_wp2_with fail
 refine BO.out.mono ?_
 rintro e w2 ⟨a',c,rfl,ho⟩
 have hnm:=ho.normed HLX.out
 have R2:=zwd (hnm.1.norm)
 rw[HN.out]at R2
 have B2:=zwd ho.2
 clear ho hnm BO
 have Z3:Hid (zat (w2.alloc (.cells #[.int .u32 0] 22)) (some ⟨w2.heap.size,0,none⟩) 1 [0]):=zwd (zbs w2 [0] (by intro x hx;simp at hx;omega))
 have R3:Hid (zat (w2.alloc (.cells #[.int .u32 0] 22)) a' N (limZ (valZ xs))):=zwd (R2.out.below ((Below.refl _ _).alloc (Nat.le_refl _) _))
 have B3:Hid (Below w.heap.size w (w2.alloc (.cells #[.int .u32 0] 22))):=zwd (Below.step B2.out ((Below.refl _ _).alloc (Nat.le_refl _) _))
 have hN1:N+1<=1000000:=by omega
 have HZ:=zwd hz2
 clear hz2
 go_wp2_with (first
  |(at_builtin;go_must (refine zjD rfl _ _ rfl rfl R3.out rfl Z3.out (by decide) hN1 ?_;intro g cap w4 hg4 ho4;have O4:=zwd (ho4.wider B3.out);have G4:=zwd hg4;clear ho4 hg4))
  |(at_make;refine wpList_make_full _ rfl _ _ 23 rfl w4.heap.size 22 i0 (.int .u32 0) 1 Tryz.underlying23 hi hz0 hz1 _ _ _ _ q rfl rfl ?b0 ?b00 ?b1 ?b2 ?b3 ?_))
 case b0=>first|rfl|omega
 case b00=>first|rfl|omega
 case b1=>rw[HZ.out];omega
 case b2=>unfold maxLen;omega
 case b3=>exact Nat.le_refl _
 intro w5 hown0 hgrow
 have hgw:w.heap.size<=g:=Nat.le_trans (Nat.le_trans B2.out.size (by simp)) G4.out
 have hgq:=O4.out.lt
 have O5:=zwd (O4.out.below (zbX hown0 hgrow).2)
 have Q5:=zwd ((zbX hown0 hgrow).wider O4.out.2)
 clear hown0 hgrow HZ hz1 hz0 hi R2 R3 Z3 B3 G4
 have hwq:w.heap.size<=w4.heap.size:=O4.out.2.size
 clear O4
 generalize w4.heap.size=gq at*
 have hne:gq≠g:=by omega
 have LN1:Hid ((limZ (valZ xs)++[0]).length=N+1):=zwd (by rw[List.length_append,HN.out];rfl)
 have VN1:Hid (valZ (limZ (valZ xs)++[0])=valZ xs):=zwd (by rw[zdM,NV.out];simp[valZ])
 have LL1:Hid (zay (limZ (valZ xs)++[0])):=zwd (ziB NL.out (by omega) (by omega))
 have TOP:Hid (valZ ((limZ (valZ xs)++[0]).drop q)<valZ ys):=zwd (zux LL1.out LN1.out (by rw[List.getElem?_append_right (by rw[HN.out];omega),HN.out];simp) HQ.out (by omega) M1.out)
 go_wp2_with fail
 go_loopw [6] (fun iV wr=>∃(i:Nat) (L Q:List Int),iV= .int .i64 ((i:Int)-1)/\ i<=q/\ zaz w wr (.slice (some ⟨g,0,none⟩) (N+1) cap) L/\ zay L/\ L.length=N+1/\ zaz w wr (.slice (some ⟨gq,0,none⟩) q q) Q/\ zay Q/\ Q.length=q/\ (∀j,j<i->Q[j]?.getD 0=0)/\ valZ xs=valZ L+valZ ys*valZ Q/\ valZ (L.drop i)<valZ ys) (fun iV _=>(intOf iV+1).toNat)
 case atStart=>exact⟨q,_,_,rfl,Nat.le_refl _,O5.out,LL1.out,LN1.out,Q5.out,zby _,by simp,fun j _=>by rw[List.getElem?_replicate];split<;>rfl,by rw[zbW,VN1.out];omega,TOP.out⟩
 case round=>
  obtain⟨i,L,Q,rfl,hi,ho,hL,hlen,hoq,hLQ,hlq,hzq,hval,hlt⟩:=hrel
  have HO:=zwd ho
  have HL:=zwd hL
  have HLN:=zwd hlen
  have HOQ:=zwd hoq
  have HLQ:=zwd hLQ
  have HQN:=zwd hlq
  have HZQ:=zwd hzq
  have HV:=zwd hval
  have HLT:=zwd hlt
  clear ho hL hlen hoq hLQ hlq hzq hval hlt O5 Q5 TOP
  rcases Nat.eq_zero_or_pos i with h0|h0
  · subst h0
    rw[show((0:Nat):Int)-1= -1 by rfl]
    have t0:decide ((0:Int)<= -1)=false:=by decide
    have E:=zwd (zuy HL.out HV.out M0.out HLT.out)
    have RQ:=zwd (HOQ.out.normed HLQ.out)
    have RR:=zwd (HO.out.normed HL.out)
    go_wp2_with fail
    go_ret2
    exact⟨_,_,_,_,_,_,_,_,rfl,RQ.out.1,RR.out.1,E.out.1,E.out.2,qN,by omega,RQ.out.2.2,RR.out.2.2,RQ.out.2.1,RR.out.2.1,HO.out.2⟩
  · obtain⟨j,rfl⟩:∃j,i=j+1:=⟨i-1,by omega⟩
    rw[show((j+1:Nat):Int)-1=(j:Int)by omega]
    have t0:decide ((0:Int)<=(j:Int))=true:=decide_eq_true (by omega)
    have DS:=zp4 HL.out HLT.out M2.out
    have hcap:=zg1 HO.out.1
    have hNk:j+k+1<=N+1:=by have:=HQ.out;omega
    have DC:=zwd (zjC w wr g (N+1) cap j k (cap-j) cb b L ys HO.out HLN.out hgw HL.out hNk (by omega) HS.out h2 TP.out DS.2.1 DS.2.2)
    have PQ:0<=valZ (L.drop j)/valZ ys/\ valZ (L.drop j)/valZ ys<=4294967295:=by
     have a1:0<=valZ (L.drop j)/valZ ys:=Int.ediv_nonneg DS.1 (Int.le_of_lt M0.out)
     have a2:valZ (L.drop j)/valZ ys<4294967296:=Int.ediv_lt_of_lt_mul M0.out (by rw[Int.mul_comm];exact DS.2.1)
     exact⟨a1,by omega⟩
    have RMD:valZ (L.drop j)%valZ ys<valZ ys:=Int.emod_lt_of_pos _ M0.out
    have RD:=zwd (fun(L':List Int) (ht:L'.take j=L.take j) h'=>zp5 (Q:=Q) ht rfl (HZQ.out j (by omega)) (by rw[HQN.out];omega) HV.out h')
    generalize valZ (L.drop j)/valZ ys=d at*
    generalize valZ (L.drop j)%valZ ys=rm at*
    have i1:IntKind.i64.wrap ((j:Int)+(k:Int))=(j:Int)+(k:Int):=IntWalk.i64_in _ (by omega)
    have i2:IntKind.i64.wrap ((j:Int)+(k:Int)+1)=(j:Int)+(k:Int)+1:=IntWalk.i64_in _ (by omega)
    have i3:IntKind.i64.wrap ((j:Int)-1)=(j:Int)-1:=IntWalk.i64_in _ (by omega)
    have i4:(j:Int)<=(j:Int)+(k:Int)+1:=by omega
    have i5:(j:Int)+(k:Int)+1<=(cap:Int):=by omega
    have i6:0<=(j:Int)+(k:Int)+1:=by omega
    have i7:((j:Int)+(k:Int)+1).toNat=j+k+1:=by omega
    have i8:j+k+1-j=k+1:=by omega
    have i9:¬cap=j:=by omega
    have iq:(j:Int)<(q:Int):=by omega
    clear DS
    go_wp2_with fail
    refine DC.out.mono ?_
    rintro e w6 ⟨L',rfl,ho6,hA6,hv6,hon6⟩
    have OQ6:=HOQ.out.only hon6 hne ho6.2
    obtain⟨cx,fx⟩:=OQ6.cell j (by rw[HQN.out];omega)
    have V6:=zwd (RD.out L' hA6.2.2.1 hv6)
    have S6:Hid (valZ (L'.drop j)<valZ ys):=zwd (by rw[hv6];exact RMD)
    have L6:=zwd hA6.2.1
    have N6:Hid (L'.length=N+1):=zwd (hA6.1.trans HLN.out)
    have O7:=zwd (ho6.only (Only.set (.refl gq w6) j (.int .u32 d)) hne.symm (ho6.2.setCell (p:=⟨gq,j,none⟩) hwq _))
    have Q7:=zwd (OQ6.set hwq j d)
    clear OQ6 ho6 hA6 hv6 hon6 RD DC HO HOQ HV HLT
    go_wp2_with fail
    go_roundw
    case rel=>exact⟨j,L',_,rfl,by omega,O7.out,L6.out,N6.out,Q7.out,zbD HLQ.out j PQ.1 PQ.2,by rw[List.length_set];exact HQN.out,fun m hm=>by rw[List.getElem?_set_ne (by omega)];exact HZQ.out m (by omega),V6.out,S6.out⟩
    case measure=>simp only[intOf];omega
theorem Tryz.info32s:(Tryz.prog.info? 22).map (fun i=>(i.zero,i.size,i.bytes))=some (some (.int .u32 0),1,4):=by kernel_rfl
theorem zdU (w:World) (n:Nat) (hn:n<=1000000):zaz w (w.alloc (.cells (madeCells #[.int .u32 0] n) 22)) (.slice (some ⟨w.heap.size,0,none⟩) n n) (List.replicate n 0):=by
 refine⟨⟨by simp,.inr ⟨w.heap.size,n,_,by simp,Nat.le_refl _,heap_alloc_new w _,by simp,by unfold maxLen;omega,by rw[size_madeCells];simp,?_⟩⟩,(Below.refl _ _).alloc (Nat.le_refl _) _⟩
 rw[toList_madeCells_one]
 simp
theorem zoC (a:Option Addr) (n ca:Nat) (xs:List Int) (m:Int) (w:World) (hr:zat w a n xs) (hn:n<=40000) (m0:0<m) (m1:m<=4294967295):
 Calls Tryz.prog 196 #[.slice a n ca,.int .u32 m] w (zuc (valZ xs/m) (valZ xs%m) (n+1) w):=by
 have HR:=zwd hr
 have w2:IntKind.i64.wrap ((n:Int)-1)=(n:Int)-1:=IntWalk.i64_in _ (by omega)
 have hm1:=run_make_row' (P:=Tryz.prog) 23 22 (.int .u32 0) 4 Tryz.underlying23 Tryz.info32s rfl .i64 .i64 n (by omega) (by omega)
 have hm2:∀W:World,(Instr.makeSlice 23 (.int .i64 1) (.int .i64 1)).run Tryz.prog W= .ok (.slice (some ⟨W.heap.size,0,none⟩) 1 1) (W.alloc (.cells (madeCells #[.int .u32 0] 1) 22)):=run_make_row' (P:=Tryz.prog) 23 22 (.int .u32 0) 4 Tryz.underlying23 Tryz.info32s rfl .i64 .i64 1 (by omega) (by omega)
 clear hr
 go_enter Tryz.func196,Tryz.ntmps196
 go_wp2_with fail
 go_region
 · obtain⟨gq,h0⟩:∃gq,gq=w.heap.size:=⟨_,rfl⟩
   obtain⟨gr,h1⟩:∃gr,gr=w.heap.size+1:=⟨_,rfl⟩
   have FA:zaz w (((w.alloc (.cells (madeCells #[.int .u32 0] n) 22)).alloc (.cells (madeCells #[.int .u32 0] 1) 22)).drew) (.slice (some ⟨gq,0,none⟩) n n) (List.replicate n 0):=by rw[h0];exact((zdU w n (by omega)).alloc _).drew
   have FB:zaz w (((w.alloc (.cells (madeCells #[.int .u32 0] n) 22)).alloc (.cells (madeCells #[.int .u32 0] 1) 22)).drew) (.slice (some ⟨gr,0,none⟩) 1 1) (List.replicate 1 0):=by
    have:=(zdU (w.alloc (.cells (madeCells #[.int .u32 0] n) 22)) 1 (by omega)).wider ((Below.refl _ _).alloc (Nat.le_refl _) _)
    simp only[World.size_alloc]at this
    rw[h1]
    exact this.drew
   have HQ0:=zwd FA
   have HR0:=zwd FB
   have hgq:w.heap.size<=gq:=by omega
   have hgr:w.heap.size<=gr:=by omega
   have hne:gq≠gr:=by omega
   rw[<-h1,<-h0]
   clear FA FB h0 h1 hm1 hm2
   generalize((w.alloc (.cells (madeCells #[.int .u32 0] n) 22)).alloc (.cells (madeCells #[.int .u32 0] 1) 22)).drew=w5 at*
   go_wp2_with fail
   go_loopw [6] (fun iV wr=>∃(i:Nat) (Q:List Int) (r:Int),iV= .int .i64 ((i:Int)-1)/\ i<=n/\ zaz w wr (.slice (some ⟨gq,0,none⟩) n n) Q/\ zay Q/\ Q.length=n/\ zaz w wr (.slice (some ⟨gr,0,none⟩) 1 1) [r]/\ 0<=r/\ r<m/\ valZ (xs.drop i)=m*valZ (Q.drop i)+r) (fun iV _=>(intOf iV+1).toNat)
   case atStart=>exact⟨n,_,0,rfl,Nat.le_refl _,HQ0.out,zby _,by simp,HR0.out,by omega,m0,by rw[List.drop_of_length_le (by rw[HR.out.1];omega),List.drop_of_length_le (by simp)];simp[valZ]⟩
   case round=>
    obtain⟨i,Q,r,rfl,hi,hoq,hLQ,hlq,hor,r0,r1,hval⟩:=hrel
    have HOQ:=zwd hoq
    have HLQ:=zwd hLQ
    have HQN:=zwd hlq
    have HOR:=zwd hor
    have HV:=zwd hval
    have hszr:=hoq.2.size
    clear hoq hLQ hlq hor hval HQ0 HR0
    rcases Nat.eq_zero_or_pos i with h0|h0
    · subst h0
      rw[show((0:Nat):Int)-1= -1 by rfl]
      have t0:decide ((0:Int)<= -1)=false:=by decide
      have E:=HV.out
      rw[List.drop_zero,List.drop_zero]at E
      have EE:=zwd (ze4 m0 (a:=valZ xs) (q:=valZ Q) (r:=r) (by rw[E,Int.mul_comm m]) r0 r1)
      have RQ:=zwd (HOQ.out.normed HLQ.out)
      have RR:=zwd (HOR.out.normed (a:=some ⟨gr,0,none⟩) (n:=1) (c:=1) (by intro y hy;simp at hy;omega))
      clear E
      go_wp2_with fail
      go_ret2
      exact⟨_,_,_,_,_,_,_,_,rfl,RQ.out.1,RR.out.1,EE.out.1.symm,by simp[valZ,EE.out.2],by omega,by omega,RQ.out.2.2,RR.out.2.2,RQ.out.2.1,RR.out.2.1,HOQ.out.2⟩
    · obtain⟨j,rfl⟩:∃j,i=j+1:=⟨i-1,by omega⟩
      rw[show((j+1:Nat):Int)-1=(j:Int)by omega]
      have t0:decide ((0:Int)<=(j:Int))=true:=decide_eq_true (by omega)
      have i3:IntKind.i64.wrap ((j:Int)-1)=(j:Int)-1:=IntWalk.i64_in _ (by omega)
      have iN:(j:Int)<(n:Int):=by omega
      have i1:(0:Int)<1:=by omega
      obtain⟨b1,o1,rfl,hb1,hc1⟩:=HR.out.2.2 (by omega)
      have cx:=zcz (base:=w.heap.size) ((HOQ.out.2.cell (p:=⟨b1,o1+j,none⟩) hb1).trans (hc1 j (by omega))) hb1
      have cr:wr.drew.cell? ⟨gr,0,none⟩=some (.int .u32 r):=(HOR.out.cell 0 (by simp)).1
      have xr:=HR.out.num j
      have OR:=zkx HV.out (by rw[HQN.out];omega) m0 r1 r0 HR.out.2.1 m1
      generalize xs[j]?.getD 0=x at*
      have DV:=zwd (zkw r x m wr.drew r0 r1 xr.1 xr.2 m1)
      generalize(r*4294967296+x)/m=d at*
      generalize(r*4294967296+x)%m=rm at*
      have V6:=zwd OR.1
      have d2:=OR.2
      clear hc1 HV OR
      go_wp2_with fail
      refine zaa (Below w.heap.size) (Below.refl _) (fun _ _ _=>Below.trans) [(0,false),(1,false),(2,false),(3,false),(4,false),(6,false),(7,false),(8,false),(9,false),(10,false),(5,true),(11,true),(12,false),(13,false),(14,false),(15,false),(16,true),(17,false),(18,true)] (by kernel_rfl) (by kernel_rfl) rfl (by kernel_rfl) (fun _ _ _ _ _ h=>h) ?_
      repeat(refine zab _ rfl (by rfl) (fun W hW=>by go_simp;first|done|rfl) ?_;simp only[Act.put,zwe,zwg,zwf])
      refine zad rfl (by rfl) (fun K1 hK1=> ?_)
      unfold Oper.wp
      go_simp
      refine hK1 _ _ (Below.refl _ _) ?_
      clear hK1 K1 cx cr
      try simp only[Act.put,zwe,zwg,zwf]
      refine zad rfl (by rfl) (fun K1 hK1=> ?_)
      go_simp
      refine DV.out.mono ?_
      rintro e w6 ⟨rfl,hb6⟩
      have OQ6:=HOQ.out.drew.below hb6
      have OR6:=HOR.out.drew.below hb6
      refine hK1 _ _ (hb6.mono (show w.heap.size<=wr.drew.heap.size from hszr)) ?_
      clear hK1 K1 hb6 HOQ HOR DV
      obtain⟨c1,f1⟩:=OQ6.cell j (by rw[HQN.out];omega)
      try simp only[Act.put,zwe,zwg,zwf]
      repeat(refine zab _ rfl (by rfl) (fun W hW=>by go_simp;first|done|rfl) ?_;try simp only[Act.put,zwe,zwg,zwf])
      refine zad rfl (by rfl) (fun K1 hK1=> ?_)
      unfold Oper.wp
      go_simp
      refine hK1 _ _ ((Below.refl _ _).setCell (p:=⟨gq,j,none⟩) hgq _) ?_
      have OR7:=OR6.only (Only.set (.refl gq w6) j (.int .u32 d)) (Ne.symm hne) (OR6.2.setCell (p:=⟨gq,j,none⟩) hgq _)
      have OQ7:=OQ6.set hgq j d
      clear hK1 K1 c1 f1 OQ6 OR6
      generalize w6.setCell ⟨gq,j,none⟩ (.int .u32 d)=w7 at*
      obtain⟨c2,f2⟩:=OR7.cell 0 (by simp)
      try simp only[Act.put,zwe,zwg,zwf]
      refine zab _ rfl (by rfl) (fun W hW=>by go_simp;first|done|rfl) ?_
      try simp only[Act.put,zwe,zwg,zwf]
      refine zad rfl (by rfl) (fun K1 hK1=> ?_)
      unfold Oper.wp
      go_simp
      refine hK1 _ _ ((Below.refl _ _).setCell (p:=⟨gr,0,none⟩) hgr _) ?_
      clear hK1 K1 c2 f2
      refine zai ?_
      have O8:=zwd (OQ7.only (Only.set (.refl gr w7) 0 (.int .u32 rm)) hne (OQ7.2.setCell (p:=⟨gr,0,none⟩) hgr _))
      have R8:=zwd (OR7.set hgr 0 rm)
      clear OR7 OQ7
      generalize w7.setCell ⟨gr,0,none⟩ (.int .u32 rm)=w8 at*
      go_wp2_with fail
      go_roundw
      case rel=>exact⟨j,_,rm,rfl,by omega,O8.out,zbD HLQ.out j d2.2.2.1 d2.2.2.2,by rw[List.length_set];exact HQN.out,R8.out,d2.1,d2.2.1,V6.out⟩
      case measure=>simp only[intOf];omega
 · obtain⟨gr,h0⟩:∃gr,gr=w.heap.size:=⟨_,rfl⟩
   obtain⟨gq,h1⟩:∃gq,gq=w.heap.size+1:=⟨_,rfl⟩
   have FA:zaz w (((w.alloc (.cells (madeCells #[.int .u32 0] 1) 22)).alloc (.cells (madeCells #[.int .u32 0] n) 22)).drew) (.slice (some ⟨gr,0,none⟩) 1 1) (List.replicate 1 0):=by rw[h0];exact((zdU w 1 (by omega)).alloc _).drew
   have FB:zaz w (((w.alloc (.cells (madeCells #[.int .u32 0] 1) 22)).alloc (.cells (madeCells #[.int .u32 0] n) 22)).drew) (.slice (some ⟨gq,0,none⟩) n n) (List.replicate n 0):=by
    have:=(zdU (w.alloc (.cells (madeCells #[.int .u32 0] 1) 22)) n (by omega)).wider ((Below.refl _ _).alloc (Nat.le_refl _) _)
    simp only[World.size_alloc]at this
    rw[h1]
    exact this.drew
   have HR0:=zwd FA
   have HQ0:=zwd FB
   have hgr:w.heap.size<=gr:=by omega
   have hgq:w.heap.size<=gq:=by omega
   have hne:gq≠gr:=by omega
   rw[<-h1,<-h0]
   clear FA FB h0 h1 hm1 hm2
   generalize((w.alloc (.cells (madeCells #[.int .u32 0] 1) 22)).alloc (.cells (madeCells #[.int .u32 0] n) 22)).drew=w5 at*
   go_wp2_with fail
   go_loopw [6] (fun iV wr=>∃(i:Nat) (Q:List Int) (r:Int),iV= .int .i64 ((i:Int)-1)/\ i<=n/\ zaz w wr (.slice (some ⟨gq,0,none⟩) n n) Q/\ zay Q/\ Q.length=n/\ zaz w wr (.slice (some ⟨gr,0,none⟩) 1 1) [r]/\ 0<=r/\ r<m/\ valZ (xs.drop i)=m*valZ (Q.drop i)+r) (fun iV _=>(intOf iV+1).toNat)
   case atStart=>exact⟨n,_,0,rfl,Nat.le_refl _,HQ0.out,zby _,by simp,HR0.out,by omega,m0,by rw[List.drop_of_length_le (by rw[HR.out.1];omega),List.drop_of_length_le (by simp)];simp[valZ]⟩
   case round=>
    obtain⟨i,Q,r,rfl,hi,hoq,hLQ,hlq,hor,r0,r1,hval⟩:=hrel
    have HOQ:=zwd hoq
    have HLQ:=zwd hLQ
    have HQN:=zwd hlq
    have HOR:=zwd hor
    have HV:=zwd hval
    have hszr:=hoq.2.size
    clear hoq hLQ hlq hor hval HQ0 HR0
    rcases Nat.eq_zero_or_pos i with h0|h0
    · subst h0
      rw[show((0:Nat):Int)-1= -1 by rfl]
      have t0:decide ((0:Int)<= -1)=false:=by decide
      have E:=HV.out
      rw[List.drop_zero,List.drop_zero]at E
      have EE:=zwd (ze4 m0 (a:=valZ xs) (q:=valZ Q) (r:=r) (by rw[E,Int.mul_comm m]) r0 r1)
      have RQ:=zwd (HOQ.out.normed HLQ.out)
      have RR:=zwd (HOR.out.normed (a:=some ⟨gr,0,none⟩) (n:=1) (c:=1) (by intro y hy;simp at hy;omega))
      clear E
      go_wp2_with fail
      go_ret2
      exact⟨_,_,_,_,_,_,_,_,rfl,RQ.out.1,RR.out.1,EE.out.1.symm,by simp[valZ,EE.out.2],by omega,by omega,RQ.out.2.2,RR.out.2.2,RQ.out.2.1,RR.out.2.1,HOQ.out.2⟩
    · obtain⟨j,rfl⟩:∃j,i=j+1:=⟨i-1,by omega⟩
      rw[show((j+1:Nat):Int)-1=(j:Int)by omega]
      have t0:decide ((0:Int)<=(j:Int))=true:=decide_eq_true (by omega)
      have i3:IntKind.i64.wrap ((j:Int)-1)=(j:Int)-1:=IntWalk.i64_in _ (by omega)
      have iN:(j:Int)<(n:Int):=by omega
      have i1:(0:Int)<1:=by omega
      obtain⟨b1,o1,rfl,hb1,hc1⟩:=HR.out.2.2 (by omega)
      have cx:=zcz (base:=w.heap.size) ((HOQ.out.2.cell (p:=⟨b1,o1+j,none⟩) hb1).trans (hc1 j (by omega))) hb1
      have cr:wr.drew.cell? ⟨gr,0,none⟩=some (.int .u32 r):=(HOR.out.cell 0 (by simp)).1
      have xr:=HR.out.num j
      have OR:=zkx HV.out (by rw[HQN.out];omega) m0 r1 r0 HR.out.2.1 m1
      generalize xs[j]?.getD 0=x at*
      have DV:=zwd (zkw r x m wr.drew r0 r1 xr.1 xr.2 m1)
      generalize(r*4294967296+x)/m=d at*
      generalize(r*4294967296+x)%m=rm at*
      have V6:=zwd OR.1
      have d2:=OR.2
      clear hc1 HV OR
      go_wp2_with fail
      refine zaa (Below w.heap.size) (Below.refl _) (fun _ _ _=>Below.trans) [(0,false),(1,false),(2,false),(3,false),(4,false),(6,false),(7,false),(8,false),(9,false),(10,false),(5,true),(11,true),(12,false),(13,false),(14,false),(15,false),(16,true),(17,false),(18,true)] (by kernel_rfl) (by kernel_rfl) rfl (by kernel_rfl) (fun _ _ _ _ _ h=>h) ?_
      repeat(refine zab _ rfl (by rfl) (fun W hW=>by go_simp;first|done|rfl) ?_;simp only[Act.put,zwe,zwg,zwf])
      refine zad rfl (by rfl) (fun K1 hK1=> ?_)
      unfold Oper.wp
      go_simp
      refine hK1 _ _ (Below.refl _ _) ?_
      clear hK1 K1 cx cr
      try simp only[Act.put,zwe,zwg,zwf]
      refine zad rfl (by rfl) (fun K1 hK1=> ?_)
      go_simp
      refine DV.out.mono ?_
      rintro e w6 ⟨rfl,hb6⟩
      have OQ6:=HOQ.out.drew.below hb6
      have OR6:=HOR.out.drew.below hb6
      refine hK1 _ _ (hb6.mono (show w.heap.size<=wr.drew.heap.size from hszr)) ?_
      clear hK1 K1 hb6 HOQ HOR DV
      obtain⟨c1,f1⟩:=OQ6.cell j (by rw[HQN.out];omega)
      try simp only[Act.put,zwe,zwg,zwf]
      repeat(refine zab _ rfl (by rfl) (fun W hW=>by go_simp;first|done|rfl) ?_;try simp only[Act.put,zwe,zwg,zwf])
      refine zad rfl (by rfl) (fun K1 hK1=> ?_)
      unfold Oper.wp
      go_simp
      refine hK1 _ _ ((Below.refl _ _).setCell (p:=⟨gq,j,none⟩) hgq _) ?_
      have OR7:=OR6.only (Only.set (.refl gq w6) j (.int .u32 d)) (Ne.symm hne) (OR6.2.setCell (p:=⟨gq,j,none⟩) hgq _)
      have OQ7:=OQ6.set hgq j d
      clear hK1 K1 c1 f1 OQ6 OR6
      generalize w6.setCell ⟨gq,j,none⟩ (.int .u32 d)=w7 at*
      obtain⟨c2,f2⟩:=OR7.cell 0 (by simp)
      try simp only[Act.put,zwe,zwg,zwf]
      refine zab _ rfl (by rfl) (fun W hW=>by go_simp;first|done|rfl) ?_
      try simp only[Act.put,zwe,zwg,zwf]
      refine zad rfl (by rfl) (fun K1 hK1=> ?_)
      unfold Oper.wp
      go_simp
      refine hK1 _ _ ((Below.refl _ _).setCell (p:=⟨gr,0,none⟩) hgr _) ?_
      clear hK1 K1 c2 f2
      refine zai ?_
      have O8:=zwd (OQ7.only (Only.set (.refl gr w7) 0 (.int .u32 rm)) hne (OQ7.2.setCell (p:=⟨gr,0,none⟩) hgr _))
      have R8:=zwd (OR7.set hgr 0 rm)
      clear OR7 OQ7
      generalize w7.setCell ⟨gr,0,none⟩ (.int .u32 rm)=w8 at*
      go_wp2_with fail
      go_roundw
      case rel=>exact⟨j,_,rm,rfl,by omega,O8.out,zbD HLQ.out j d2.2.2.1 d2.2.2.2,by rw[List.length_set];exact HQN.out,R8.out,d2.1,d2.2.1,V6.out⟩
      case measure=>simp only[intOf];omega
def remZ (x m:Int):Int:=if m=0 then 0 else x%m
theorem za4 {x m:Int} (h:0<m):remZ x m=x%m:=if_neg (by omega)
theorem zbA {x m:Int} (h:0<=m):0<=remZ x m:=by
 unfold remZ
 split
 · omega
 · exact Int.emod_nonneg _ (by omega)
theorem zuG {x m:Int} (h:0<m):remZ x m<m:=by rw[za4 h];exact Int.emod_lt_of_pos _ h
def ResQ (x m:Int) (n k:Nat) (w:World) (e:Ending) (w':World):Prop:=
 ∃(a:Option Addr) (n1 c:Nat) (b:Option Addr) (n2 d:Nat),e= .returned (.tuple #[.slice a n1 c,.slice b n2 d,.bool (!decide (m=0))])/\ Norm w' (x/m) a n1 c/\ Norm w' (remZ x m) b n2 d/\ n1<=n/\ n2<=k/\ Below w.heap.size w w'
def ResR (v m:Int) (k:Nat) (w:World) (e:Ending) (w':World):Prop:=
 ∃(a:Option Addr) (n c:Nat),e= .returned (.tuple #[.slice a n c,.bool (!decide (m=0))])/\ Norm w' v a n c/\ n<=k/\ Below w.heap.size w w'
theorem zeL (w:World):Norm w 0 none 0 0:=⟨by rw[zd7];rfl,by rw[zd7];exact zat.nil _ _,Nat.le_refl _,fun _=>rfl⟩
theorem zqH {x m:Int} {n:Nat} (hx:0<=x/\ x<4294967296^n) (hm:0<=m):(limZ (x/m)).length<=n:=by
 refine ze3 (Int.ediv_nonneg hx.1 hm) ?_
 rcases(show m=0 \/0<m by omega)with rfl|h
 · rw[Int.ediv_zero];exact zaM n
 · have:=Int.ediv_le_self m hx.1
   omega
theorem zqI {x m:Int} {k:Nat} (hm:0<=m/\ m<4294967296^k):(limZ (remZ x m)).length<=k:=by
 refine ze3 (zbA hm.1) ?_
 rcases(show m=0 \/0<m by omega)with rfl|h
 · exact zaM k
 · have:=zuG (x:=x) h
   omega
theorem zfb {w:World} {x m:Int} {a b:Option Addr} {n k ca cb:Nat} (hx:Num w x a n ca) (hm:Num w m b k cb) (hn:n<=30000) (hk:k<=30000):
 Calls Tryz.prog 158 #[.slice a n ca,.slice b k cb] w (ResQ x m n k w):=by
 have m0:=hm.nonneg.1
 have QL:=zwd (zqH hx.nonneg m0)
 have RL:=zwd (zqI (x:=x) hm.nonneg)
 have BC:=zwd (zeb hm (by omega))
 have HX:=zwd hx
 clear hx hm
 go_enter Tryz.func158,Tryz.ntmps158
 go_wp2_with fail
 refine BC.out.mono ?_
 rintro e w2 ⟨b',k',c',rfl,hN,hk',hb2⟩
 have X2:=zwd (HX.out.below hb2)
 have B2:=zwd hb2
 obtain⟨hkl,hrow,hkc,hnil⟩:=hN
 clear BC HX hb2
 have HK:=zwd hkl
 have HW:=zwd hrow
 obtain⟨xs,hxr,hxv,hxc,hxn⟩:=X2.out
 have HXR:=zwd hxr
 have HXV:=zwd hxv
 have HXN:=zwd hxn
 have VM:=zca m0
 have HVM:=zwd VM
 clear hkl hrow hxr hxv hxc hxn VM
 by_cases h0:k'=0
 · have hz:=zgJ m0 (by rw[<-HK.out];exact h0)
   subst h0
   subst hz
   clear HVM HW HK
   go_wp2_with fail
   go_ret3
   exact⟨none,0,0,none,0,0,by simp,by rw[Int.ediv_zero];exact zeL _,zeL _,Nat.zero_le _,Nat.zero_le _,B2.out⟩
 · have mp:0<m:=by
    rcases(show m=0 \/0<m by omega)with h|h
    · subst h
      have:=HK.out
      rw[zd7]at this
      exact absurd this h0
    · exact h
   by_cases h1:k'=1
   · subst h1
     obtain⟨bb,off,rfl,hbb,hcc⟩:=HW.out.2.2 (by omega)
     have c0:=hcc 0 (by omega)
     have e1:(limZ m)[0]?.getD 0=m:=by
      have l1:=HK.out
      have v:=HVM.out
      generalize limZ m=l at*
      match l,l1 with
      | [y],_=>simp[valZ]at v;simpa using v
     have mr:=(zbo m).at 0
     rw[e1,Nat.add_zero]at c0
     rw[e1]at mr
     have t0:(((1:Nat):Int)==0)=false:=rfl
     have i1:(0:Int)<((1:Nat):Int):=by omega
     have PC:=zwd (zoC a n ca xs m w2 HXR.out (by omega) mp mr.2)
     rw[HXV.out]at PC
     clear hcc HW HVM HXV HXR HXN
     go_wp2_with fail
     refine PC.out.mono ?_
     rintro e w3 ⟨qa,ra,nq,cq,nr,cr,zs,us,rfl,hrq,hrr,vq,vr,hnq,hnr,nlq,nlr,hcq,hcr,hb3⟩
     have B3:=Below.step B2.out hb3
     have NQ:Num w3 (x/m) qa nq cq:=⟨zs,hrq,vq,hcq,nlq⟩
     have NR:Num w3 (remZ x m) ra nr cr:=⟨us,hrr,by rw[vr,za4 mp],hcr,nlr⟩
     have C1:=zwd (zeb NQ (by omega))
     have H1:=zwd NR
     have HB3:=zwd B3
     clear hrq hrr vq vr hcq nlq hcr nlr hb3 B3 NQ NR PC X2
     go_wp2_with fail
     refine C1.out.mono ?_
     rintro e w4 ⟨q1,l1,c1,rfl,hN1,hl1,hb4⟩
     have C2:=zwd (zeb (H1.out.below hb4) (by omega))
     have HN1:=zwd hN1
     have HB4:=zwd hb4
     clear hN1 hb4 C1 H1
     go_wp2_with fail
     refine C2.out.mono ?_
     rintro e w5 ⟨q2,l2,c2,rfl,hN2,hl2,hb5⟩
     have HN2:=zwd hN2
     have HB5:=zwd hb5
     clear hN2 hb5 C2
     go_wp2_with fail
     go_ret3
     exact⟨q1,l1,c1,q2,l2,c2,by rw[show decide (m=0)=false from decide_eq_false (by omega)];rfl,HN1.out.below HB5.out,HN2.out,by rw[HN1.out.1];exact QL.out,by rw[HN2.out.1];exact RL.out,Below.step (Below.step HB3.out HB4.out) HB5.out⟩
   · have t0:((k':Int)==0)=false:=by simp;omega
     have t1:((k':Int)==1)=false:=by simp;omega
     have HTOP:(limZ m)[k'-1]?.getD 0≠0:=by
      have:=zhf (n:=m) (k:=k'-1) (by rw[<-HK.out];omega)
      exact this
     have PC:=zwd (zoB a b' n ca k' c' xs (limZ m) w2 HXR.out (by omega) HXN.out HW.out (by omega) (by omega) HTOP)
     rw[HXV.out,HVM.out]at PC
     clear HTOP HW HVM HXV HXR HXN
     go_wp2_with fail
     refine PC.out.mono ?_
     rintro e w3 ⟨qa,ra,nq,cq,nr,cr,zs,us,rfl,hrq,hrr,vq,vr,hnq,hnr,nlq,nlr,hcq,hcr,hb3⟩
     have B3:=Below.step B2.out hb3
     have NQ:Num w3 (x/m) qa nq cq:=⟨zs,hrq,vq,hcq,nlq⟩
     have NR:Num w3 (remZ x m) ra nr cr:=⟨us,hrr,by rw[vr,za4 mp],hcr,nlr⟩
     have C1:=zwd (zeb NQ (by omega))
     have H1:=zwd NR
     have HB3:=zwd B3
     clear hrq hrr vq vr hcq nlq hcr nlr hb3 B3 NQ NR PC X2
     go_wp2_with fail
     refine C1.out.mono ?_
     rintro e w4 ⟨q1,l1,c1,rfl,hN1,hl1,hb4⟩
     have C2:=zwd (zeb (H1.out.below hb4) (by omega))
     have HN1:=zwd hN1
     have HB4:=zwd hb4
     clear hN1 hb4 C1 H1
     go_wp2_with fail
     refine C2.out.mono ?_
     rintro e w5 ⟨q2,l2,c2,rfl,hN2,hl2,hb5⟩
     have HN2:=zwd hN2
     have HB5:=zwd hb5
     clear hN2 hb5 C2
     go_wp2_with fail
     go_ret3
     exact⟨q1,l1,c1,q2,l2,c2,by rw[show decide (m=0)=false from decide_eq_false (by omega)];rfl,HN1.out.below HB5.out,HN2.out,by rw[HN1.out.1];exact QL.out,by rw[HN2.out.1];exact RL.out,Below.step (Below.step HB3.out HB4.out) HB5.out⟩
def widZ (k:Nat) (v:Int):List Int:=List.replicate (k-(byZ v).length) 0++byZ v
theorem zuH {k:Nat} {v:Int} (h:(byZ v).length<=k):(widZ k v).length=k:=by
 simp[widZ]
 omega
theorem znu (k:Nat) (v:Int):∀x∈widZ k v,0<=x/\ x<=255:=by
 intro x hx
 rcases List.mem_append.1 hx with hx|hx
 · have:=List.eq_of_mem_replicate hx
   omega
 · exact zeA v x hx
theorem zqJ (k:Nat) (l:List Int):beV (List.replicate k 0++l)=beV l:=by
 unfold beV
 rw[List.foldl_append]
 congr 1
 induction k with
 |zero=>rfl
 |succ k ih=>rw[List.replicate_succ,List.foldl_cons];exact ih
theorem zuI (k:Nat) {v:Int} (hv:0<=v):beV (widZ k v)=v:=by rw[widZ,zqJ,zlX hv]
theorem zuJ {zs:List Int} (hz:∀x∈zs,0<=x/\ x<=255):widZ zs.length (beV zs)=zs:=by
 obtain⟨d,e⟩:=zpS zs hz
 have hl:zs.length=d+(byZ (beV zs)).length:=by
  have:=congrArg List.length e
  simpa using this
 unfold widZ
 rw[hl,show d+(byZ (beV zs)).length-(byZ (beV zs)).length=d by omega]
 exact e.symm
theorem zfE {zs:List Int} (h:∀x∈zs,0<=x/\ x<=255):beV zs<256^zs.length:=zm0 h
theorem zhI {v:Int} {k:Nat} (h0:0<=v) (h:v<256^k):(byZ v).length<=k:=by
 rcases Nat.lt_or_ge k (byZ v).length with hk|hk
 · have hne:(byZ v).length≠0:=by omega
   have hh:=zm3 hne
   obtain⟨x,xs,e⟩:∃x xs,byZ v=x::xs:=List.exists_cons_of_length_pos (by omega)
   have hb:=zeA v
   have ev:=zlX h0
   rw[e]at hh hk hb ev
   simp only[List.getElem?_cons_zero,Option.getD_some]at hh
   have hx:=hb x (by simp)
   rw[zfp]at ev
   have nn:=zbt (l:=xs) (fun y hy=>hb y (by simp[hy]))
   simp only[List.length_cons]at hk
   obtain⟨d,hd⟩:∃d,xs.length=k+d:=⟨xs.length-k,by omega⟩
   have p:(0:Int)<256^k:=Int.pow_pos (by decide)
   have q:(0:Int)<256^d:=Int.pow_pos (by decide)
   rw[hd,Int.pow_add]at ev
   have m1:(256:Int)^k*1<=256^k*256^d:=Int.mul_le_mul_of_nonneg_left (by omega) (Int.le_of_lt p)
   have m2:1*((256:Int)^k*256^d)<=x*(256^k*256^d):=Int.mul_le_mul_of_nonneg_right (by omega) (by omega)
   omega
 · exact hk
def errZ (ns:List Int) (e:Int) (ss:List Int):Int:=if zbM ns e=false then 1 else if ss.length≠ns.length then 6 else if beV ns<=beV ss then 6 else 0
def expZ (ns:List Int) (e:Int) (ss:List Int):Int:=remZ (beV ss^e.toNat) (beV ns)
def powZ (ns:List Int) (e:Int) (ss:List Int):List Int:=if errZ ns e ss=0 then widZ ns.length (expZ ns e ss)else []
def verZ (ns:List Int) (e:Int) (ts ss:List Int):Int:=if errZ ns e ss=0 then(if powZ ns e ss=zbh (zbV ts) ns.length then 0 else 6)else errZ ns e ss
theorem zk7 {ns:List Int} {e:Int} (hb:∀x∈ns,0<=x/\ x<=255) (h:zbM ns e=true):256^(ns.length-1)<=beV ns:=by
 have hl:=zfD h
 have hh:=zoA h
 obtain⟨x,xs,rfl⟩:∃x xs,ns=x::xs:=List.exists_cons_of_length_pos (by omega)
 simp only[List.getElem?_cons_zero,Option.getD_some]at hh
 have hx:=hb x (by simp)
 have nn:=zbt (l:=xs) (fun y hy=>hb y (by simp[hy]))
 rw[zfp,List.length_cons,Nat.add_sub_cancel]
 have q:(0:Int)<256^xs.length:=Int.pow_pos (by decide)
 have m2:1*((256:Int)^xs.length)<=x*256^xs.length:=Int.mul_le_mul_of_nonneg_right (by omega) (by omega)
 omega
theorem zqK {ns:List Int} {e:Int} (ss:List Int) (hb:∀x∈ns,0<=x/\ x<=255) (h:zbM ns e=true):0<=expZ ns e ss/\ expZ ns e ss<beV ns:=by
 have hp:=zk7 hb h
 have q:(0:Int)<256^(ns.length-1):=Int.pow_pos (by decide)
 unfold expZ
 rw[za4 (by omega)]
 exact⟨Int.emod_nonneg _ (by omega),Int.emod_lt_of_pos _ (by omega)⟩
theorem zk8 {ns:List Int} {e:Int} (ss:List Int) (hb:∀x∈ns,0<=x/\ x<=255) (h:zbM ns e=true):(byZ (expZ ns e ss)).length<=ns.length:=by
 have h1:=zqK ss hb h
 exact zhI h1.1 (Int.lt_trans h1.2 (zfE hb))
theorem zqL {ns:List Int} {e:Int} {ss:List Int} (h:errZ ns e ss=0):zbM ns e=true/\ ss.length=ns.length/\ beV ss<beV ns:=by
 unfold errZ at h
 split at h
 · omega
 · rename_i h1
   split at h
   · omega
   · rename_i h2
     split at h
     · omega
     · exact⟨by simpa using h1,by omega,by omega⟩
theorem znv (ns:List Int) (e:Int) (ss:List Int):∀x∈powZ ns e ss,0<=x/\ x<=255:=by
 unfold powZ
 split
 · exact znu _ _
 · simp
def binN:Nat->Nat->Nat
 |_,0=>1
 |0,_+1=>0
 |n+1,k+1=>binN n k+binN n (k+1)
theorem zgR (n:Nat):binN n 0=1:=by cases n<;>rfl
theorem zdV (n k:Nat):binN (n+1) (k+1)=binN n k+binN n (k+1):=rfl
theorem zgb:∀(n k:Nat),n<k->binN n k=0
 |_,0,h=>by omega
 |0,_+1,_=>rfl
 |n+1,k+1,h=>by rw[zdV,zgb n k (by omega),zgb n (k+1) (by omega)]
theorem znw:∀n:Nat,binN n n=1
 |0=>rfl
 |n+1=>by rw[zdV,znw n,zgb n (n+1) (by omega)]
theorem zjE:∀(n k:Nat),(k+1)*binN (n+1) (k+1)=(n+1)*binN n k
 |0,0=>rfl
 |0,k+1=>by rw[zdV,zgb 0 (k+1) (by omega),zgb 0 (k+1+1) (by omega)];simp
 |n+1,0=>by
   have:=zjE n 0
   rw[zdV]
   simp only[Nat.zero_add,Nat.one_mul,zgR,Nat.mul_one]at this⊢
   omega
 |n+1,k+1=>by
   have h1:=zjE n k
   have h2:=zjE n (k+1)
   rw[zdV (n+1) (k+1),Nat.mul_add,h2,Nat.succ_mul (k+1),h1,zdV n k,Nat.mul_add,Nat.add_mul,Nat.add_mul]
   rw[show k+1=Nat.succ k from rfl]at*
   simp only[Nat.add_mul,Nat.one_mul,Nat.succ_eq_add_one]
   omega
def sumN (n x:Nat):Nat->Nat
 |0=>0
 |m+1=>sumN n x m+binN n m*x^m
theorem zk9 (n x:Nat):∀m:Nat,sumN (n+1) x (m+1)=x*sumN n x m+sumN n x (m+1)
 |0=>by simp[sumN,zgR]
 |m+1=>by
   have h:=zk9 n x m
   rw[sumN,h,zdV,show sumN n x (m+1+1)=sumN n x (m+1)+binN n (m+1)*x^(m+1)from rfl,show x*sumN n x (m+1)=x*(sumN n x m+binN n m*x^m)from rfl,Nat.mul_add,Nat.add_mul]
   have:x*(binN n m*x^m)=binN n m*x^(m+1):=by rw[Nat.mul_left_comm,Nat.pow_succ,Nat.mul_comm x]
   omega
theorem zqM (x:Nat):∀n:Nat,(x+1)^n=sumN n x (n+1)
 |0=>by simp[sumN,zgR]
 |n+1=>by
   rw[Nat.pow_succ,zqM x n,zk9 n x (n+1),show sumN n x (n+1+1)=sumN n x (n+1)+binN n (n+1)*x^(n+1)from rfl,zgb n (n+1) (by omega),Nat.mul_add,Nat.mul_comm]
   omega
def Pri (p:Nat):Prop:=2<=p/\ ∀k,0<k->k<p->Nat.gcd k p=1
theorem zvG {p B:Nat} (h2:2<=p) (hB:p<B*B) (h:∀d,2<=d->d<B->d<p->p%d≠0):Pri p:=by
 refine⟨h2,fun k hk hkp=> ?_⟩
 have g1:Nat.gcd k p ∣ p:=Nat.gcd_dvd_right k p
 have g2:Nat.gcd k p<=k:=Nat.gcd_le_left p hk
 have g0:0<Nat.gcd k p:=Nat.gcd_pos_of_pos_left p hk
 generalize Nat.gcd k p=g at*
 rcases Nat.lt_or_ge 1 g with hg|hg
 · obtain⟨e,he⟩:=g1
   exfalso
   by_cases hgB:g<B
   · exact h g hg hgB (by omega) (by rw[he];exact Nat.mul_mod_right g e)
   · have e0:e≠0:=by intro e0;rw[e0,Nat.mul_zero]at he;omega
     have e1:e≠1:=by intro e1;rw[e1,Nat.mul_one]at he;omega
     have eB:e<B:=by
      rcases Nat.lt_or_ge e B with hx|hx
      · exact hx
      · have:=Nat.mul_le_mul (show B<=g by omega) hx
        omega
     have ep:e<p:=by
      have:=Nat.mul_le_mul hg (Nat.le_refl e)
      rw[<-he]at this
      omega
     exact h e (by omega) eB ep (by rw[he];exact Nat.mul_mod_left g e)
 · omega
theorem zuK {p:Nat} (hp:Pri p) {k:Nat} (h0:0<k) (h1:k<p):p ∣ binN p k:=by
 obtain⟨n,rfl⟩:∃n,p=n+1:=⟨p-1,by have:=hp.1;omega⟩
 obtain⟨j,rfl⟩:∃j,k=j+1:=⟨k-1,by omega⟩
 have h:(n+1) ∣ (j+1)*binN (n+1) (j+1):=⟨_,zjE n j⟩
 have c:Nat.Coprime (n+1) (j+1):=by
  show Nat.gcd (n+1) (j+1)=1
  rw[Nat.gcd_comm]
  exact hp.2 (j+1) (by omega) h1
 exact c.dvd_of_dvd_mul_left h
theorem zqN {p:Nat} (hp:Pri p) (x:Nat):∀m:Nat,m<p->sumN p x (m+1)%p=1
 |0,h=>by
   have:=hp.1
   simp only[sumN,zgR,Nat.pow_zero]
   exact Nat.mod_eq_of_lt (by omega)
 |m+1,h=>by
   have ih:=zqN hp x m (by omega)
   obtain⟨q,hq⟩:=zuK hp (k:=m+1) (by omega) h
   rw[sumN,hq,Nat.mul_assoc,Nat.add_mul_mod_self_left]
   exact ih
theorem ztg {p:Nat} (hp:Pri p) (x:Nat):(x+1)^p%p=(x^p+1)%p:=by
 have h2:=hp.1
 obtain⟨n,hn⟩:∃n,p=n+1:=⟨p-1,by omega⟩
 have h:=zqN hp x n (by omega)
 rw[<-hn]at h
 rw[zqM x p,sumN,znw,Nat.one_mul,Nat.add_mod,h,Nat.add_comm (x^p) 1,Nat.add_mod 1 (x^p),Nat.mod_eq_of_lt (show 1<p by omega)]
theorem znx {p:Nat} (hp:Pri p):∀x:Nat,x^p%p=x%p
 |0=>by
   have:=hp.1
   rw[Nat.zero_pow (by omega)]
 |x+1=>by
   rw[ztg hp,Nat.add_mod,znx hp x,<-Nat.add_mod]
theorem zny {p:Nat} (hp:Pri p) (x:Nat):∀j:Nat,x^(1+(p-1)*j)%p=x%p
 |0=>by simp
 |j+1=>by
   have h2:=hp.1
   have ih:=zny hp x j
   rw[show 1+(p-1)*(j+1)=(1+(p-1)*j)+(p-1)by rw[Nat.mul_succ];omega,Nat.pow_add,Nat.mul_mod,ih,<-Nat.mul_mod]
   have e:x*x^(p-1)=x^p:=by
    rw[Nat.mul_comm,<-Nat.pow_succ]
    congr 1
    omega
   rw[e]
   exact znx hp x
def zdx:List Nat:=[3,5,7,11,13,17,19,23,29,31,37,41,43,53,61,67,71,73,79,89,113,127,131,157,181,199,211,241,281,313,331,337,397,421,463,521,547,617,631,661,859,881,911,937,991,1009,1093,1171,1321,1873,2003,2311,2341,2521,2731,2861,3121,3433,3697,4621,6007,6553,8009,8191,9241,16381,18481,20021,20593]
def keyN (i:Nat):Nat->Nat
 |0=>1
 |k+1=>if k%8=i%8 then keyN i k else keyN i k*zdx[k]?.getD 0
theorem zuL:(zdx.all fun p=>decide (2<=p)&&decide (p<144*144)&&720720%(p-1)==0&&(List.range 144).all fun d=>decide (d<2)||decide (p<=d)||p%d !=0)=true:=by kernel_rfl
theorem zqO:((List.range 8).all fun i=>(List.range 69).all fun k=>Nat.gcd (keyN i k) (zdx[k]?.getD 0)==1)=true:=by kernel_rfl
theorem zqP:((List.range 8).all fun i=>decide (256^61<=keyN i 69)&&decide (keyN i 69<256^100)&&keyN i 69%2==1)=true:=by kernel_rfl
theorem zvH {p:Nat} (h:p∈zdx):Pri p/\ 720720%(p-1)=0:=by
 have:=List.all_eq_true.1 zuL p h
 simp only[Bool.and_eq_true,decide_eq_true_eq,beq_iff_eq,List.all_eq_true,List.mem_range,Bool.or_eq_true,bne_iff_ne]at this
 obtain⟨⟨⟨h2,hB⟩,h3⟩,h4⟩:=this
 exact⟨zvG h2 hB (fun d d2 dB dp=>by
  rcases h4 d dB with(h5|h5)|h5
  · omega
  · omega
  · exact h5),h3⟩
theorem zuM {p:Nat} (h:p∈zdx) (x:Nat) {m:Nat} (hm:m%720720=1):x^m%p=x%p:=by
 obtain⟨hp,hd⟩:=zvH h
 obtain⟨c,hc⟩:=Nat.dvd_of_mod_eq_zero hd
 have e:m=1+(p-1)*(c*(m/720720)):=by
  rw[<-Nat.mul_assoc,<-hc]
  omega
 rw[e]
 exact zny hp x _
theorem zqQ {i D:Nat} (hi:i<8) (hD:∀p∈zdx,p ∣ D):∀k,k<=69->keyN i k ∣ D
 |0,_=>by rw[keyN];exact Nat.one_dvd D
 |k+1,hk=>by
   have ih:=zqQ hi hD k (by omega)
   rw[keyN]
   split
   · exact ih
   · have hp:zdx[k]?.getD 0∈zdx:=by
      have hl:k<zdx.length:=by show k<69;omega
      rw[List.getElem?_eq_getElem hl]
      exact List.getElem_mem hl
     have hc:Nat.Coprime (keyN i k) (zdx[k]?.getD 0):=by
      have h1:=List.all_eq_true.1 zqO i (List.mem_range.2 hi)
      have h2:=List.all_eq_true.1 h1 k (List.mem_range.2 (by omega))
      simpa using h2
     exact hc.mul_dvd_of_dvd_of_dvd ih (hD _ hp)
theorem zuN {i:Nat} (hi:i<8) (x:Nat) {m:Nat} (hm:m%720720=1):x^m%keyN i 69=x%keyN i 69:=by
 have hle:x<=x^m:=by
  rcases Nat.eq_zero_or_pos x with h|h
  · omega
  · obtain⟨j,rfl⟩:∃j,m=j+1:=⟨m-1,by omega⟩
    rw[Nat.pow_succ]
    exact Nat.le_mul_of_pos_left x (Nat.pow_pos h)
 have hD:∀p∈zdx,p ∣ x^m-x:=fun p hp=>Nat.dvd_of_mod_eq_zero (Nat.sub_mod_eq_zero_of_mod_eq (zuM hp x hm))
 obtain⟨t,ht⟩:=zqQ hi hD 69 (Nat.le_refl _)
 rw[show x^m=x+keyN i 69*t by omega,Nat.add_mul_mod_self_left]
end Go.Proofs.YtpgahclpbdpbnaaGreatDoor
