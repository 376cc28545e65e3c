import Derived.Test.YtpgahclpbdpbnaaGreatDoorGAQ
import Derived.Test.YtpgahclpbdpbnaaGreatDoorGAB
import Derived.Test.YtpgahclpbdpbnaaGreatDoorGAI
import Derived.Test.YtpgahclpbdpbnaaGreatDoorGAA
import Derived.Deep.QuietTactic
import Derived.BigQuiet
import Derived.Laws.ResultCell
import Derived.Deep.LoopGhost
set_option maxHeartbeats 4000000
set_option maxRecDepth 100000
namespace Go.Proofs.YtpgahclpbdpbnaaGreatDoor
open Go.RowKit
set_option linter.unusedVariables false
theorem zoM (B g cap b i:Nat) (L zs:List Int) (w:World) (hbuf:Buf B w g cap L) (hv:Blk w b 5 (zs.map (Value.int .u8)).toArray) (hbg:b≠g) (hz:0<zs.length) (hi:i<=L.length) (hroom:L.length+zs.length<=cap):
 Calls Tryz.prog 132 #[.slice (some ⟨g,0,none⟩) L.length cap,.int .i64 (i:Int),.slice (some ⟨b,0,none⟩) zs.length zs.length] w (zdZ B g cap (L.take i++(zs++L.drop i)) w):=by
 rcases Nat.lt_or_ge i L.length with h|h
 · exact zoL B g cap b i L zs w hbuf hv hbg hz h hroom
 · obtain rfl:i=L.length:=by omega
   have:=zoK B g cap b L zs w hbuf hv hz hroom
   simpa using this
theorem ziU (z:Int) (w:World) (h0:0<=z) (h1:z<=1000000):Calls Tryz.prog 133 #[.int .i64 z] w fun e w'=>e= .returned (.slice (some ⟨w.heap.size,0,none⟩) (lenB z).length (lenB z).length)/\ w'=w.alloc (.cells ((lenB z).map (Value.int .u8)).toArray 5):=by
 by_cases c1:z<128
 · have F:Hid (lenB z=[z]):=by simp[lenB,c1,Hid]
   rw[F.out]
   go_enter Tryz.func133,Tryz.ntmps133
   go_wp2_with fail
   go_ret
   exact⟨rfl,rfl⟩
 by_cases c2:z<256
 · have F:Hid (lenB z=[129,z]):=by rw[lenB,if_neg (by omega),if_pos c2];exact zwd rfl
   rw[F.out]
   go_enter Tryz.func133,Tryz.ntmps133
   go_wp2_with fail
   go_ret
   exact⟨rfl,rfl⟩
 · have F:Hid (lenB z=[130,z/256%256,z%256]):=by simp[lenB,c1,c2,Hid]
   rw[F.out]
   go_enter Tryz.func133,Tryz.ntmps133
   go_wp2_with fail
   go_ret
   exact⟨rfl,rfl⟩
theorem zal {w a b:World} {r:Option Nat} (h:w.grownBy a r) (k:a.grownBy b r):w.grownBy b r:=
 ⟨k.os.trans h.os,k.tape.trans h.tape,k.output.trans h.output,Nat.le_trans h.size k.size,fun i hi hne=>(k.block i (Nat.lt_of_lt_of_le hi h.size) hne).trans (h.block i hi hne)⟩
theorem zbS {w a:World} {g:Nat} (h:w.grownBy a (some g)) (B:Nat) (hB:B<=g) (hs:B<=w.heap.size):Below B w a:=
 (Below.refl B w).grown h hs (fun k hk=>by injection hk with hk;omega)
theorem InP.grown {w w':World} {g:Nat} (h:w.grownBy w' (some g)) (t:T) {v:Value} (k:t.InP (· ≠g) w v):t.InP (· ≠g) w' v:=
 T.InP.keep (fun b hb hp=>⟨hp,h.block b hb (fun e=>hp (by injection e))⟩) h.size t k
theorem Blk.grown {w w':World} {g b:Nat} {ty:TypeId} {cs:Array Value} (h:Blk w b ty cs) (hg:w.grownBy w' (some g)) (hb:b≠g):Blk w' b ty cs:=
 (hg.block b h.lt (fun e=>hb (by injection e))).trans h
theorem T.In.inP {w:World} (t:T):∀ {v:Value},t.In w v->t.InP (· <w.heap.size) w v:=by
 refine T.all (p:=fun t=>∀ {v:Value},t.In w v->t.InP (· <w.heap.size) w v) ?_ t
 intro tag body kids ih v h
 unfold T.In at h
 unfold T.InP
 obtain⟨A,n,c,K,m,d,rfl,hw,hr,hn,hc,hm,hm',hk⟩:=h
 refine⟨A,n,c,K,m,d,rfl,hw,hr,hn,hc,hm,hm',fun h0=> ?_,fun h0=> ?_⟩
 · obtain⟨b,off,e,hb,_⟩:=hr.2.2 h0
   exact⟨b,off,e,hb⟩
 · obtain⟨b,off,e,hlt,ha⟩:=hk h0
   refine⟨b,off,e,hlt,hlt,T.InPAll.of fun i hi=> ?_⟩
   obtain⟨v0,v1,v2,h0,h1,h2,h3⟩:=ha.at i hi
   exact⟨v0,v1,v2,h0,h1,h2,ih _ (List.getElem_mem hi) h3⟩
theorem T.InP.kid {P:Nat->Prop} {w:World} {t:T} {A:Option Addr} {n c:Nat} {K:Option Addr} {m d:Nat} (h:t.InP P w (.agg #[.int .i64 t.tag,.slice A n c,.slice K m d])) (i:Nat) (hi:i<m):
 ∃(k:T) (b off:Nat) (z:Int) (A':Option Addr) (n' c':Nat) (K':Option Addr) (m' d':Nat),t.kids[i]?=some k/\ K=some ⟨b,off,none⟩/\
 w.cell? ⟨b,off+i*3,none⟩=some (.int .i64 z)/\ w.cell? ⟨b,off+i*3+1,none⟩=some (.slice A' n' c')/\ w.cell? ⟨b,off+i*3+2,none⟩=some (.slice K' m' d')/\ k.InP P w (.agg #[.int .i64 z,.slice A' n' c',.slice K' m' d']):=by
 obtain⟨tag,body,kids⟩:=t
 unfold T.InP at h
 obtain⟨A1,n1,c1,K1,m1,d1,e,_,_,_,_,hm,_,_,hk⟩:=h
 simp only[Value.agg.injEq]at e
 have e':=congrArg Array.toList e
 simp only[List.cons.injEq,and_true,Value.slice.injEq]at e'
 obtain⟨_,⟨rfl,rfl,rfl⟩,rfl,rfl,rfl⟩:=e'
 obtain⟨b,off,rfl,hb,_,ha⟩:=hk (by omega)
 have hi':i<kids.length:=by omega
 obtain⟨v0,v1,v2,h0,h1,h2,h3⟩:=ha.at i hi'
 obtain⟨z,A',n',c',K',m',d',rfl,rfl,rfl⟩:=(T.InP.in _ h3).form
 exact⟨kids[i],b,off,z,A',n',c',K',m',d',List.getElem?_eq_getElem hi',rfl,h0,h1,h2,h3⟩
theorem ziV {ops:Array Oper} {rest:List Oper} {o:Oper} {a:Act} {Q:Exit->Act->World->Prop} {w:World} {B g cap:Nat} {L zs:List Int} {A:Option Addr} {m c:Nat} (hgd:o.guard=none) (s x:Operand)
 (hop:o.op= .call {callee:= .builtin .append,args:=#[s,x],argTypes:=#[26,26]}) (n:Nat) (hs:a.eval s= .slice (some ⟨g,0,none⟩) n cap) (hln:L.length=n) (hbuf:Buf B w g cap L) (hx:a.eval x= .slice A m c) (hr:Row w A m zs) (hnil:A=none->c=0) (hl:n+m<=cap)
 (h:∀w',Buf B w' g cap (L++zs)->w.grownBy w' (some g)->wpList Tryz.prog ops Q rest (a.put o.dst (.slice (some ⟨g,0,none⟩) (n+m) cap)) w'):wpList Tryz.prog ops Q (o::rest) a w:=by
 subst hln
 obtain⟨i0,hi5,hz0,hz1,hz2⟩:=info_parts Tryz.infoByte
 cases A with
 |none=>
   obtain rfl:=hnil rfl
   have hm:m=0:=by
    rcases Nat.eq_zero_or_pos m with h0|h0
    · exact h0
    · obtain⟨_,_,e,_⟩:=hr.2.2 h0
      cases e
   subst hm
   obtain rfl:zs=[]:=List.eq_nil_of_length_eq_zero hr.1
   refine wpList_append_own_none hgd s x 26 hop B 5 i0 1 Tryz.underlying26 hi5 _ L.length _ hs hbuf hx ?_
   have:=h w (by simpa using hbuf) (World.grownBy.refl _ _)
   exact this
 |some ad=>
   refine wpList_append_own_spare _ hgd s x 26 hop B 5 i0 1 Tryz.underlying26 hi5 hz1 g L.length cap (L.map (Value.int .u8)) hs hbuf ad m c (zs.map (Value.int .u8)) hx (by rw[List.length_map,hr.1,Nat.mul_one]) hr.cells ?_ hl ?_
   · intro u hu
     obtain⟨_,_,rfl⟩:=List.mem_map.1 hu
     rfl
   · intro w' hown hg
     refine h w' ?_ hg
     unfold Buf
     rw[List.length_append,hr.1,List.map_append]
     exact hown
theorem T.In.row {w:World} {t:T} {z:Int} {A:Option Addr} {n c:Nat} {K:Option Addr} {m d:Nat} (h:t.In w (.agg #[.int .i64 z,.slice A n c,.slice K m d])):Row w A n t.body:=by
 obtain⟨A1,n1,c1,K1,m1,d1,e,_,hr,_⟩:=h.open
 simp only[Value.agg.injEq]at e
 have e':=congrArg Array.toList e
 simp only[List.cons.injEq,and_true,Value.slice.injEq]at e'
 obtain⟨_,⟨rfl,rfl,rfl⟩,_⟩:=e'
 exact hr
theorem zoN (xs ys:List T):zan (xs++ys)=zan xs++zan ys:=by
 induction xs with
 |nil=>rw[zan];rfl
 |cons x r ih=>rw[List.cons_append,zan,zan,ih,List.append_assoc]
theorem zeV (ks:List T) (k:Nat):(zan (ks.take k)).length<=(zan ks).length:=by
 conv=>rhs;rw[<-List.take_append_drop k ks,zoN,List.length_append]
 omega
structure zeW (w wr:World) (B g cap:Nat) (t:T) (A:Option Addr) (n c:Nat) (K:Option Addr) (m d:Nat) (LL:List Int):Prop where
 buf:Buf B wr g cap LL
 grown:w.grownBy wr (some g)
 box:Blk wr w.heap.size 30 #[.int .i64 t.tag,.slice A n c,.slice K m d]
 has:t.InP (· ≠g) wr (.agg #[.int .i64 t.tag,.slice A n c,.slice K m d])
theorem zeW.start {w:World} {B g cap:Nat} {t:T} {A:Option Addr} {n c:Nat} {K:Option Addr} {m d:Nat} {L:List Int} (h:t.InP (· ≠g) w (.agg #[.int .i64 t.tag,.slice A n c,.slice K m d])) (hb:Buf B w g cap L):zeW w (boxW w t.tag A n c K m d) B g cap t A n c K m d L:=
 ⟨hb.kept (Below.heap_alloc w _ g (by obtain⟨cur,_,h2,_⟩:=hb.open;exact h2.lt)),World.grownBy_alloc _ _ _,Blk.new _ _ _,InP.grown (World.grownBy_alloc _ _ _) _ h⟩
theorem zeW.alloc {w wr:World} {B g cap:Nat} {t:T} {A:Option Addr} {n c:Nat} {K:Option Addr} {m d:Nat} {L:List Int} (h:zeW w wr B g cap t A n c K m d L) (o:Obj):zeW w (wr.alloc o) B g cap t A n c K m d L:=
 ⟨h.buf.kept (Below.heap_alloc wr o g (by obtain⟨cur,_,h2,_⟩:=h.buf.open;exact h2.lt)),zal h.grown (World.grownBy_alloc _ _ _),h.box.alloc o,InP.grown (World.grownBy_alloc _ _ _) _ h.has⟩
theorem zeW.app {w wr w':World} {B g cap:Nat} {t:T} {A:Option Addr} {n c:Nat} {K:Option Addr} {m d:Nat} {L L':List Int} (h:zeW w wr B g cap t A n c K m d L) (hw:w.heap.size≠g) (hb:Buf B w' g cap L') (hg:wr.grownBy w' (some g)):zeW w w' B g cap t A n c K m d L':=
 ⟨hb,zal h.grown hg,h.box.grown hg hw,InP.grown hg _ h.has⟩
theorem zuY (t:T):∀(v:Value) (B g cap:Nat) (L:List Int) (w:World),t.InP (· ≠g) w v->Buf B w g cap L->zar t=true->wt t<30000->L.length+(layT t).length<=cap->cap<=1000000->
 Calls Tryz.prog 84 #[.slice (some ⟨g,0,none⟩) L.length cap,v] w (zdZ B g cap (L++layT t) w):=by
 refine T.each (p:=fun t=>∀(v:Value) (B g cap:Nat) (L:List Int) (w:World),t.InP (· ≠g) w v->Buf B w g cap L->zar t=true->wt t<30000->L.length+(layT t).length<=cap->cap<=1000000->
  Calls Tryz.prog 84 #[.slice (some ⟨g,0,none⟩) L.length cap,v] w (zdZ B g cap (L++layT t) w)) ?_ t
 clear t
 intro t ih v B g cap L w hin hbuf hrt hwt hroom hcap
 obtain⟨A,n,c,K,m,d,rfl,hw,hr,hn,hc,hm,hm',_⟩:=(T.InP.in _ hin).open
 have hgw:w.heap.size≠g:=by
  obtain⟨cur,_,h2,_⟩:=hbuf.open
  have:=h2.lt
  omega
 have M0:=zwd (zeW.start hin hbuf)
 unfold boxW at M0
 have IH:=zwd ih
 have HM:=zwd hm
 have HR:=zwd hr
 have HC:=zwd hc
 have RP:=zwd (zbb hrt)
 have EL:=zwd (zdS t)
 have WE:=zwd (zdc t)
 have htb:=zjy (zbb hrt).1
 have wx:IntKind.u8.wrap t.tag=t.tag:=IntWalk.u8_in _ (by omega)
 have hll:(layT t).length=1+((lenB ((t.body.length+(zan t.kids).length:Nat):Int)).length+(n+(zan t.kids).length)):=by
  rw[zdS,List.length_cons,List.length_append,List.length_append,hr.1]
  omega
 have M1:=zwd (M0.out.alloc (.cells #[.int .u8 t.tag] 5))
 have R1:Hid (Row ((w.alloc (.cells #[.int .i64 t.tag,.slice A n c,.slice K m d] 30)).alloc (.cells #[.int .u8 t.tag] 5)) (some ⟨w.heap.size+1,0,none⟩) 1 [t.tag]):=by
  have h:=zaY (w.alloc (.cells #[.int .i64 t.tag,.slice A n c,.slice K m d] 30)) [t.tag] (0,0) (by intro x hx;have:x=t.tag:=(by simpa using hx);omega)
  simpa[Hid]using h
 clear hin ih hr hc hm hbuf hrt M0
 unfold maxLen at hn hm'
 go_enter Tryz.func84,Tryz.ntmps84
 go_wp2_with (at_builtin;first
  |(refine ziV (B:=B) (L:=L) (zs:=[t.tag]) rfl (.tmp 8) (.tmp 12) rfl L.length rfl rfl M1.out.buf rfl R1.out (fun e=>by cases e) (by omega) ?_;intro w1 hb1 hg1;have M2:=zwd (M1.out.app hgw hb1 hg1);obtain⟨p0,p1,p2⟩:=(show _/\ _/\ _ from⟨M2.out.box.cell 0,M2.out.box.cell 1,M2.out.box.cell 2⟩);clear hb1 hg1 M1 R1)
  |(go_must (refine ziV (B:=B) (L:=L++[t.tag]) (zs:=t.body) rfl (.tmp 16) (.tmp 18) rfl (L.length+1) rfl (by simp) M2.out.buf rfl (T.InP.in _ M2.out.has).row (fun e=>HC.out e) (by omega) ?_;intro w2 hb2 hg2;have M3:=zwd (M2.out.app hgw hb2 hg2);clear hb2 hg2 M2 p0 p1 p2;obtain⟨p0,p1,p2⟩:=(show _/\ _/\ _ from⟨M3.out.box.cell 0,M3.out.box.cell 1,M3.out.box.cell 2⟩))))
 go_loopw [0,23] (fun V i wr=>∃(k q:Nat),k<=m/\ i= .int .i64 (k:Int)/\ V= .slice (some ⟨g,0,none⟩) q cap/\ (L++[t.tag]++t.body++zan (t.kids.take k)).length=q/\ zeW w wr B g cap t A n c K m d (L++[t.tag]++t.body++zan (t.kids.take k))) (fun _ i _=>m-(intOf i).toNat)
 case atStart=>exact⟨0,_,by omega,rfl,rfl,by simp[zan,HR.out.1];omega,by simpa[zan]using M3.out⟩
 case round=>
  obtain⟨k,q,hk,rfl,rfl,hq,hmid⟩:=hrel
  have MD:=zwd hmid
  have HQ:=zwd hq
  have hqv:q=L.length+1+n+(zan (t.kids.take k)).length:=by
   rw[<-hq]
   simp only[List.length_append,HR.out.1,List.length_cons,List.length_nil]
  have hkl:=zeV t.kids k
  clear hmid hq M3
  by_cases hlt:k<m
  · obtain⟨x,bb,off,zz,A',n',c',K',m',d',hx,rfl,c0,c1,c2,hxin⟩:=MD.out.has.kid k hlt
    have hxm:=List.mem_of_getElem? hx
    have hwx:=zcx hxm
    have hxr:=RP.out.2.2.2 x hxm
    have hk1:=zeV t.kids (k+1)
    rw[ze8 hx,List.length_append]at hk1
    have M4:=zwd (MD.out.alloc (.cells #[.int .i64 zz,.slice A' n' c',.slice K' m' d'] 30))
    have CI:=zwd (IH.out x hxm _ B g cap _ (boxW wr zz A' n' c' K' m' d') (InP.grown (World.grownBy_alloc _ _ _) _ hxin) M4.out.buf hxr (by omega) (by rw[HQ.out];omega) hcap)
    rw[HQ.out]at CI
    have LT:Hid (L++[t.tag]++t.body++zan (t.kids.take k)++layT x=L++[t.tag]++t.body++zan (t.kids.take (k+1))):=by
     rw[ze8 hx,<-List.append_assoc]
     exact zwd rfl
    rw[LT.out]at CI
    unfold boxW at CI
    clear hx hxin hxm hxr LT hqv hkl hk1 HQ hll hwx WE
    go_wp2_with fail
    refine CI.out.mono ?_
    rintro e w5 ⟨rfl,hb5,hg5⟩
    have M5:=zwd (M4.out.app hgw hb5 hg5)
    clear hb5 hg5 M4 CI
    go_wp2_with fail
    go_roundw
    case rel=>exact⟨k+1,_,by omega,by go_num,rfl,by simp only[List.length_append,List.length_cons,List.length_nil];omega,M5.out⟩
    case measure=>simp[intOf];omega
  · have hall:t.kids.take k=t.kids:=List.take_of_length_le (by rw[HM.out];omega)
    rw[hall]at MD HQ hqv
    have hz0:L.length+1<=q:=by omega
    have hq5:q<=1000000:=by omega
    have HQV:=zwd hqv
    have HLL:=zwd hll
    have HRM:=zwd hroom
    clear hall hqv hkl hll WE hroom
    go_wp2_with fail
    refine(ziU _ _ (by omega) (by omega)).mono ?_
    rintro e w5 ⟨rfl,rfl⟩
    have EZ:((q:Int)-((L.length:Int)+1))=((t.body.length+(zan t.kids).length:Nat):Int):=by
     have h1:=HQV.out
     have h2:=HR.out.1
     omega
    have EL2:Hid (layT t=[t.tag]++(lenB ((q:Int)-((L.length:Int)+1))++(t.body++zan t.kids))):=by
     have h:=EL.out
     rw[<-EZ]at h
     rw[List.singleton_append]
     exact h
    have HRO:Hid (q+(lenB ((q:Int)-((L.length:Int)+1))).length<=cap):=by
     have h1:=HRM.out
     have h2:=HLL.out
     have h3:=HQV.out
     have h4:(lenB ((q:Int)-((L.length:Int)+1))).length=(lenB ((t.body.length+(zan t.kids).length:Nat):Int)).length:=by rw[EZ]
     generalize(lenB ((q:Int)-((L.length:Int)+1))).length=x4 at h4⊢
     generalize(lenB ((t.body.length+(zan t.kids).length:Nat):Int)).length=y4 at h2 h4
     show q+x4<=cap
     omega
    have hlp:0<(lenB ((q:Int)-((L.length:Int)+1))).length:=by
     have h1:=zch ((q:Int)-((L.length:Int)+1))
     have h2:=zbO ((q:Int)-((L.length:Int)+1))
     omega
    clear EZ EL HRM HLL HQV
    generalize lenB ((q:Int)-((L.length:Int)+1))=ln at EL2 HRO hlp
    have hgr:wr.heap.size≠g:=by
     obtain⟨cur,_,h2,_⟩:=MD.out.buf.open
     have:=h2.lt
     omega
    have EQ:Hid ((L++[t.tag]++t.body++zan t.kids).take (L.length+1)++(ln++(L++[t.tag]++t.body++zan t.kids).drop (L.length+1))=L++layT t):=by
     rw[EL2.out,List.append_assoc (L++[t.tag]),List.take_left' (by simp),List.drop_left' (by simp),List.append_assoc]
     exact zwd rfl
    have CI:Hid (∀ii:Int,ii=((L.length+1:Nat):Int)->Calls Tryz.prog 132 #[.slice (some ⟨g,0,none⟩) q cap,.int .i64 ii,.slice (some ⟨wr.heap.size,0,none⟩) ln.length ln.length] (wr.alloc (.cells (ln.map (Value.int .u8)).toArray 5)) (zdZ B g cap (L++layT t) (wr.alloc (.cells (ln.map (Value.int .u8)).toArray 5)))):=by
     intro ii hii
     subst hii
     have h:=zoM B g cap wr.heap.size (L.length+1) (L++[t.tag]++t.body++zan t.kids) ln _ (MD.out.alloc (.cells (ln.map (Value.int .u8)).toArray 5)).buf (Blk.new _ _ _) hgr hlp (by rw[HQ.out];omega) (by rw[HQ.out];exact HRO.out)
     rw[HQ.out,EQ.out]at h
     exact h
    have GW:=zwd (zal MD.out.grown (World.grownBy_alloc wr (.cells (ln.map (Value.int .u8)).toArray 5) (some g)))
    clear EQ EL2 HRO HQ MD hgr hlp
    go_wp2_with fail
    refine(CI.out _ (by omega)).mono ?_
    rintro e w6 ⟨rfl,hb6,hg6⟩
    have G6:=zwd (zal GW.out hg6)
    have B6:=zwd hb6
    clear hb6 hg6 GW CI
    go_wp2_with fail
    go_ret
    exact⟨by rw[List.length_append];rfl,B6.out,G6.out⟩
def errP (z:Int):List PanicEntry:=[{v:= .iface 31 (.int .i64 z),recovered:=false}]
def norm (lvl:Nat) (z:Int):Int:=if 0<lvl/\ z=3 then 2 else z
def Rest (w:World) (gs lvl Bd:Nat) (zs:List Int):Prop:=
 ∃(A:Option Addr) (c:Nat),Blk w gs 197 #[.slice A zs.length c,.int .i64 (lvl:Int)]/\ Row w A zs.length zs/\ zs.length<=c/\ (0<zs.length->∃b off,A=some ⟨b,off,none⟩/\ b<Bd)/\ Bd<=gs/\ (A=none->c=0)
theorem Rest.below {w w':World} {gs lvl Bd:Nat} {zs:List Int} (h:Rest w gs lvl Bd zs) (hb:Below w.heap.size w w'):Rest w' gs lvl Bd zs:=by
 obtain⟨A,c,h1,h2,h3,h4,h5⟩:=h
 exact⟨A,c,h1.below hb h1.lt,h2.below hb,h3,h4,h5⟩
theorem Rest.keep {w w':World} {gs lvl Bd:Nat} {zs:List Int} (h:Rest w gs lvl Bd zs) (hs:w.heap.size<=w'.heap.size) (hk:∀b,b<w.heap.size->(b=gs \/b<Bd)->w'.heap[b]?=w.heap[b]?):Rest w' gs lvl Bd zs:=by
 obtain⟨A,c,h1,h2,h3,h4,h5⟩:=h
 refine⟨A,c,(hk gs h1.lt (.inl rfl)).trans h1,⟨h2.1,h2.2.1,fun h0=> ?_⟩,h3,h4,h5⟩
 obtain⟨b,off,e,hb,hcell⟩:=h2.2.2 h0
 obtain⟨b',off',e',hb'⟩:=h4 h0
 rw[e]at e'
 obtain⟨rfl,rfl⟩:b=b'/\ off=off':=by simpa using e'
 refine⟨b,off,e,by omega,fun i hi=> ?_⟩
 rw[<-hcell i hi]
 simp only[World.cell?,hk b hb (.inr hb')]
theorem zaD (w:World) (g j:Nat) (v:Value):w.grownBy (w.setCell ⟨g,j,none⟩ v) (some g):=
 ⟨rfl,rfl,rfl,by simp,fun k _ hk=>heap_setCell_other w ⟨g,j,none⟩ k v (fun e=>hk (by rw[e]))⟩
theorem zlg (gs lvl:Nat) (v:Value) (w:World) (hl:lvl<=100) (hb:Blk w gs 197 #[v,.int .i64 (lvl:Int)]):Calls Tryz.prog 228 #[.pointer (some ⟨gs,0,none⟩)] w fun e w'=>e= .returned (.int .i64 (norm lvl 3))/\ w=w':=by
 have c1:=hb.cell 1
 simp only[List.getElem?_toArray,List.getElem?_cons_succ,List.getElem?_cons_zero]at c1
 clear hb
 by_cases h0:0<lvl
 · have F:Hid (norm lvl 3=2):=by simp[norm,h0,Hid]
   go_enter Tryz.func228,Tryz.ntmps228
   go_wp2_with fail
   go_ret
   exact⟨zl3 F.out.symm,rfl⟩
 · have F:Hid (norm lvl 3=3):=by simp[norm,h0,Hid]
   go_enter Tryz.func228,Tryz.ntmps228
   go_wp2_with fail
   go_ret
   exact⟨zl3 F.out.symm,rfl⟩
def zfH (gs lvl Bd k:Nat) (zs:List Int) (w:World) (e:Ending) (w':World):Prop:=
 ∃(A:Option Addr) (c:Nat),e= .returned (.slice A k c)/\ Row w' A k (zs.take k)/\ k<=c/\ (0<k->∃b off,A=some ⟨b,off,none⟩/\ b<Bd)/\ (A=none->c=0)/\ Rest w' gs lvl Bd (zs.drop k)/\ w.grownBy w' (some gs)
theorem zdB (gs lvl Bd k:Nat) (zs:List Int) (w:World) (hl:lvl<=100) (hr:Rest w gs lvl Bd zs) (hn:zs.length<=30000) (hk:zs.length<k) (hk2:k<=100000):
 Calls Tryz.prog 210 #[.pointer (some ⟨gs,0,none⟩),.int .i64 (k:Int)] w fun e w'=>e= .panicked (errP (norm lvl 3))/\ w=w':=by
 obtain⟨A,c,hb,hrow,hc,_⟩:=hr
 have c0:=hb.cell 0
 simp only[List.getElem?_toArray,List.getElem?_cons_zero]at c0
 have HB:=zwd hb
 clear hb hrow
 go_enter Tryz.func210,Tryz.ntmps210
 go_wp2_with fail
 refine(zlg gs lvl _ w hl HB.out).mono ?_
 rintro e w2 ⟨rfl,rfl⟩
 go_wp2_with fail
 exact⟨rfl,rfl,rfl⟩
theorem ziW {gs lvl Bd k c:Nat} {zs:List Int} {w:World} {A:Option Addr} (hb:Blk w gs 197 #[.slice A zs.length c,.int .i64 (lvl:Int)]) (hrow:Row w A zs.length zs) (hc:zs.length<=c) (hne:0<zs.length->∃b off,A=some ⟨b,off,none⟩/\ b<Bd) (hB:Bd<=gs) (hA:A=none->c=0) (hk:k<=zs.length):
 zfH gs lvl Bd k zs w (.returned (.slice A k c)) (w.setCell ⟨gs,0,none⟩ (.slice (if c=k then A else A.map (·.add k)) (zs.length-k) (c-k))):=by
 have hne':0<zs.length->∃b off,A=some ⟨b,off,none⟩/\ b≠gs:=fun h=>by
  obtain⟨b,off,e,hb⟩:=hne h
  exact⟨b,off,e,by omega⟩
 refine⟨A,c,rfl,(hrow.first k hk).set gs 0 _ (fun h=>hne' (by omega)),by omega,fun h=>hne (by omega),hA,⟨_,c-k,by rw[List.length_drop];exact hb.set 0 _,?_,by rw[List.length_drop];omega,?_,hB,?_⟩,zaD _ _ _ _⟩
 · rw[List.length_drop]
   refine(hrow.rest k c hk hc).set gs 0 _ (fun h=> ?_)
   obtain⟨b,off,e,hb⟩:=hne' (by omega)
   rw[if_neg (by omega),e]
   exact⟨b,off+k,by rw[Option.map_some,Addr.add_lit],hb⟩
 · intro h
   rw[List.length_drop]at h
   obtain⟨b,off,e,hb⟩:=hne (by omega)
   rw[if_neg (by omega),e]
   exact⟨b,off+k,by rw[Option.map_some,Addr.add_lit],hb⟩
 · intro h
   have:A=none:=by
    split at h
    · exact h
    · cases A with
      |none=>rfl
      |some x=>cases h
   rw[hA this]
   omega
theorem zhO (gs lvl Bd k:Nat) (zs:List Int) (w:World) (hr:Rest w gs lvl Bd zs) (hn:zs.length<=30000) (hk:k<=zs.length):
 Calls Tryz.prog 210 #[.pointer (some ⟨gs,0,none⟩),.int .i64 (k:Int)] w (zfH gs lvl Bd k zs w):=by
 obtain⟨A,c,hb,hrow,hc,hne,hB,hA⟩:=hr
 have c0:=hb.cell 0
 simp only[List.getElem?_toArray,List.getElem?_cons_zero]at c0
 have f0:=hb.free 0
 have HB:=zwd hb
 have HR:=zwd hrow
 have HN:=zwd hne
 have HA:=zwd hA
 clear hb hrow hne hA
 by_cases hck:c=k
 · have G:=zwd (ziW (k:=k) HB.out HR.out hc HN.out hB HA.out hk)
   rw[if_pos hck]at G
   subst hck
   rw[show zs.length-c=0 by omega,Nat.sub_self]at G
   go_enter Tryz.func210,Tryz.ntmps210
   go_wp2_with fail
   go_ret
   exact G.out
 · have G:=zwd (ziW (k:=k) HB.out HR.out hc HN.out hB HA.out hk)
   rw[if_neg hck]at G
   go_enter Tryz.func210,Tryz.ntmps210
   go_wp2_with fail
   go_ret
   exact G.out
def zhP (x:Except Int (Nat×Nat)) (k:Nat) (w:World) (e:Ending) (w':World):Prop:=
 match x with
 | .error z=>e= .returned (.tuple #[.int .i64 0,.int .i64 0,.int .i64 z])/\ ∃q,w'=w.drewN q
 | .ok (h,m)=>e= .returned (.tuple #[.int .i64 ((k+h:Nat):Int),.int .i64 (m:Int),.int .i64 0])/\ ∃q,w'=w.drewN q
theorem zgp {x:Except Int (Nat×Nat)} {k q:Nat} {w:World} {z:Int} (h:x= .error z):zhP x k w (.returned (.tuple #[.int .i64 0,.int .i64 0,.int .i64 z])) (w.drewN q):=by
 subst h
 exact⟨rfl,q,rfl⟩
theorem zuZ {x:Except Int (Nat×Nat)} {k q h m:Nat} {w:World} {a b:Int} (e:x= .ok (h,m)) (ha:a=((k+h:Nat):Int)) (hb:b=m):zhP x k w (.returned (.tuple #[.int .i64 a,.int .i64 b,.int .i64 0])) (w.drewN q):=by
 subst e
 subst ha
 subst hb
 exact⟨rfl,q,rfl⟩
theorem zfI (a:Option Addr) (n ca k:Nat) (zs:List Int) (w:World) (hr:Row w a n zs) (hn:n<=30000) (hk:k<=n):
 Calls Tryz.prog 152 #[.slice a n ca,.int .i64 (k:Int),.int .i64 (n:Int)] w (zhP (zbe (zs.drop k)) k w):=by
 have hlen:(zs.drop k).length=n-k:=by rw[List.length_drop,hr.1]
 by_cases h1:k=n
 · have F:Hid (zbe (zs.drop k)= .error 3):=by rw[zbe,if_pos (by omega)];exact zwd rfl
   subst h1
   clear hlen
   go_enter Tryz.func152,Tryz.ntmps152
   go_wp2_with fail
   go_ret3
   exact zgp (q:=0) F.out
 obtain⟨b,off,rfl,hb,hc⟩:=hr.2.2 (by omega)
 have c0:=hc k (by omega)
 have z0:=hr.byte k
 have e0:=zcs zs k 0
 rw[Nat.add_zero]at e0
 by_cases h2:at0 zs k%32=31
 · have F:Hid (zbe (zs.drop k)= .error 2):=by rw[zbe,if_neg (by omega),if_pos (by rw[e0];exact h2)];exact zwd rfl
   clear hlen e0
   unfold at0 at h2
   generalize zs[k]?.getD 0=x0 at c0 z0 h2
   have t2:(x0%32==31)=true:=by simpa using h2
   clear h2 hc
   go_enter Tryz.func152,Tryz.ntmps152
   go_wp2_with fail
   go_ret3
   exact zgp (q:=0) F.out
 have t2:(zs[k]?.getD 0%32==31)=false:=by unfold at0 at h2;simpa using h2
 by_cases h3:k+1=n
 · have F:Hid (zbe (zs.drop k)= .error 3):=by rw[zbe,if_neg (by omega),if_neg (by rw[e0];exact h2),if_pos (by omega)];exact zwd rfl
   clear hlen e0 h2
   generalize zs[k]?.getD 0=x0 at c0 z0 t2
   subst h3
   clear hc
   go_enter Tryz.func152,Tryz.ntmps152
   go_wp2_with fail
   go_ret3
   exact zgp (q:=0) F.out
 have c1:=hc (k+1) (by omega)
 have z1:=hr.byte (k+1)
 have e1:=zcs zs k 1
 have H3:∀r,zbe (zs.drop k)=r↔(if at0 zs (k+1)<128 then .ok (2,(at0 zs (k+1)).toNat)
  else if at0 zs (k+1)=129 then(if n-k<3 then .error 3 else if at0 zs (k+2)<128 then .error 2 else .ok (3,(at0 zs (k+2)).toNat))
  else if at0 zs (k+1)=130 then(if n-k<4 then .error 3 else if at0 zs (k+2)=0 then .error 2 else .ok (4,(at0 zs (k+2)*256+at0 zs (k+3)).toNat))
  else .error 2)=r:=by
  intro r
  rw[zbe,if_neg (by omega),if_neg (by rw[e0];exact h2),if_neg (by omega),e1,zcs,zcs,hlen]
 have HH:=zwd H3
 clear H3 e0 e1 h2 hlen
 by_cases h4:at0 zs (k+1)<128
 · have F:Hid (zbe (zs.drop k)= .ok (2,(at0 zs (k+1)).toNat)):=(HH.out _).2 (if_pos h4)
   unfold at0 at F h4
   generalize zs[k]?.getD 0=x0 at c0 z0 t2
   generalize zs[k+1]?.getD 0=x1 at c1 z1 h4 F
   clear hc
   go_enter Tryz.func152,Tryz.ntmps152
   go_wp2_with fail
   go_ret3
   exact zuZ (q:=0) F.out (by omega) (by omega)
 have HH1:=zwd (fun r=>(HH.out r).trans (by rw[if_neg h4]))
 clear HH
 unfold at0 at HH1 h4
 generalize zs[k]?.getD 0=x0 at c0 z0 t2
 generalize zs[k+1]?.getD 0=x1 at c1 z1 h4 HH1
 by_cases h5:x1=129
 · subst h5
   have H5:=zwd (fun r=>(HH1.out r).trans (by rw[if_pos rfl]))
   clear HH1
   by_cases h6:k+2=n
   · have F:Hid (zbe (zs.drop k)= .error 3):=(H5.out _).2 (if_pos (by omega))
     subst h6
     clear hc H5
     go_enter Tryz.func152,Tryz.ntmps152
     go_wp2_with fail
     go_ret3
     exact zgp (q:=0) F.out
   have c2:=hc (k+2) (by omega)
   have z2:=hr.byte (k+2)
   have H6:=zwd (fun r=>(H5.out r).trans (by rw[if_neg (by omega)]))
   clear H5 hc
   generalize zs[k+2]?.getD 0=x2 at c2 z2 H6
   by_cases h7:x2<128
   · have F:Hid (zbe (zs.drop k)= .error 2):=(H6.out _).2 (if_pos h7)
     clear H6
     go_enter Tryz.func152,Tryz.ntmps152
     go_wp2_with fail
     go_ret3
     exact zgp (q:=0) F.out
   · have F:Hid (zbe (zs.drop k)= .ok (3,x2.toNat)):=(H6.out _).2 (if_neg h7)
     have t7:decide (x2<128)=false:=by simpa using h7
     clear H6
     go_enter Tryz.func152,Tryz.ntmps152
     go_wp2_with fail
     have s2:IntKind.i64.wrap ((k:Int)+2)=(k:Int)+2:=IntWalk.i64_in _ (by omega)
     have s3:IntKind.i64.wrap ((k:Int)+3)=(k:Int)+3:=IntWalk.i64_in _ (by omega)
     have n2:((k:Int)+2).toNat=k+2:=by omega
     have p2:0<=(k:Int)+2:=by omega
     have q2:(k:Int)+2<(n:Int):=by omega
     go_quiet (fail)
     clear s2 s3 n2
     go_wp2_with fail
     go_ret3
     exact zuZ F.out (by omega) (by omega)
 by_cases h8:x1=130
 · subst h8
   have H5:=zwd (fun r=>(HH1.out r).trans (by rw[if_neg h5,if_pos rfl]))
   clear HH1
   by_cases h6:n-k<4
   · have F:Hid (zbe (zs.drop k)= .error 3):=(H5.out _).2 (if_pos h6)
     have h6':n<=k+3:=by omega
     clear hc H5 h6
     go_enter Tryz.func152,Tryz.ntmps152
     go_wp2_with fail
     go_ret3
     exact zgp (q:=0) F.out
   have c2:=hc (k+2) (by omega)
   have z2:=hr.byte (k+2)
   have c3:=hc (k+3) (by omega)
   have z3:=hr.byte (k+3)
   have H6:=zwd (fun r=>(H5.out r).trans (by rw[if_neg h6]))
   clear H5 hc
   generalize zs[k+2]?.getD 0=x2 at c2 z2 H6
   generalize zs[k+3]?.getD 0=x3 at c3 z3 H6
   by_cases h7:x2=0
   · have F:Hid (zbe (zs.drop k)= .error 2):=(H6.out _).2 (if_pos h7)
     have t7:(x2==0)=true:=by simpa using h7
     clear H6 h7
     go_enter Tryz.func152,Tryz.ntmps152
     go_wp2_with fail
     go_ret3
     exact zgp (q:=0) F.out
   · have F:Hid (zbe (zs.drop k)= .ok (4,(x2*256+x3).toNat)):=(H6.out _).2 (if_neg h7)
     have t7:(x2==0)=false:=by simpa using h7
     clear H6 h7
     go_enter Tryz.func152,Tryz.ntmps152
     go_wp2_with fail
     have s2:IntKind.i64.wrap ((k:Int)+2)=(k:Int)+2:=IntWalk.i64_in _ (by omega)
     have s3:IntKind.i64.wrap ((k:Int)+3)=(k:Int)+3:=IntWalk.i64_in _ (by omega)
     have s4:IntKind.i64.wrap ((k:Int)+4)=(k:Int)+4:=IntWalk.i64_in _ (by omega)
     have s5:IntKind.i64.wrap (x2*256)=x2*256:=IntWalk.i64_in _ (by omega)
     have s6:IntKind.i64.wrap (x2*256+x3)=x2*256+x3:=IntWalk.i64_in _ (by omega)
     have n2:((k:Int)+2).toNat=k+2:=by omega
     have n3:((k:Int)+3).toNat=k+3:=by omega
     have p2:0<=(k:Int)+2:=by omega
     have q2:(k:Int)+2<(n:Int):=by omega
     have p3:0<=(k:Int)+3:=by omega
     have q3:(k:Int)+3<(n:Int):=by omega
     go_quiet (fail)
     clear s2 s3 s4 s5 s6 n2 n3
     go_wp2_with fail
     go_ret3
     exact zuZ F.out (by omega) (by omega)
 · have F:Hid (zbe (zs.drop k)= .error 2):=(HH1.out _).2 (by rw[if_neg h5,if_neg h8])
   have t5:(x1 !=129)=true:=by simpa using h5
   have t8:(x1 !=130)=true:=by simpa using h8
   clear HH1 h5 h8 hc
   go_enter Tryz.func152,Tryz.ntmps152
   go_wp2_with fail
   go_ret3
   exact zgp (q:=0) F.out
def lenL (l:List Int):Except Int (Nat×Nat):=
 if l.length<1 then .error 3
 else if at0 l 0<128 then .ok (1,(at0 l 0).toNat)
 else if at0 l 0=129 then(if l.length<2 then .error 3 else if at0 l 1<128 then .error 2 else .ok (2,(at0 l 1).toNat))
 else if at0 l 0=130 then(if l.length<3 then .error 3 else if at0 l 1=0 then .error 2 else .ok (3,(at0 l 1*256+at0 l 2).toNat))
 else .error 2
theorem zts (l:List Int):zbe l=if l.length<1 then .error 3 else if at0 l 0%32=31 then .error 2 else(match lenL (l.drop 1)with| .error z=> .error z| .ok (h,m)=> .ok (h+1,m)):=by
 have e0:at0 (l.drop 1) 0=at0 l 1:=zcs l 1 0
 have e1:at0 (l.drop 1) 1=at0 l 2:=zcs l 1 1
 have e2:at0 (l.drop 1) 2=at0 l 3:=zcs l 1 2
 have el:(l.drop 1).length=l.length-1:=List.length_drop
 unfold zbe lenL
 rw[e0,e1,e2,el]
 by_cases h1:l.length<1
 · rw[if_pos h1,if_pos h1]
 rw[if_neg h1,if_neg h1]
 by_cases h2:at0 l 0%32=31
 · rw[if_pos h2,if_pos h2]
 rw[if_neg h2,if_neg h2]
 by_cases h3:l.length<2
 · have h3':l.length-1<1:=by omega
   rw[if_pos h3,if_pos h3']
 have h3':¬l.length-1<1:=by omega
 rw[if_neg h3,if_neg h3']
 by_cases h4:at0 l 1<128
 · rw[if_pos h4,if_pos h4]
 rw[if_neg h4,if_neg h4]
 by_cases h5:at0 l 1=129
 · rw[if_pos h5,if_pos h5]
   by_cases h6:l.length<3
   · have h6':l.length-1<2:=by omega
     rw[if_pos h6,if_pos h6']
   have h6':¬l.length-1<2:=by omega
   rw[if_neg h6,if_neg h6']
   by_cases h7:at0 l 2<128
   · rw[if_pos h7,if_pos h7]
   · rw[if_neg h7,if_neg h7]
 rw[if_neg h5,if_neg h5]
 by_cases h8:at0 l 1=130
 · rw[if_pos h8,if_pos h8]
   by_cases h6:l.length<4
   · have h6':l.length-1<3:=by omega
     rw[if_pos h6,if_pos h6']
   have h6':¬l.length-1<3:=by omega
   rw[if_neg h6,if_neg h6']
   by_cases h7:at0 l 2=0
   · rw[if_pos h7,if_pos h7]
   · rw[if_neg h7,if_neg h7]
 · rw[if_neg h8,if_neg h8]
theorem zgU {w w':World} {r:Option Nat} (h:Below w.heap.size w w'):w.grownBy w' r:=⟨h.os,h.tape,h.output,h.size,fun k hk _=>h.block k hk⟩
def zen (z:Int):Int:=if z<128 then z else if z<256 then 129 else 130
theorem zfJ (z:Int) (w:World) (h0:0<=z) (h1:z<=1000000):Calls Tryz.prog 133 #[.int .i64 z] w fun e w'=>∃b n,e= .returned (.slice (some ⟨b,0,none⟩) (n+1) (n+1))/\ w'.cell? ⟨b,0,none⟩=some (.int .u8 (zen z))/\ Below w.heap.size w w':=by
 refine(ziU z w h0 h1).mono ?_
 rintro e w2 ⟨rfl,rfl⟩
 have hb:Below w.heap.size w (w.alloc (.cells ((lenB z).map (Value.int .u8)).toArray 5)):=(Below.refl _ _).alloc (Nat.le_refl _) _
 have hc:=(Blk.new w 5 ((lenB z).map (Value.int .u8)).toArray).cell 0
 have key:∃r,lenB z=zen z::r:=by
  unfold lenB zen
  split
  · exact⟨_,rfl⟩
  · split
    · exact⟨_,rfl⟩
    · exact⟨_,rfl⟩
 obtain⟨r,hr⟩:=key
 rw[hr]at hc hb⊢
 exact⟨w.heap.size,r.length,rfl,by rw[hc];simp,hb⟩
theorem zc0 {gs lvl Bd:Nat} {zs:List Int} {w w':World} {e:Ending} (h:zfH gs lvl Bd 1 zs w e w') (hl:0<zs.length):
 ∃b off c,e= .returned (.slice (some ⟨b,off,none⟩) 1 c)/\ w'.cell? ⟨b,off,none⟩=some (.int .u8 (at0 zs 0))/\ Rest w' gs lvl Bd (zs.drop 1)/\ w.grownBy w' (some gs):=by
 obtain⟨A,c,rfl,hr,_,hne,_,hrest,hg⟩:=h
 obtain⟨b,off,rfl,_,hc⟩:=hr.2.2 (by omega)
 have:=hc 0 (by omega)
 rw[List.getElem?_take,if_pos (by omega)]at this
 exact⟨b,off,c,rfl,this,hrest,hg⟩
theorem ztt {gs lvl Bd:Nat} {zs:List Int} {w w':World} {e:Ending} (h:zfH gs lvl Bd 2 zs w e w') (hl:1<zs.length):
 ∃b off c,e= .returned (.slice (some ⟨b,off,none⟩) 2 c)/\ w'.cell? ⟨b,off,none⟩=some (.int .u8 (at0 zs 0))/\ w'.cell? ⟨b,off+1,none⟩=some (.int .u8 (at0 zs 1))/\ Rest w' gs lvl Bd (zs.drop 2)/\ w.grownBy w' (some gs):=by
 obtain⟨A,c,rfl,hr,_,hne,_,hrest,hg⟩:=h
 obtain⟨b,off,rfl,_,hc⟩:=hr.2.2 (by omega)
 have h0:=hc 0 (by omega)
 have h1:=hc 1 (by omega)
 rw[List.getElem?_take,if_pos (by omega)]at h0
 rw[List.getElem?_take,if_pos (by omega)]at h1
 exact⟨b,off,c,rfl,h0,h1,hrest,hg⟩
def zrk (gs lvl Bd:Nat) (zs:List Int) (w:World) (e:Ending) (w':World):Prop:=
 w.grownBy w' (some gs)/\ ((∃z:Int,lenL zs= .error z/\ e= .panicked (errP (norm lvl z))) \/(∃h m:Nat,lenL zs= .ok (h,m)/\ e= .returned (.int .i64 (m:Int))/\ Rest w' gs lvl Bd (zs.drop h)))
theorem ztu (lvl:Nat):norm lvl 2=2:=by simp[norm]
theorem zvK {x y:Int} (x0:0<=x) (x1:x<=255) (y0:0<=y) (y1:y<=255):bits .or .i64 (x*256) y=x*256+y:=
 bits_join .i64 63 (by decide) zge 8 _ _ (by omega) (by omega) (by omega) (by omega) (by omega) (by omega)
theorem zu0 (gs lvl Bd:Nat) (zs:List Int) (w:World) (hl:lvl<=100) (hr:Rest w gs lvl Bd zs) (hn:zs.length<=30000):
 Calls Tryz.prog 211 #[.pointer (some ⟨gs,0,none⟩)] w (zrk gs lvl Bd zs w):=by
 have hby:∀z∈zs,0<=z/\ z<=255:=by
  obtain⟨A,c,_,h,_⟩:=hr
  exact h.2.1
 have z0:=zdk hby 0
 have z1:=zdk hby 1
 have z2:=zdk hby 2
 by_cases h1:zs.length<1
 · have F:Hid (lenL zs= .error 3):=if_pos h1
   have CI:=zwd (show Calls Tryz.prog 210 #[.pointer (some ⟨gs,0,none⟩),.int .i64 1] w _ from zdB gs lvl Bd 1 zs w hl hr hn h1 (by omega))
   clear hr
   go_enter Tryz.func211,Tryz.ntmps211
   go_wp2_with fail
   refine CI.out.mono ?_
   rintro e w2 ⟨rfl,rfl⟩
   exact⟨rfl,World.grownBy.refl _ _,.inl ⟨3,F.out,rfl⟩⟩
 have CI:=zwd (show Calls Tryz.prog 210 #[.pointer (some ⟨gs,0,none⟩),.int .i64 1] w _ from zhO gs lvl Bd 1 zs w hr hn (by omega))
 clear hr
 have e1:at0 (zs.drop 1) 0=at0 zs 1:=zcs zs 1 0
 have e2:at0 (zs.drop 1) 1=at0 zs 2:=zcs zs 1 1
 have el:(zs.drop 1).length=zs.length-1:=List.length_drop
 have DL:Hid (lenL zs=if at0 zs 0<128 then .ok (1,(at0 zs 0).toNat)
  else if at0 zs 0=129 then(if zs.length<2 then .error 3 else if at0 zs 1<128 then .error 2 else .ok (2,(at0 zs 1).toNat))
  else if at0 zs 0=130 then(if zs.length<3 then .error 3 else if at0 zs 1=0 then .error 2 else .ok (3,(at0 zs 1*256+at0 zs 2).toNat))
  else .error 2):=if_neg h1
 by_cases c1:at0 zs 0<128
 · have F:Hid (lenL zs= .ok (1,(at0 zs 0).toNat)):=DL.out.trans (if_pos c1)
   clear DL e1 e2 el
   go_enter Tryz.func211,Tryz.ntmps211
   go_wp2_with fail
   refine CI.out.mono ?_
   intro e w2 h2
   obtain⟨b,off,c,rfl,hcell,hrest,hg⟩:=zc0 h2 (by omega)
   have HG:=zwd hg
   have HS:=zwd hrest
   clear h2 hg hrest CI
   generalize at0 zs 0=x0 at hcell F z0 c1
   go_wp2_with fail
   go_ret
   exact⟨HG.out,.inr ⟨1,x0.toNat,F.out,by rw[Int.toNat_of_nonneg z0.1];rfl,HS.out⟩⟩
 have DL2:Hid (lenL zs=if at0 zs 0=129 then(if zs.length<2 then .error 3 else if at0 zs 1<128 then .error 2 else .ok (2,(at0 zs 1).toNat))
  else if at0 zs 0=130 then(if zs.length<3 then .error 3 else if at0 zs 1=0 then .error 2 else .ok (3,(at0 zs 1*256+at0 zs 2).toNat))
  else .error 2):=DL.out.trans (if_neg c1)
 clear DL
 by_cases c2:at0 zs 0=129
 · have DL3:Hid (lenL zs=if zs.length<2 then .error 3 else if at0 zs 1<128 then .error 2 else .ok (2,(at0 zs 1).toNat)):=DL2.out.trans (if_pos c2)
   clear DL2
   by_cases h2:zs.length<2
   · have F:Hid (lenL zs= .error 3):=DL3.out.trans (if_pos h2)
     clear DL3 e1 e2
     go_enter Tryz.func211,Tryz.ntmps211
     go_wp2_with fail
     refine CI.out.mono ?_
     intro e w2 hh2
     obtain⟨b,off,c,rfl,hcell,hrest,hg⟩:=zc0 hh2 (by omega)
     have HG:=zwd hg
     have C2:=zwd (show Calls Tryz.prog 210 #[.pointer (some ⟨gs,0,none⟩),.int .i64 1] w2 _ from zdB gs lvl Bd 1 (zs.drop 1) w2 hl hrest (by omega) (by omega) (by omega))
     clear hh2 hg hrest CI el
     rw[c2]at hcell
     clear c1 c2 z0
     go_wp2_with fail
     refine C2.out.mono ?_
     rintro e w3 ⟨rfl,rfl⟩
     exact⟨rfl,HG.out,.inl ⟨3,F.out,rfl⟩⟩
   have DL4:Hid (lenL zs=if at0 zs 1<128 then .error 2 else .ok (2,(at0 zs 1).toNat)):=DL3.out.trans (if_neg h2)
   clear DL3 e2
   go_enter Tryz.func211,Tryz.ntmps211
   go_wp2_with fail
   refine CI.out.mono ?_
   intro e w2 hh2
   obtain⟨b,off,c,rfl,hcell,hrest,hg⟩:=zc0 hh2 (by omega)
   have HG:=zwd hg
   have C2:=zwd (show Calls Tryz.prog 210 #[.pointer (some ⟨gs,0,none⟩),.int .i64 1] w2 _ from zhO gs lvl Bd 1 (zs.drop 1) w2 hrest (by omega) (by omega))
   have EL:=zwd el
   have E1:=zwd e1
   clear hh2 hg hrest CI el e1
   rw[c2]at hcell
   clear c1 c2 z0
   go_wp2_with fail
   refine C2.out.mono ?_
   intro e w3 hh3
   obtain⟨b2,off2,c3,rfl,hcell2,hrest2,hg2⟩:=zc0 hh3 (by rw[EL.out];omega)
   rw[E1.out]at hcell2
   rw[List.drop_drop]at hrest2
   have HG3:=zwd (zal HG.out hg2)
   have HS3:=zwd hrest2
   clear hh3 hg2 hrest2 HG C2 E1 EL hcell
   generalize at0 zs 1=x1 at hcell2 z1 DL4
   go_wp2_with fail
   refine(zfJ _ _ (by omega) (by omega)).mono ?_
   rintro e w4 ⟨b4,n4,rfl,hc4,hb4⟩
   have HG4:=zwd (zal HG3.out (zgU hb4))
   have HS4:=zwd (HS3.out.below hb4)
   clear hb4 HG3 HS3
   by_cases c5:x1<128
   · have F:Hid (lenL zs= .error 2):=DL4.out.trans (if_pos c5)
     have t5:(zen x1==129)=false:=by simp[zen,c5];omega
     clear DL4
     go_wp2_with fail
     exact⟨rfl,HG4.out,.inl ⟨2,F.out,by rw[ztu];rfl⟩⟩
   · have F:Hid (lenL zs= .ok (2,x1.toNat)):=DL4.out.trans (if_neg c5)
     have t5:zen x1=129:=by rw[zen,if_neg c5,if_pos (by omega)]
     rw[t5]at hc4
     clear DL4 t5
     go_wp2_with fail
     go_ret
     exact⟨HG4.out,.inr ⟨2,x1.toNat,F.out,by rw[Int.toNat_of_nonneg z1.1];rfl,HS4.out⟩⟩
 have DL3:Hid (lenL zs=if at0 zs 0=130 then(if zs.length<3 then .error 3 else if at0 zs 1=0 then .error 2 else .ok (3,(at0 zs 1*256+at0 zs 2).toNat))else .error 2):=DL2.out.trans (if_neg c2)
 clear DL2
 by_cases c3:at0 zs 0=130
 · have DL4:Hid (lenL zs=if zs.length<3 then .error 3 else if at0 zs 1=0 then .error 2 else .ok (3,(at0 zs 1*256+at0 zs 2).toNat)):=DL3.out.trans (if_pos c3)
   clear DL3
   by_cases h2:zs.length<3
   · have F:Hid (lenL zs= .error 3):=DL4.out.trans (if_pos h2)
     clear DL4 e1 e2
     go_enter Tryz.func211,Tryz.ntmps211
     go_wp2_with fail
     refine CI.out.mono ?_
     intro e w2 hh2
     obtain⟨b,off,c,rfl,hcell,hrest,hg⟩:=zc0 hh2 (by omega)
     have HG:=zwd hg
     have C2:=zwd (show Calls Tryz.prog 210 #[.pointer (some ⟨gs,0,none⟩),.int .i64 2] w2 _ from zdB gs lvl Bd 2 (zs.drop 1) w2 hl hrest (by omega) (by omega) (by omega))
     clear hh2 hg hrest CI el
     rw[c3]at hcell
     clear c1 c2 c3 z0
     go_wp2_with fail
     refine C2.out.mono ?_
     rintro e w3 ⟨rfl,rfl⟩
     exact⟨rfl,HG.out,.inl ⟨3,F.out,rfl⟩⟩
   have DL5:Hid (lenL zs=if at0 zs 1=0 then .error 2 else .ok (3,(at0 zs 1*256+at0 zs 2).toNat)):=DL4.out.trans (if_neg h2)
   clear DL4
   go_enter Tryz.func211,Tryz.ntmps211
   go_wp2_with fail
   refine CI.out.mono ?_
   intro e w2 hh2
   obtain⟨b,off,c,rfl,hcell,hrest,hg⟩:=zc0 hh2 (by omega)
   have HG:=zwd hg
   have C2:=zwd (show Calls Tryz.prog 210 #[.pointer (some ⟨gs,0,none⟩),.int .i64 2] w2 _ from zhO gs lvl Bd 2 (zs.drop 1) w2 hrest (by omega) (by omega))
   have EL:=zwd el
   have E1:=zwd e1
   have E2:=zwd e2
   clear hh2 hg hrest CI el e1 e2
   rw[c3]at hcell
   clear c1 c2 c3 z0
   go_wp2_with fail
   refine C2.out.mono ?_
   intro e w3 hh3
   obtain⟨b2,off2,c3,rfl,hcell2,hcell3,hrest2,hg2⟩:=ztt hh3 (by rw[EL.out];omega)
   rw[E1.out]at hcell2
   rw[E2.out]at hcell3
   rw[List.drop_drop]at hrest2
   have HG3:=zwd (zal HG.out hg2)
   have HS3:=zwd hrest2
   clear hh3 hg2 hrest2 HG C2 E1 E2 EL hcell
   generalize at0 zs 1=x1 at hcell2 z1 DL5
   generalize at0 zs 2=x2 at hcell3 z2 DL5
   have OR:=zvK z1.1 z1.2 z2.1 z2.2
   go_wp2_with fail
   go_quiet (fail)
   have HG3':=zwd (zal HG3.out (zgU (r:=some gs) (zaE w3 nq)))
   have HS3':=zwd (HS3.out.below (zaE w3 nq))
   clear HG3 HS3 hcell2 hcell3 OR
   go_wp2_with fail
   refine(zfJ _ _ (by omega) (by omega)).mono ?_
   rintro e w4 ⟨b4,n4,rfl,hc4,hb4⟩
   have HG4:=zwd (zal HG3'.out (zgU hb4))
   have HS4:=zwd (HS3'.out.below hb4)
   clear hb4 HG3' HS3'
   by_cases c5:x1=0
   · have F:Hid (lenL zs= .error 2):=DL5.out.trans (if_pos c5)
     have t5:(zen (x1*256+x2)==130)=false:=by
      unfold zen
      simp
      split
      · omega
      · split<;>omega
     clear DL5 c5
     go_wp2_with fail
     exact⟨rfl,HG4.out,.inl ⟨2,F.out,by rw[ztu];rfl⟩⟩
   · have F:Hid (lenL zs= .ok (3,(x1*256+x2).toNat)):=DL5.out.trans (if_neg c5)
     have t5:zen (x1*256+x2)=130:=by rw[zen,if_neg (by omega),if_neg (by omega)]
     rw[t5]at hc4
     have E:Hid (((x1*256+x2).toNat:Int)=x1*256+x2):=Int.toNat_of_nonneg (by omega)
     clear DL5 t5 c5
     go_wp2_with fail
     go_ret
     exact⟨HG4.out,.inr ⟨3,(x1*256+x2).toNat,F.out,by rw[E.out];rfl,HS4.out⟩⟩
 · have F:Hid (lenL zs= .error 2):=DL3.out.trans (if_neg c3)
   clear DL3 e1 e2 el
   go_enter Tryz.func211,Tryz.ntmps211
   go_wp2_with fail
   refine CI.out.mono ?_
   intro e w2 h2
   obtain⟨b,off,c,rfl,hcell,hrest,hg⟩:=zc0 h2 (by omega)
   have HG:=zwd hg
   clear h2 hg hrest CI
   generalize at0 zs 0=x0 at hcell z0 c1 c2 c3
   have t2:(x0==129)=false:=by simpa using c2
   have t3:(x0==130)=false:=by simpa using c3
   go_wp2_with fail
   exact⟨rfl,HG.out,.inl ⟨2,F.out,by rw[ztu];rfl⟩⟩
theorem znF {l:List Int} {z:Int} (e:zbe l= .error z):z=2 \/z=3:=by
 unfold zbe at e
 repeat(first|(split at e)|(cases e;omega)|(cases e))
theorem zfK {deep:Nat} {l:List Int} {z:Int} (e:zbe l= .error z):zbr deep l= .error z:=by
 unfold zbr zdT
 rw[e]
theorem zhQ {deep h m:Nat} {l:List Int} (e:zbe l= .ok (h,m)) (hs:(l.drop h).length<m):zbr deep l= .error 3:=by
 unfold zbr zdT
 rw[e]
 simp only
 rw[if_pos hs]
theorem ziX {deep h m:Nat} {l:List Int} (e:zbe l= .ok (h,m)) (hs:¬(l.drop h).length<m) (hd:32<=deep):zbr deep l= .error 4:=by
 unfold zbr zdT
 rw[e]
 simp only
 rw[if_neg hs,if_pos hd]
theorem ziY {deep h m:Nat} {l:List Int} (e:zbe l= .ok (h,m)) (hs:¬(l.drop h).length<m) (hd:¬32<=deep) (hw:zav (at0 l 0)=false):zbr deep l= .ok (.node (at0 l 0) ((l.drop h).take m) [],(l.drop h).drop m):=by
 unfold zbr zdT
 rw[e]
 simp only
 rw[if_neg hs,if_neg hd,if_neg (by rw[hw];simp)]
theorem zgq {deep h m:Nat} {l:List Int} {z:Int} (e:zbe l= .ok (h,m)) (hs:¬(l.drop h).length<m) (hd:¬32<=deep) (hw:zav (at0 l 0)=true) (hk:zcZ (deep+1) ((l.drop h).take m)= .error z):zbr deep l= .error (if z=3 then 2 else z):=by
 unfold zbr zdT
 rw[e]
 simp only
 rw[if_neg hs,if_neg hd,if_pos hw,hk]
theorem zhR {deep h m:Nat} {l:List Int} {ks:List T} (e:zbe l= .ok (h,m)) (hs:¬(l.drop h).length<m) (hd:¬32<=deep) (hw:zav (at0 l 0)=true) (hk:zcZ (deep+1) ((l.drop h).take m)= .ok ks):zbr deep l= .ok (.node (at0 l 0) [] ks,(l.drop h).drop m):=by
 unfold zbr zdT
 rw[e]
 simp only
 rw[if_neg hs,if_neg hd,if_pos hw,hk]
theorem zlh {rec:Nat->List Int->Except Int (List T)} (hrec:∀d l z,rec d l= .error z->z=2 \/z=3 \/z=4) {deep:Nat} {l:List Int} {z:Int} (e:zdT rec deep l= .error z):z=2 \/z=3 \/z=4:=by
 unfold zdT at e
 split at e
 · rename_i hh
   cases e
   have:=znF hh
   omega
 split at e
 · cases e
   omega
 split at e
 · cases e
   omega
 split at e
 · split at e
   · rename_i hk
     cases e
     have:=hrec _ _ _ hk
     split<;>omega
   · cases e
 · cases e
theorem zrl:∀(f d:Nat) (l:List Int) (z:Int),zeg f d l= .error z->z=2 \/z=3 \/z=4:=by
 intro f
 induction f with
 |zero=>intro d l z e;rw[zeg]at e;cases e
 |succ f ih=>
   intro d l z e
   rw[zeg]at e
   split at e
   · cases e
   split at e
   · rename_i he
     cases e
     exact zlh ih he
   split at e
   · rename_i he
     cases e
     exact ih _ _ _ he
   · cases e
theorem zhS {deep:Nat} {l:List Int} {z:Int} (e:zbr deep l= .error z):z=2 \/z=3 \/z=4:=zlh (fun d l z h=>zrl _ d l z h) e
theorem zli {l:List Int} {h m:Nat} (hb:∀z∈l,0<=z/\ z<=255) (e:zbe l= .ok (h,m)):m<=65535:=by
 have h1:=zdk hb 1
 have h2:=zdk hb 2
 have h3:=zdk hb 3
 unfold zbe at e
 split at e
 · cases e
 split at e
 · cases e
 split at e
 · cases e
 split at e
 · cases e;omega
 split at e
 · split at e
   · cases e
   split at e
   · cases e
   · cases e;omega
 split at e
 · split at e
   · cases e
   split at e
   · cases e
   · cases e;omega
 · cases e
theorem zhT (w:World) (q:Nat):Below w.heap.size w ((w.alloc (.cells #[.int .i64 0,.slice none 0 0,.slice none 0 0] 30)).drewN q):=
 Below.step ((Below.refl _ _).alloc (Nat.le_refl _) _) (zaE _ q)
def bare (w:World) (q:Nat) (x:Int):World:=((w.alloc (.cells #[.int .i64 0,.slice none 0 0,.slice none 0 0] 30)).drewN q).alloc (.cells #[.int .i64 x,.slice none 0 0,.slice none 0 0] 30)
theorem zlj (w:World) (q:Nat) (x:Int):(bare w q x).heap.size=w.heap.size+2:=by simp[bare]
theorem zgf (w:World) (q:Nat) (x:Int):Below w.heap.size w (bare w q x):=Below.step (zhT w q) ((Below.refl _ _).alloc (Nat.le_refl _) _)
theorem zfL (w:World) (q:Nat) (x:Int):Blk (bare w q x) w.heap.size 30 #[.int .i64 0,.slice none 0 0,.slice none 0 0]:=
 Blk.alloc (Blk.drewN (Blk.new w _ _) q) _
theorem zfM (w:World) (q:Nat) (x:Int):Blk (bare w q x) (w.heap.size+1) 30 #[.int .i64 x,.slice none 0 0,.slice none 0 0]:=by
 have h:=Blk.new ((w.alloc (.cells #[.int .i64 0,.slice none 0 0,.slice none 0 0] 30)).drewN q) 30 #[.int .i64 x,.slice none 0 0,.slice none 0 0]
 rw[show((w.alloc (.cells #[.int .i64 0,.slice none 0 0,.slice none 0 0] 30)).drewN q).heap.size=w.heap.size+1 by simp]at h
 exact h
theorem znG (w:World) (q:Nat) (x:Int):Out (bare w q x) ((bare w q x).alloc (.cells #[] 5)) (.slice (some ⟨w.heap.size+1+1,0,none⟩) 0 0) []:=by
 have h:=Out.made (W0:=bare w q x) 0 (by omega)
 rw[zlj,show madeCells #[.int .u8 0] 0=#[]by simp[madeCells]]at h
 exact h
theorem zgF {fn:Func} {p u v:Tmp} {ty:TypeId} (h:fn.results=#[.cell p ty,.tmp u,.tmp v]) (tmps:Array Value) (P:Program) (w:World):
 (results fn tmps).run P w=
   ((asAddr (tmps.getD p undef)).run P w).andThen fun a w₁=>((loadVar ty a).run P w₁).andThen fun x w₂=> .ok (.tuple #[x,tmps.getD u undef,tmps.getD v undef]) w₂:=by
 simp only[results,h]
 simp[Sem.run_bind,Result.andThen]
theorem zct {P:Program} {fn:Func} {p u v:Tmp} {ty:TypeId} (h:fn.results=#[.cell p ty,.tmp u,.tmp v]) (tmps:Array Value) (w:World) (g:Nat) (t:TypeId) (cs:Array Value) (fr:Nat×Nat) (d:TypeDesc)
 (hp:tmps.getD p undef= .pointer (some ⟨g,0,none⟩)) (hg:w.heap[g]?=some (.cells cs t fr))
 (hu:P.underlying ty=some d) (hd:(match d with| .struct _| .array _ _=>true|_=>false)=true) (hi:(P.info? ty).map (·.size)=some cs.size):
 (results fn tmps).run P w= .ok (.tuple #[.agg cs,tmps.getD u undef,tmps.getD v undef]) w:=by
 rw[zgF h,hp]
 simp[asAddr,run_loadVar_row w g t ty cs fr d hg hu hd hi,Result.andThen]
theorem Row.far {w:World} {a:Option Addr} {n:Nat} {zs:List Int} (h:Row w a n zs) {g:Nat} (hb:0<n->∃b off,a=some ⟨b,off,none⟩/\ g<b) (j:Nat) (v:Value):Row (w.setCell ⟨g,j,none⟩ v) a n zs:=by
 refine⟨h.1,h.2.1,fun h0=> ?_⟩
 obtain⟨b,off,e,hlt,hc⟩:=h.2.2 h0
 obtain⟨b',off',e',hg⟩:=hb h0
 rw[e]at e'
 obtain⟨rfl,rfl⟩:b=b'/\ off=off':=by simpa using e'
 refine⟨b,off,e,by simpa using hlt,fun i hi=> ?_⟩
 rw[World.cell?_setCell_other _ _ _ _ (fun e=>by
  have he:g=b:=congrArg Addr.block e
  omega)]
 exact hc i hi
def zu1 (w w1:World) (x0:Int) (V:Value):World:=(((w1.setCell ⟨w.heap.size+1,1,none⟩ V).setCell ⟨w.heap.size,0,none⟩ (.int .i64 x0)).setCell ⟨w.heap.size,1,none⟩ V).setCell ⟨w.heap.size,2,none⟩ (.slice none 0 0)
theorem znH {w w1:World} (h:Blk w1 w.heap.size 30 #[.int .i64 0,.slice none 0 0,.slice none 0 0]) (x0:Int) (V:Value):Blk (zu1 w w1 x0 V) w.heap.size 30 #[.int .i64 x0,V,.slice none 0 0]:=
 (((h.far (by omega) 1 V).set 0 (.int .i64 x0)).set 1 V).set 2 (.slice none 0 0)
theorem ziZ {w w1:World} (h:Below w.heap.size w w1) (x0:Int) (V:Value):Below w.heap.size w (zu1 w w1 x0 V):=
 (((h.setCell (by show w.heap.size<=w.heap.size+1;omega) _).setCell (Nat.le_refl _) _).setCell (Nat.le_refl _) _).setCell (Nat.le_refl _) _
theorem zrm {w w1:World} {x0:Int} {body:List Int} {a1:Option Addr} {cc1:Nat} (hx:(Lit.int .i64 x0).wf=true) (hr:Row w1 a1 body.length body) (hl:body.length<=maxLen) (hn:a1=none->cc1=0) (hcc:body.length<=cc1) (hb:0<body.length->∃b off,a1=some ⟨b,off,none⟩/\ w.heap.size+1<b):
 (T.node x0 body []).InP (w.heap.size<= ·) (zu1 w w1 x0 (.slice a1 body.length cc1)) (.agg #[.int .i64 x0,.slice a1 body.length cc1,.slice none 0 0]):=by
 unfold T.InP
 have hb0:0<body.length->∃b off,a1=some ⟨b,off,none⟩/\ w.heap.size<b:=fun h=>by
  obtain⟨b,off,e,hg⟩:=hb h
  exact⟨b,off,e,by omega⟩
 refine⟨a1,body.length,cc1,none,0,0,rfl,hx,(((hr.far hb _ _).far hb0 _ _).far hb0 _ _).far hb0 _ _,hl,hn,rfl,⟨Nat.zero_le _,hcc,Nat.le_refl _⟩,fun h0=> ?_,fun h=>absurd h (by omega)⟩
 obtain⟨b,off,e,hg⟩:=hb h0
 exact⟨b,off,e,by omega⟩
theorem Tryz.sizeNode:(Tryz.prog.info? 30).map (·.size)=some 3:=by kernel_rfl
theorem Blk.facts {w:World} {g:Nat} {t:TypeId} {a b c:Value} (h:Blk w g t #[a,b,c]):w.cell? ⟨g,0,none⟩=some a/\ w.cell? ⟨g,1,none⟩=some b/\ w.cell? ⟨g,2,none⟩=some c/\ w.frozen? ⟨g,0,none⟩=false/\ w.frozen? ⟨g,1,none⟩=false/\ w.frozen? ⟨g,2,none⟩=false:=
 ⟨h.cell 0,h.cell 1,h.cell 2,h.free 0,h.free 1,h.free 2⟩
theorem zrn {w wr:World} {q:Nat} {x:Int} {a:Option Addr} {n c:Nat} {L:List Int} (h:Out (bare w q x) wr (.slice a n c) L):0<L.length->∃b off,a=some ⟨b,off,none⟩/\ w.heap.size+1<b:=by
 intro h0
 obtain⟨g,cap,e,hg⟩:=h.form h0
 rw[zlj]at hg
 injection e with e1
 exact⟨g,0,e1,by omega⟩
theorem zro {w:World} {b off n:Nat} {zs:List Int} (h:Row w (some ⟨b,off,none⟩) n zs) (k m:Nat) (hk:k+m<=n):Row w (some ⟨b,off+k,none⟩) m ((zs.drop k).take m):=by
 have hl:=h.1
 refine⟨by rw[List.length_take,List.length_drop];omega,fun x hx=>h.2.1 x (List.mem_of_mem_drop (List.mem_of_mem_take hx)),fun h0=> ?_⟩
 obtain⟨b',off',e,hb,hc⟩:=h.2.2 (by omega)
 obtain⟨rfl,rfl⟩:b=b'/\ off=off':=by simpa using e
 refine⟨b,off+k,rfl,hb,fun i hi=> ?_⟩
 have:=hc (k+i) (by omega)
 rw[List.getElem?_take,if_pos hi,List.getElem?_drop,Nat.add_assoc,this]
theorem zgg (w:World) (q:Nat):Below w.heap.size w (((((w.alloc (.cells #[.int .i64 0,.slice none 0 0,.slice none 0 0] 30)).drewN q).setCell ⟨w.heap.size,0,none⟩ (.int .i64 0)).setCell ⟨w.heap.size,1,none⟩ (.slice none 0 0)).setCell ⟨w.heap.size,2,none⟩ (.slice none 0 0)):=
 (((zhT w q).setCell (Nat.le_refl _) _).setCell (Nat.le_refl _) _).setCell (Nat.le_refl _) _
def zcu (deep:Nat) (zs:List Int) (k n:Nat) (w:World) (e:Ending) (w':World):Prop:=
 Below w.heap.size w w'/\
 ((∃z:Int,zbr deep (zs.drop k)= .error z/\ e= .returned (.tuple #[.agg #[.int .i64 0,.slice none 0 0,.slice none 0 0],.int .i64 0,.int .i64 z])) \/
  (∃(t:T) (nx:Nat) (v:Value),zbr deep (zs.drop k)= .ok (t,zs.drop nx)/\ k<nx/\ nx<=n/\ e= .returned (.tuple #[v,.int .i64 (nx:Int),.int .i64 0])/\ t.InP (w.heap.size<= ·) w' v))
theorem ztv (a:Option Addr) (n ca k deep:Nat) (zs:List Int) (w:World) (hr:Row w a n zs) (hnc:n<=ca) (hn:n<=30000) (hk:k<=n) (hd:deep<=32) {z:Int} (hh:zbe (zs.drop k)= .error z):
 Calls Tryz.prog 99 #[.slice a n ca,.int .i64 (k:Int),.int .i64 (n:Int),.int .i64 (deep:Int)] w (zcu deep zs k n w):=by
 have R0:=zwd (hr.below (w':=w.alloc (.cells #[.int .i64 0,.slice none 0 0,.slice none 0 0] 30)) ((Below.refl _ _).alloc (Nat.le_refl _) _))
 have HE:=zwd hh
 have hz:=znF hh
 have F:=zwd (zfK (deep:=deep) hh)
 have hz0:(z !=0)=true:=by simp;omega
 clear hh
 go_enter Tryz.func99,Tryz.ntmps99
 go_wp2_with fail
 refine(zfI _ n ca k zs _ R0.out hn hk).mono ?_
 rw[HE.out]
 rintro e w2 ⟨rfl,q,rfl⟩
 go_wp2_with fail
 exact bodyPost_ret (v:= .tuple #[.agg #[.int .i64 0,.slice none 0 0,.slice none 0 0],.int .i64 0,.int .i64 z]) (by simp[results,Tryz.results99,go_sem]) rfl ⟨zgg w q,.inl ⟨z,F.out,rfl⟩⟩
theorem zoO (a:Option Addr) (n ca k deep:Nat) (zs:List Int) (w:World) (hr:Row w a n zs) (hnc:n<=ca) (hn:n<=30000) (hk:k<=n) (hd:deep<=32) {h m:Nat} (hh:zbe (zs.drop k)= .ok (h,m)) (hs:n<k+h+m):
 Calls Tryz.prog 99 #[.slice a n ca,.int .i64 (k:Int),.int .i64 (n:Int),.int .i64 (deep:Int)] w (zcu deep zs k n w):=by
 have R0:=zwd (hr.below (w':=w.alloc (.cells #[.int .i64 0,.slice none 0 0,.slice none 0 0] 30)) ((Below.refl _ _).alloc (Nat.le_refl _) _))
 have HE:=zwd hh
 have hhk:=ze9 hh
 have hlen:(zs.drop k).length=n-k:=by rw[List.length_drop,hr.1]
 rw[hlen]at hhk
 have hm:=zli (fun z hz=>hr.2.1 z (List.mem_of_mem_drop hz)) hh
 have hl2:((zs.drop k).drop h).length=n-(k+h):=by rw[List.length_drop,hlen];omega
 have F:=zwd (zhQ (deep:=deep) hh (by rw[hl2];omega))
 clear hh hlen hl2
 go_enter Tryz.func99,Tryz.ntmps99
 go_wp2_with fail
 refine(zfI _ n ca k zs _ R0.out hn hk).mono ?_
 rw[HE.out]
 rintro e w2 ⟨rfl,q,rfl⟩
 go_wp2_with fail
 exact bodyPost_ret (v:= .tuple #[.agg #[.int .i64 0,.slice none 0 0,.slice none 0 0],.int .i64 0,.int .i64 3]) (by simp[results,Tryz.results99,go_sem]) rfl ⟨zgg w q,.inl ⟨3,F.out,rfl⟩⟩
theorem zrp (a:Option Addr) (n ca k deep:Nat) (zs:List Int) (w:World) (hr:Row w a n zs) (hnc:n<=ca) (hn:n<=30000) (hk:k<=n) (hd:deep<=32) {h m:Nat} (hh:zbe (zs.drop k)= .ok (h,m)) (hs:¬n<k+h+m) (hdp:32<=deep):
 Calls Tryz.prog 99 #[.slice a n ca,.int .i64 (k:Int),.int .i64 (n:Int),.int .i64 (deep:Int)] w (zcu deep zs k n w):=by
 have R0:=zwd (hr.below (w':=w.alloc (.cells #[.int .i64 0,.slice none 0 0,.slice none 0 0] 30)) ((Below.refl _ _).alloc (Nat.le_refl _) _))
 have HE:=zwd hh
 have hhk:=ze9 hh
 have hlen:(zs.drop k).length=n-k:=by rw[List.length_drop,hr.1]
 rw[hlen]at hhk
 have hm:=zli (fun z hz=>hr.2.1 z (List.mem_of_mem_drop hz)) hh
 have hl2:((zs.drop k).drop h).length=n-(k+h):=by rw[List.length_drop,hlen];omega
 have hs':¬((zs.drop k).drop h).length<m:=by rw[hl2];omega
 have F:=zwd (ziX (deep:=deep) hh hs' hdp)
 clear hh hlen hl2 hs'
 go_enter Tryz.func99,Tryz.ntmps99
 go_wp2_with fail
 refine(zfI _ n ca k zs _ R0.out hn hk).mono ?_
 rw[HE.out]
 rintro e w2 ⟨rfl,q,rfl⟩
 go_wp2_with fail
 exact bodyPost_ret (v:= .tuple #[.agg #[.int .i64 0,.slice none 0 0,.slice none 0 0],.int .i64 0,.int .i64 4]) (by simp[results,Tryz.results99,go_sem]) rfl ⟨zgg w q,.inl ⟨4,F.out,rfl⟩⟩
theorem zrq (a:Option Addr) (n ca k deep:Nat) (zs:List Int) (w:World) (hr:Row w a n zs) (hnc:n<=ca) (hn:n<=30000) (hk:k<=n) (hd:deep<=32) {h m:Nat} (hh:zbe (zs.drop k)= .ok (h,m)) (hs:¬n<k+h+m) (hdp:¬32<=deep) (hw:zav (zs[k]?.getD 0)=false):
 Calls Tryz.prog 99 #[.slice a n ca,.int .i64 (k:Int),.int .i64 (n:Int),.int .i64 (deep:Int)] w (zcu deep zs k n w):=by
 have R0:=zwd (hr.below (w':=w.alloc (.cells #[.int .i64 0,.slice none 0 0,.slice none 0 0] 30)) ((Below.refl _ _).alloc (Nat.le_refl _) _))
 have HE:=zwd hh
 have hhk:=ze9 hh
 have hlen:(zs.drop k).length=n-k:=by rw[List.length_drop,hr.1]
 rw[hlen]at hhk
 have hm:=zli (fun z hz=>hr.2.1 z (List.mem_of_mem_drop hz)) hh
 have hl2:((zs.drop k).drop h).length=n-(k+h):=by rw[List.length_drop,hlen];omega
 have hs':¬((zs.drop k).drop h).length<m:=by rw[hl2];omega
 obtain⟨b,off,rfl,hb,hcell⟩:=R0.out.2.2 (by omega)
 have c0:=hcell k (by omega)
 have z0:=hr.byte k
 have e0:at0 (zs.drop k) 0=zs[k]?.getD 0:=by rw[zcs];rfl
 have F:=zwd (ziY (deep:=deep) hh hs' hdp (by rw[e0];exact hw))
 rw[e0]at F
 have WI:=zwd hw
 clear hh hlen hl2 hs' e0 hw hcell
 generalize zs[k]?.getD 0=x0 at c0 z0 F WI
 go_enter Tryz.func99,Tryz.ntmps99
 go_wp2_with fail
 refine(zfI _ n ca k zs _ R0.out hn hk).mono ?_
 rw[HE.out]
 rintro e w2 ⟨rfl,q,rfl⟩
 go_wp2_with fail
 refine(zbZ x0 _ (WalkArith.wf_i64 (by omega))).mono ?_
 rintro e w3 ⟨rfl,rfl⟩
 rw[WI.out]
 by_cases hca:k+h=ca
 · obtain rfl:m=0:=by omega
   subst hca
   have F2:Hid (zbr deep (zs.drop k)= .ok (.node x0 [] [],zs.drop (k+h))):=by
    rw[F.out,List.take_zero,List.drop_zero,List.drop_drop]
    exact zwd rfl
   clear F
   go_wp2_with (at_builtin;refine zag (W0:=bare w q x0) (L:=[]) (zs:=[]) rfl _ _ rfl rfl (znG w q x0) rfl (Row.nil _ _) (fun e=>by cases e) (by simp only[List.length_nil];omega) ?_;intro V1 w1 ho1;simp only[List.nil_append]at ho1;obtain⟨a1,cc1,rfl,hr1⟩:=ho1.row (fun z hz=>by simp at hz);have N1:=zwd ho1.nilc;have C1:=zwd (zaJ ho1.1);have Q1:=zwd (zrn ho1);have R1:=zwd hr1;have K0:=zwd ((zfL w q x0).below ho1.2 (zfL w q x0).lt);have K1:=zwd ((zfM w q x0).below ho1.2 (zfM w q x0).lt);have B1:=zwd (Below.step (zgf w q x0) ho1.2);clear ho1 hr1;obtain⟨p0,p1,p2,f0,f1,f2⟩:=K0.out.facts;obtain⟨s0,s1,s2,g0,g1,g2⟩:=K1.out.facts)
   have ML0:([]:List Int).length<=maxLen:=by simp
   have LI:=zwd (zrm (w:=w) (w1:=w1) (x0:=x0) (body:=[]) (WalkArith.wf_i64 (by omega)) R1.out ML0 N1.out C1.out Q1.out)
   exact bodyPost_ret (zct rfl _ _ w.heap.size 30 #[.int .i64 x0,.slice a1 0 cc1,.slice none 0 0] (0,0) _ rfl (znH K0.out x0 (.slice a1 0 cc1)) Tryz.underlying30 rfl Tryz.sizeNode) rfl ⟨ziZ B1.out x0 (.slice a1 0 cc1),.inr ⟨.node x0 [] [],k+h,.agg #[.int .i64 x0,.slice a1 0 cc1,.slice none 0 0],F2.out,by omega,by omega,rfl,LI.out⟩⟩
 have RP:Hid (Row ((bare w q x0).alloc (.cells #[] 5)) (some ⟨b,off+(k+h),none⟩) (k+h+m-(k+h)) ((zs.drop (k+h)).take m)):=by
  rw[show k+h+m-(k+h)=m by omega]
  exact((zro R0.out (k+h) m (by omega)).below (w':=bare w q x0) (show Below _ _ _ from(zaE _ q).trans ((Below.refl _ _).alloc (by simp) _))).below (w':=(bare w q x0).alloc (.cells #[] 5)) ((Below.refl _ _).alloc (Nat.le_refl _) _)
 have zl:((zs.drop (k+h)).take m).length=m:=by rw[List.length_take,List.length_drop,hr.1];omega
 have ZL:=zwd zl
 have zb:∀z∈(zs.drop (k+h)).take m,0<=z/\ z<=255:=fun z hz=>hr.2.1 z (List.mem_of_mem_drop (List.mem_of_mem_take hz))
 have ZB:=zwd zb
 have F2:Hid (zbr deep (zs.drop k)= .ok (.node x0 ((zs.drop (k+h)).take m) [],zs.drop (k+h+m))):=by
  rw[F.out,List.drop_drop,List.drop_drop]
  exact zwd rfl
 clear zl zb F
 generalize(zs.drop (k+h)).take m=body at RP ZL ZB F2
 go_wp2_with (at_builtin;refine zag (W0:=bare w q x0) (L:=[]) (zs:=body) rfl _ _ rfl rfl (znG w q x0) rfl RP.out (fun e=>by cases e) (by simp only[List.length_nil];omega) ?_;intro V1 w1 ho1;simp only[List.nil_append]at ho1;obtain⟨a1,cc1,rfl,hr1⟩:=ho1.row ZB.out;have N1:=zwd ho1.nilc;have C1:=zwd (zaJ ho1.1);have Q1:=zwd (zrn ho1);have R1:=zwd hr1;have K0:=zwd ((zfL w q x0).below ho1.2 (zfL w q x0).lt);have K1:=zwd ((zfM w q x0).below ho1.2 (zfM w q x0).lt);have B1:=zwd (Below.step (zgf w q x0) ho1.2);clear ho1 hr1;obtain⟨p0,p1,p2,f0,f1,f2⟩:=K0.out.facts;obtain⟨s0,s1,s2,g0,g1,g2⟩:=K1.out.facts)
 have ML:body.length<=maxLen:=by rw[ZL.out];unfold maxLen;omega
 exact bodyPost_ret (zct rfl _ _ w.heap.size 30 #[.int .i64 x0,.slice a1 body.length cc1,.slice none 0 0] (0,0) _ rfl (znH K0.out x0 _) Tryz.underlying30 rfl Tryz.sizeNode) rfl ⟨ziZ B1.out x0 _,.inr ⟨_,k+h+m,_,F2.out,by omega,by omega,rfl,zrm (WalkArith.wf_i64 (by omega)) R1.out ML N1.out C1.out Q1.out⟩⟩
end Go.Proofs.YtpgahclpbdpbnaaGreatDoor
