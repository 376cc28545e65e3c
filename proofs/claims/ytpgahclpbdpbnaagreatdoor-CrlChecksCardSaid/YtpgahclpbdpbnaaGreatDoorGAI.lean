import Derived.Test.YtpgahclpbdpbnaaGreatDoorGAG
import Derived.Test.YtpgahclpbdpbnaaGreatDoorGAH
import Derived.Test.YtpgahclpbdpbnaaGreatDoorGAA
set_option maxHeartbeats 4000000
namespace Go.Proofs.YtpgahclpbdpbnaaGreatDoor
open Go.RowKit
set_option linter.unusedVariables false
set_option linter.unusedSimpArgs false
mutual
def layT:T->List Int
 | .node t b ks=>t::(lenB (b.length+(zan ks).length:Nat)++(b++zan ks))
def zan:List T->List Int
 | []=> []
 |x::r=>layT x++zan r
end
theorem zdS (t:T):layT t=t.tag::(lenB (t.body.length+(zan t.kids).length:Nat)++(t.body++zan t.kids)):=by
 obtain⟨tag,b,ks⟩:=t
 rw[layT]
 rfl
theorem zt8 (t:T):((layT t).length:Int)<=5*wt t:=by
 refine T.each (p:=fun t=>((layT t).length:Int)<=5*wt t) ?_ t
 intro t ih
 have key:∀ks:List T,(∀t∈ks,((layT t).length:Int)<=5*wt t)->((zan ks).length:Int)<=5*za2 ks:=by
  intro ks
  induction ks with
  |nil=>intro _;simp[zan,za2]
  |cons k r ihr=>
    intro h
    rw[zan,za2,List.length_append]
    have:=h k (by simp)
    have:=ihr (fun x hx=>h x (by simp[hx]))
    omega
 have h:=key t.kids ih
 rw[zdS,zdc,List.length_cons,List.length_append,List.length_append]
 have:=zch ((t.body.length+(zan t.kids).length:Nat):Int)
 have:=zbO ((t.body.length+(zan t.kids).length:Nat):Int)
 have:=zbq t.kids
 omega
theorem zkX (ks:List T):((zan ks).length:Int)<=5*za2 ks:=by
 induction ks with
 |nil=>simp[zan,za2]
 |cons k r ih=>
   rw[zan,za2,List.length_append]
   have:=zt8 k
   omega
theorem zow (ks:List T):∀k:Nat,za2 (ks.take k)<=za2 ks:=by
 induction ks with
 |nil=>intro k;simp
 |cons x r ih=>
   intro k
   cases k with
   |zero=>rw[List.take_zero,za2];exact zbq _
   |succ k=>
     rw[List.take_succ_cons,za2,za2]
     have:=ih k
     omega
theorem ze8 {ks:List T} {i:Nat} {k:T} (h:ks[i]?=some k):zan (ks.take (i+1))=zan (ks.take i)++layT k:=by
 obtain⟨hi,rfl⟩:=List.getElem?_eq_some_iff.1 h
 have key:∀(xs ys:List T),zan (xs++ys)=zan xs++zan ys:=by
  intro xs ys
  induction xs with
  |nil=>rw[zan];rfl
  |cons x r ih=>rw[List.cons_append,zan,zan,ih,List.append_assoc]
 rw[List.take_succ_eq_append_getElem hi,key]
 congr 1
 rw[zan,zan,List.append_nil]
theorem zjy {z:Int} (h:tagB z=true):0<=z/\ z<=255:=by
 unfold tagB at h
 simp only[Bool.and_eq_true,decide_eq_true_iff]at h
 omega
theorem zno (t:T):∀ {w:World} {v:Value},t.In w v->zar t=true->∀z∈layT t,0<=z/\ z<=255:=by
 refine T.each (p:=fun t=>∀ {w:World} {v:Value},t.In w v->zar t=true->∀z∈layT t,0<=z/\ z<=255) ?_ t
 clear t
 intro t ih w v hin hrt z hz
 obtain⟨A,n,c,K,m,d,rfl,_,hr,_,_,hm,_,hks⟩:=hin.open
 obtain⟨h1,_,_,h4⟩:=zbb hrt
 have key:∀ks:List T,(∀k∈ks,∀z∈layT k,0<=z/\ z<=255)->∀z∈zan ks,0<=z/\ z<=255:=by
  intro ks
  induction ks with
  |nil=>intro _ z hz;simp[zan]at hz
  |cons k r ihr=>
    intro h z hz
    rw[zan]at hz
    rcases List.mem_append.1 hz with hz|hz
    · exact h k (by simp) z hz
    · exact ihr (fun x hx=>h x (by simp[hx])) z hz
 rw[zdS]at hz
 rcases List.mem_cons.1 hz with rfl|hz
 · exact zjy h1
 rcases List.mem_append.1 hz with hz|hz
 · exact zkR (by omega) z hz
 rcases List.mem_append.1 hz with hz|hz
 · exact hr.2.1 z hz
 refine key t.kids (fun k hk=> ?_) z hz
 obtain⟨i,hi,rfl⟩:=List.mem_iff_getElem.1 hk
 obtain⟨b,off,_,_,v0,v1,v2,_,_,_,hin'⟩:=hks i (by omega)
 rw[List.getElem?_eq_getElem hi,Option.getD_some]at hin'
 exact ih _ hk hin' (h4 _ hk)
def zjz (zs:List Int) (w:World) (e:Ending) (w':World):Prop:=
 ∃a c,e= .returned (.slice a zs.length c)/\ Row w' a zs.length zs/\ ((a=none->c=0)/\ zs.length<=c)/\ Below w.heap.size w w'
theorem znp {o:Oper} {a:Act} {K:Act->World->Prop} {Q:Exit->Act->World->Prop} {W0 w:World} {V:Value} {L zs:List Int} {A:Option Addr} {m c:Nat} (s x:Operand)
 (hop:o.op= .call {callee:= .builtin .append,args:=#[s,x],argTypes:=#[26,26]}) (hs:a.eval s=V) (hout:Out W0 w V L) (hx:a.eval x= .slice A m c) (hr:Row w A m zs) (hnil:A=none->c=0) (hl:L.length+m<=1000000)
 (h:∀V' w',Out W0 w' V' (L++zs)->Below W0.heap.size w w'->K (a.put o.dst V') w'):o.wp Tryz.prog a w K Q:=by
 obtain⟨i0,hi5,hz0,hz1,hz2⟩:=info_parts Tryz.infoByte
 cases A with
 |none=>
   obtain rfl:=hnil rfl
   have hm:m=0:=by
    rcases Nat.eq_zero_or_pos m with h0|h0
    · exact h0
    · obtain⟨_,_,e,_⟩:=hr.2.2 h0
      cases e
   subst hm
   obtain rfl:zs=[]:=List.eq_nil_of_length_eq_zero hr.1
   have hrun:=run_append_owned_none (P:=Tryz.prog) (w:=w) W0.heap.size 26 o.type 5 i0 1 Tryz.underlying26 hi5 V L.length _ hout.1
   unfold Oper.wp
   simp[execOp,hop,resolve,invoke,builtin,hs,hx,hrun,Result.andThen]
   exact h V w (by simpa using hout) (Below.refl _ _)
 |some ad=>
   refine wp_append_own w s x 26 hop W0.heap.size 5 i0 (.int .u8 0) 1 1 Tryz.underlying26 hi5 hz0 hz1 hz2 rfl (by decide) V L.length (L.map (Value.int .u8)) hs hout.1 ad m c (zs.map (Value.int .u8)) hx (by rw[List.length_map,hr.1,Nat.mul_one]) hr.cells ?_ (by unfold maxLen;omega) (by omega) hout.2.size ?_
   · intro u hu
     obtain⟨_,_,rfl⟩:=List.mem_map.1 hu
     rfl
   · intro V' w' hown hg _
     have hb:Below W0.heap.size w w':=(Below.refl _ _).grown hg hout.2.size (fun k hk=>(hout.1.lt k hk).1)
     refine h V' w' ⟨?_,hout.2.trans hb⟩ hb
     rw[List.length_append,hr.1,List.map_append]
     exact hown
theorem zqx {w:World} {o:Obj}:Out (w.alloc o) ((w.alloc o).alloc (.cells #[] 5)) (.slice (some ⟨w.heap.size+1,0,none⟩) 0 0) []:=by
 have h:=Out.made (W0:=w.alloc o) 0 (by omega)
 rw[show(w.alloc o).heap.size=w.heap.size+1 by simp,show madeCells #[.int .u8 0] 0=#[]by simp[madeCells]]at h
 exact h
def Past (B:Nat) (w W:World):Prop:=Below B w W
theorem Past.refl (B:Nat) (w:World):Past B w w:=Below.refl _ _
theorem Past.trans {B:Nat} {a b c:World} (h:Past B a b) (k:Past B b c):Past B a c:=Below.trans h k
theorem Past.of {B:Nat} {w W:World} (h:Below w.heap.size w W) (hB:B<=w.heap.size):Past B w W:=h.mono hB
theorem Past.alloc {B:Nat} {w:World} (hB:B<=w.heap.size) (o:Obj):Past B w (w.alloc o):=(Below.refl _ _).alloc hB o
theorem Blk.past {wr W:World} {g B:Nat} {t:TypeId} {cs:Array Value} (h:Blk wr g t cs) (hg:g<B) (hW:Past B wr.drew W) (j:Nat) {v:Value} (hv:cs[j]?=some v):W.cell? ⟨g,j,none⟩=some v:=
 ((Below.cell (p:=⟨g,j,none⟩) hW hg).trans (h.cell j)).trans hv
theorem Past.real {B:Nat} {wr W:World} (hB:B=wr.heap.size) (h:Past B wr.drew W):Below wr.heap.size wr W:=by
 subst hB
 exact⟨h.os,h.tape,h.output,h.size,h.block⟩
theorem zkY {w X wr:World} {V:Value} {L zs:List Int} (h:Out X wr V L) (e:zs=L) (hz:∀z∈zs,0<=z/\ z<=255) (hb:Below w.heap.size w wr):zjz zs w (.returned V) wr:=by
 subst e
 obtain⟨a,c,rfl,hr⟩:=h.row hz
 exact⟨a,c,rfl,hr,⟨h.nilc,zaJ h.1⟩,hb⟩
theorem Box.out {w wr:World} {t:T} {A:Option Addr} {n c:Nat} {K:Option Addr} {m d:Nat} {W0:World} (h:Box w W0 w.heap.size t A n c K m d) (hb:Below W0.heap.size W0 wr):Box w wr w.heap.size t A n c K m d:=h.go hb
theorem zs7 (t:T):∀(v:Value) (w:World),t.In w v->tagB t.tag=true->zar t=true->wt t<40000->Calls Tryz.prog 90 #[v] w (zjz (layT t) w):=by
 refine T.each (p:=fun t=>∀(v:Value) (w:World),t.In w v->tagB t.tag=true->zar t=true->wt t<40000->Calls Tryz.prog 90 #[v] w (zjz (layT t) w)) ?_ t
 clear t
 intro t ih v w hin htg hrt hwt
 obtain⟨A,n,c,K,m,d,rfl,hw,hr,hn,hc,hm,hm',hks⟩:=hin.open
 have BX:=zwd (Box.start hin)
 have IH:=zwd ih
 have HM:=zwd hm
 have HR:=zwd hr
 have RP:=zwd (zbb hrt)
 have EL:=zwd (zdS t)
 have htb:=zjy htg
 have HC:=zwd hc
 have hbl:n<=40000:=by
  have:=zdc t
  have:=zbq t.kids
  have:=hr.1
  omega
 have WE:=zwd (zdc t)
 have LBY:=zwd (zno t hin hrt)
 clear hin ih hr hc hm hks htg hrt
 unfold maxLen at hn hm'
 go_enter Tryz.func90,Tryz.ntmps90
 go_wp2_with (at_builtin;refine zag (W0:=w.alloc (.cells #[.int .i64 t.tag,.slice A n c,.slice K m d] 30)) (L:=[]) (zs:=t.body) rfl _ _ rfl rfl zqx rfl ((HR.out.below ((Below.refl _ _).alloc (Nat.le_refl _) _)).below ((Below.refl _ _).alloc (Nat.le_refl _) _)) HC.out (by simp;omega) ?_;intro V1 w1 ho1;have HO1:=zwd ho1;clear ho1)
 go_loopw [3,4] (fun V i wr=>∃k:Nat,k<=m/\ i= .int .i64 (k:Int)/\ Out (w.alloc (.cells #[.int .i64 t.tag,.slice A n c,.slice K m d] 30)) wr V (t.body++zan (t.kids.take k))) (fun _ i _=>m-(intOf i).toNat)
 case atStart=>exact⟨0,by omega,rfl,by simpa[zan]using HO1.out⟩
 case round=>
  obtain⟨k,hk,rfl,hout⟩:=hrel
  have HO:=zwd hout
  have HB:=zwd (BX.out.out hout.2)
  obtain⟨g0,g1,g2⟩:=HB.out.cells
  clear hout BX HO1
  by_cases hlt:k<m
  · obtain⟨x,bb,off,zz,A',n',c',K',m',d',hx,rfl,c0,c1,c2,hxin⟩:=HB.out.kid k hlt
    have hxm:=List.mem_of_getElem? hx
    have hwx:=zcx hxm
    have hxr:=RP.out.2.2.2 x hxm
    have CI:=zwd (IH.out x hxm _ wr hxin (zbb hxr).1 hxr (by omega))
    have LT:Hid (t.body++zan (t.kids.take (k+1))=t.body++zan (t.kids.take k)++layT x):=by
     rw[ze8 hx,List.append_assoc]
     exact zwd rfl
    have hlx:=zt8 x
    have hll:((t.body++zan (t.kids.take k)).length:Int)<=200000:=by
     have h1:=zkX (t.kids.take k)
     have h2:=zow t.kids k
     have h3:=WE.out
     rw[List.length_append]
     omega
    clear hx hxm hxr hxin
    generalize t.body++zan (t.kids.take k)=L at HO hll LT
    go_wp2_with fail
    refine CI.out.mono ?_
    rintro e w2 ⟨a2,cc2,rfl,hrow,⟨hnil,_⟩,hb2⟩
    have HO2:=zwd (HO.out.below hb2)
    have R2:=zwd hrow
    have HN:=zwd hnil
    clear hrow hnil hb2
    go_wp2_with (at_builtin;refine zag (L:=L) (zs:=layT x) rfl _ _ rfl rfl HO2.out rfl R2.out HN.out (by omega) ?_;intro V3 w3 ho3;have HO3:=zwd ho3;clear ho3)
    go_roundw
    case rel=>exact⟨k+1,by omega,by go_num,by rw[LT.out];exact HO3.out⟩
    case measure=>simp[intOf];omega
  · have hall:t.kids.take k=t.kids:=List.take_of_length_le (by rw[HM.out];omega)
    rw[hall]at HO
    have hll:((t.body++zan t.kids).length:Int)<=200000:=by
     have h1:=zkX t.kids
     have h3:=WE.out
     rw[List.length_append]
     omega
    have EL':Hid (layT t=[t.tag]++lenB ((t.body++zan t.kids).length:Int)++(t.body++zan t.kids)):=by
     rw[EL.out,List.length_append,List.append_assoc,List.singleton_append]
     exact zwd rfl
    have hby:∀z∈t.body++zan t.kids,0<=z/\ z<=255:=by
     intro z hz
     refine LBY.out z ?_
     rw[EL.out]
     exact List.mem_cons_of_mem _ (List.mem_append_right _ hz)
    clear hall EL
    generalize t.body++zan t.kids=L at HO hll EL' hby
    obtain⟨a2,cc2,rfl,hrow⟩:=HO.out.row hby
    have R2:=zwd hrow
    have HN:=zwd HO.out.nilc
    have hB:w.heap.size<=wr.heap.size:=HB.out.below.size
    obtain⟨B,hBe⟩:∃B,B=wr.heap.size:=⟨_,rfl⟩
    have HBe:=zwd hBe
    have lg:∀W,Past B wr.drew W->W.cell? ⟨w.heap.size,0,none⟩=some (.int .i64 t.tag):=fun W hW=>HB.out.blk.past (by rw[hBe];exact HB.out.blk.lt) hW 0 rfl
    clear hBe
    clear hrow
    go_wp2_with fail
    clear g0 g1 g2
    refine zb6 (Past B) (Past.refl B) (fun _ _ _=>Past.trans) (.take 0 (.take 1 (.take 2 (.take 4 (.take 5 (.take 8 (.fork 3 (.sole 6 (.sole 7 (.sole 9 (.take 10 .fin)))) 6 (.sole 3 (.sole 7 (.sole 9 (.take 10 .fin))))))))))) (by kernel_rfl) (by kernel_rfl) rfl (by kernel_rfl) (fun _ _ _ _ _ h=>h) ?_
    repeat(refine zbQ _ rfl (by rfl) (fun W hW=>by go_simp;first|done|rfl) ?_;simp only[Act.put,zwe,zwg,zwf])
    have wx:IntKind.u8.wrap t.tag=t.tag:=IntWalk.u8_in _ (by omega)
    refine zef ?_ ?_
    · refine zam rfl (by rfl) (fun K1 hK1=> ?_)
      go_simp
      have OA0:=zwd (zbd wr.drew t.tag)
      refine hK1 _ _ (Past.alloc (by rw[HBe.out];exact Nat.le_refl _) _) ?_
      clear hK1 K1
      refine zax ?_
      refine zam rfl (by rfl) (fun K1 hK1=> ?_)
      go_simp
      refine(zeH _ _ (by omega) (by omega)).mono ?_
      rintro e w6 ⟨a6,c6,rfl,hr6,hb6⟩
      have OA:=zwd (OA0.out.below hb6)
      have RL:=zwd hr6
      have P6:Hid (Past B wr.drew w6):=Past.trans (Past.alloc (by rw[HBe.out];exact Nat.le_refl _) _) (Past.of hb6 (by rw[HBe.out];simp))
      refine hK1 _ _ (Past.of hb6 (by rw[HBe.out];simp)) ?_
      clear hK1 K1 hr6 hb6 OA0
      have hXB:B<=wr.drew.heap.size:=by rw[HBe.out];exact Nat.le_refl _
      refine zax ?_
      refine zam rfl (by rfl) (fun K1 hK1=> ?_)
      refine znp (W0:=wr.drew) (L:=[t.tag]) (zs:=lenB (L.length:Int)) _ _ rfl rfl OA.out rfl RL.out (fun e=>by cases e) (by have:=zcB (L.length:Int);simp;omega) ?_
      intro V7 w7 ho7 hb7
      have P7:=zwd (Past.trans P6.out (show Past B _ w7 from hb7.mono hXB))
      have O7:=zwd ho7
      refine hK1 _ _ (hb7.mono hXB) ?_
      clear hK1 K1 ho7 hb7
      simp only[Act.put,zwe,zwg,zwf]
      refine zax ?_
      refine zam rfl (by rfl) (fun K1 hK1=> ?_)
      refine znp (W0:=wr.drew) (L:=[t.tag]++lenB (L.length:Int)) (zs:=L) _ _ rfl rfl O7.out rfl (R2.out.below (Past.real HBe.out P7.out)) HN.out (by have:=zcB (L.length:Int);simp;omega) ?_
      intro V9 w9 ho9 hb9
      have P9:=zwd (Past.trans P7.out (show Past B _ w9 from hb9.mono hXB))
      have O9:=zwd ho9
      refine hK1 _ _ (hb9.mono hXB) ?_
      clear hK1 K1 ho9 hb9
      simp only[Act.put,zwe,zwg,zwf]
      refine zbQ _ rfl (by rfl) (fun W hW=>by go_simp;first|done|rfl) ?_;simp only[Act.put,zwe,zwg,zwf]
      refine zdj ?_
      have GR:=zwd (zkY (w:=w) O9.out (zs:=layT t) EL'.out LBY.out (Below.step HB.out.below (Past.real HBe.out P9.out)))
      clear O9 P9 O7 P7 P6 OA RL hXB
      go_wp2_with fail
      go_ret
      exact GR.out
    · refine zam rfl (by rfl) (fun K1 hK1=> ?_)
      go_simp
      refine(zeH _ _ (by omega) (by omega)).mono ?_
      rintro e w6 ⟨a6,c6,rfl,hr6,hb6⟩
      have P5:Hid (Past B wr.drew w6):=Past.of hb6 (by rw[HBe.out];exact Nat.le_refl _)
      have RL0:=zwd hr6
      have hXB:B<=w6.heap.size:=by rw[HBe.out];exact hb6.size
      refine hK1 _ _ P5.out ?_
      clear hK1 K1 hr6 hb6
      refine zax ?_
      refine zam rfl (by rfl) (fun K1 hK1=> ?_)
      go_simp
      have OA:=zwd (zbd w6 t.tag)
      have RL:=zwd (RL0.out.below ((Below.refl _ _).alloc (Nat.le_refl _) (.cells #[.int .u8 t.tag] 5)))
      have P6:Hid (Past B wr.drew (w6.alloc (.cells #[.int .u8 t.tag] 5))):=Past.trans P5.out (Past.alloc hXB _)
      refine hK1 _ _ (Past.alloc hXB _) ?_
      clear hK1 K1 RL0 P5
      refine zax ?_
      refine zam rfl (by rfl) (fun K1 hK1=> ?_)
      refine znp (W0:=w6) (L:=[t.tag]) (zs:=lenB (L.length:Int)) _ _ rfl rfl OA.out rfl RL.out (fun e=>by cases e) (by have:=zcB (L.length:Int);simp;omega) ?_
      intro V7 w7 ho7 hb7
      have P7:=zwd (Past.trans P6.out (show Past B _ w7 from hb7.mono hXB))
      have O7:=zwd ho7
      refine hK1 _ _ (hb7.mono hXB) ?_
      clear hK1 K1 ho7 hb7
      simp only[Act.put,zwe,zwg,zwf]
      refine zax ?_
      refine zam rfl (by rfl) (fun K1 hK1=> ?_)
      refine znp (W0:=w6) (L:=[t.tag]++lenB (L.length:Int)) (zs:=L) _ _ rfl rfl O7.out rfl (R2.out.below (Past.real HBe.out P7.out)) HN.out (by have:=zcB (L.length:Int);simp;omega) ?_
      intro V9 w9 ho9 hb9
      have P9:=zwd (Past.trans P7.out (show Past B _ w9 from hb9.mono hXB))
      have O9:=zwd ho9
      refine hK1 _ _ (hb9.mono hXB) ?_
      clear hK1 K1 ho9 hb9
      simp only[Act.put,zwe,zwg,zwf]
      refine zbQ _ rfl (by rfl) (fun W hW=>by go_simp;first|done|rfl) ?_;simp only[Act.put,zwe,zwg,zwf]
      refine zdj ?_
      have GR:=zwd (zkY (w:=w) O9.out (zs:=layT t) EL'.out LBY.out (Below.step HB.out.below (Past.real HBe.out P9.out)))
      clear O9 P9 O7 P7 P6 OA RL hXB
      go_wp2_with fail
      go_ret
      exact GR.out
def at0 (l:List Int) (i:Nat):Int:=l[i]?.getD 0
def zbe (l:List Int):Except Int (Nat×Nat):=
 if l.length<1 then .error 3
 else if at0 l 0%32=31 then .error 2
 else if l.length<2 then .error 3
 else if at0 l 1<128 then .ok (2,(at0 l 1).toNat)
 else if at0 l 1=129 then(if l.length<3 then .error 3 else if at0 l 2<128 then .error 2 else .ok (3,(at0 l 2).toNat))
 else if at0 l 1=130 then(if l.length<4 then .error 3 else if at0 l 2=0 then .error 2 else .ok (4,(at0 l 2*256+at0 l 3).toNat))
 else .error 2
def zdT (rec:Nat->List Int->Except Int (List T)) (deep:Nat) (l:List Int):Except Int (T×List Int):=
 match zbe l with
 | .error e=> .error e
 | .ok (h,n)=>
   if(l.drop h).length<n then .error 3
   else if 32<=deep then .error 4
   else if zav (at0 l 0)then
    match rec (deep+1) ((l.drop h).take n)with
    | .error e=> .error (if e=3 then 2 else e)
    | .ok ks=> .ok (.node (at0 l 0) [] ks,(l.drop h).drop n)
   else .ok (.node (at0 l 0) ((l.drop h).take n) [],(l.drop h).drop n)
def zeg:Nat->Nat->List Int->Except Int (List T)
 |0,_,_=> .ok []
 |f+1,deep,l=>
   if l=[]then .ok []
   else match zdT (zeg f) deep l with
    | .error e=> .error e
    | .ok (t,r)=>match zeg f deep r with
      | .error e=> .error e
      | .ok ks=> .ok (t::ks)
theorem ze9 {l:List Int} {h n:Nat} (e:zbe l= .ok (h,n)):2<=h/\ h<=4/\ h<=l.length:=by
 unfold zbe at e
 split at e
 · cases e
 split at e
 · cases e
 split at e
 · cases e
 split at e
 · cases e;omega
 split at e
 · split at e
   · cases e
   split at e
   · cases e
   · cases e;omega
 split at e
 · split at e
   · cases e
   split at e
   · cases e
   · cases e;omega
 · cases e
theorem zf6 {rec:Nat->List Int->Except Int (List T)} {deep:Nat} {l r:List Int} {t:T} (e:zdT rec deep l= .ok (t,r)):r.length<l.length:=by
 unfold zdT at e
 split at e
 · cases e
 rename_i h n hh
 have:=ze9 hh
 split at e
 · cases e
 split at e
 · cases e
 split at e
 · split at e
   · cases e
   · cases e
     rw[List.length_drop,List.length_drop]
     omega
 · cases e
   rw[List.length_drop,List.length_drop]
   omega
theorem zhC {f g:Nat->List Int->Except Int (List T)} {deep:Nat} {l:List Int} (h:∀d (x:List Int),x.length<l.length->f d x=g d x):zdT f deep l=zdT g deep l:=by
 unfold zdT
 split
 · rfl
 rename_i hh n e
 have hk:=ze9 e
 have hx:(List.take n (List.drop hh l)).length<l.length:=by
  rw[List.length_take,List.length_drop]
  omega
 rw[h (deep+1) _ hx]
theorem zqy:∀(f:Nat) (deep:Nat) (l:List Int),l.length<f->zeg f deep l=zeg (l.length+1) deep l:=by
 intro f
 induction f using Nat.strongRecOn with
 |_ f ih=>
   intro deep l hl
   match f,ih,hl with
   |0,_,hl=>omega
   |f+1,ih,hl=>
     by_cases h0:l=[]
     · subst h0
       rfl
     have hpos:0<l.length:=List.length_pos_iff.2 h0
     have key:∀d (x:List Int),x.length<l.length->zeg f d x=zeg l.length d x:=by
      intro d x hx
      rw[ih f (by omega) d x (by omega)]
      rcases Nat.lt_or_ge l.length (f+1)with h|h
      · exact(ih l.length h d x hx).symm
      · omega
     rw[zeg,zeg,if_neg h0,if_neg h0,zhC key]
     split
     · rfl
     rename_i t r e
     rw[key deep r (zf6 e)]
def zcZ (deep:Nat) (l:List Int):Except Int (List T):=zeg (l.length+1) deep l
def zbr (deep:Nat) (l:List Int):Except Int (T×List Int):=zdT zcZ deep l
theorem zfz (deep:Nat):zcZ deep []= .ok []:=rfl
theorem zgP {deep:Nat} {l:List Int} (h0:l≠[]):zcZ deep l=match zbr deep l with
 | .error e=> .error e
 | .ok (t,r)=>match zcZ deep r with
   | .error e=> .error e
   | .ok ks=> .ok (t::ks):=by
 have hpos:0<l.length:=List.length_pos_iff.2 h0
 have key:∀d (x:List Int),x.length<l.length->zeg l.length d x=zcZ d x:=fun d x hx=>zqy l.length d x hx
 unfold zbr
 conv=>lhs;unfold zcZ
 rw[zeg,if_neg h0,zhC key]
 split
 · rfl
 rename_i t r e
 rw[key deep r (zf6 e)]
theorem zf7 {deep:Nat} {l r:List Int} {t:T} (e:zbr deep l= .ok (t,r)):r.length<l.length:=zf6 e
def zdq (l:List Int):Except Int T:=
 if 20000<l.length then .error 5
 else match zbr 0 l with
  | .error e=> .error e
  | .ok (t,r)=>if r=[]then .ok t else .error 2
theorem zcs (l:List Int) (k i:Nat):at0 (l.drop k) i=at0 l (k+i):=by
 unfold at0
 rw[List.getElem?_drop]
theorem zdk {l:List Int} (h:∀z∈l,0<=z/\ z<=255) (i:Nat):0<=at0 l i/\ at0 l i<=255:=by
 unfold at0
 rcases Nat.lt_or_ge i l.length with hi|hi
 · rw[List.getElem?_eq_getElem hi]
   exact h _ (List.getElem_mem hi)
 · rw[List.getElem?_eq_none hi]
   simp
def zao (t:T):List Int×Int:=if zar t=false then([],2)else if 32<zaP t then([],4)else if 20000<zaT t then([],5)else(layT t,0)
def zdw (x:List Int×Int) (w:World) (e:Ending) (w':World):Prop:=
 ∃a c,e= .returned (.tuple #[.slice a x.1.length c,.int .i64 x.2])/\ Row w' a x.1.length x.1/\ ((a=none->c=0)/\ x.1.length<=c)/\ Below w.heap.size w w'
theorem zeK {x:List Int×Int} {w w':World} {z:Int} (h:x=([],z)) (hb:Below w.heap.size w w'):zdw x w (.returned (.tuple #[.slice none 0 0,.int .i64 z])) w':=by
 subst h
 exact⟨none,0,rfl,Row.nil _ _,⟨fun _=>rfl,Nat.le_refl _⟩,hb⟩
theorem zhD {t:T} (h:zar t=false):zao t=([],2):=if_pos h
theorem ziK {t:T} (h:zar t=true) (h1:32<zaP t):zao t=([],4):=by rw[zao,if_neg (by rw[h];simp),if_pos h1]
theorem zfa {t:T} (h:zar t=true) (h1:¬32<zaP t) (h2:20000<zaT t):zao t=([],5):=by rw[zao,if_neg (by rw[h];simp),if_neg h1,if_pos h2]
theorem zgQ {t:T} (h:zar t=true) (h1:¬32<zaP t) (h2:¬20000<zaT t):zao t=(layT t,0):=by rw[zao,if_neg (by rw[h];simp),if_neg h1,if_neg h2]
theorem zf8 (t:T) (v:Value) (w:World) (hin:t.In w v) (hwt:wt t<40000):Calls Tryz.prog 54 #[v] w (zdw (zao t) w):=by
 obtain⟨A,n,c,K,m,d,rfl,_⟩:=hin.open
 have BX:=zwd (Box.start hin)
 clear hin
 cases hrt:zar t
 · have F:=zwd (zhD hrt)
   have RT:=zwd hrt
   clear hrt
   go_enter Tryz.func54,Tryz.ntmps54
   go_wp2_with fail
   refine(zkU t _ _ BX.out.has).mono ?_
   rintro e w2 ⟨rfl,hb2⟩
   rw[RT.out]
   have B2:=zwd (Below.step BX.out.below hb2)
   clear hb2
   go_wp2_with fail
   go_ret2
   exact zeK F.out B2.out
 have RT:=zwd hrt
 have hsz:=zci t
 have key:∃x,x=zao t/\ ((32<zaP t/\ x=([],4)) \/(¬32<zaP t/\ 20000<zaT t/\ x=([],5)) \/(¬32<zaP t/\ ¬20000<zaT t/\ x=(layT t,0))):=by
  refine⟨_,rfl,?_⟩
  by_cases h1:32<zaP t
  · exact .inl ⟨h1,ziK hrt h1⟩
  · by_cases h2:20000<zaT t
    · exact .inr (.inl ⟨h1,h2,zfa hrt h1 h2⟩)
    · exact .inr (.inr ⟨h1,h2,zgQ hrt h1 h2⟩)
 obtain⟨x,hx,hways⟩:=key
 rw[<-hx]
 clear hx hrt
 rcases hways with⟨h1,hx⟩|⟨h1,h2,hx⟩|⟨h1,h2,hx⟩
 all_goals
  have HX:=zwd hx
  clear hx
  go_enter Tryz.func54,Tryz.ntmps54
  go_wp2_with fail
  refine(zkU t _ _ BX.out.has).mono ?_
  rintro e w2 ⟨rfl,hb2⟩
  rw[RT.out]
  have BX2:=zwd (BX.out.go hb2)
  obtain⟨g0,g1,g2⟩:=BX2.out.cells
  clear hb2
  go_wp2_with fail
  refine(zqs t _ _ BX2.out.has hwt).mono ?_
  rintro e w3 ⟨rfl,hb3⟩
  have BX3:=zwd (BX2.out.go hb3)
  clear g0 g1 g2 hb3
  obtain⟨g0,g1,g2⟩:=BX3.out.cells
  go_wp2_with fail
 · go_ret2
   exact zeK HX.out BX3.out.below
 · go_ret2
   exact zeK HX.out BX3.out.below
 · refine(zs7 t _ _ BX3.out.has (zbb RT.out).1 RT.out hwt).mono ?_
   rintro e w4 ⟨a,cc,rfl,hrow,hnil,hb4⟩
   have B4:=zwd (Below.step BX3.out.below hb4)
   have R4:=zwd hrow
   have N4:=zwd hnil
   clear hrow hnil hb4
   go_wp2_with fail
   go_ret2
   rw[HX.out]
   exact⟨a,cc,rfl,R4.out,N4.out,B4.out⟩
theorem zqz (t:T) (v:Value) (w:World) (hin:t.In w v) (hwt:wt t<30000):Calls Tryz.prog 54 #[v] w (zdw (zao t) w):=zf8 t v w hin (by omega)
theorem zs8 {tag c:Int} (x:List Int) (h0:0<=c) (h1:c<65536) (ht:tag%32≠31):zbe (tag::(lenB c++x))= .ok (1+(lenB c).length,c.toNat):=by
 by_cases a:c<128
 · have e:lenB c=[c]:=by unfold lenB;rw[if_pos a]
   rw[e]
   unfold zbe
   rw[if_neg (by simp),if_neg (by simpa[at0]using ht),if_neg (by simp),if_pos (by simpa[at0]using a)]
   simp[at0]
 by_cases b:c<256
 · have e:lenB c=[129,c]:=by unfold lenB;rw[if_neg a,if_pos b]
   rw[e]
   unfold zbe
   rw[if_neg (by simp),if_neg (by simpa[at0]using ht),if_neg (by simp),if_neg (by simp[at0]),if_pos (by simp[at0]),if_neg (by simp),if_neg (by simpa[at0]using a)]
   simp[at0]
 · have e:lenB c=[130,c/256%256,c%256]:=by unfold lenB;rw[if_neg a,if_neg b]
   rw[e]
   unfold zbe
   rw[if_neg (by simp),if_neg (by simpa[at0]using ht),if_neg (by simp),if_neg (by simp[at0]),if_neg (by simp[at0]),if_pos (by simp[at0]),if_neg (by simp),if_neg (by simp only[at0,List.cons_append,List.getElem?_cons_succ,List.getElem?_cons_zero,Option.getD_some];omega)]
   simp only[at0,List.cons_append,List.getElem?_cons_succ,List.getElem?_cons_zero,Option.getD_some]
   rw[show c/256%256*256+c%256=c by omega]
   rfl
theorem zgo (ks:List T):0<=zaq ks:=by
 induction ks with
 |nil=>simp[zaq]
 |cons x r ih=>
   rw[zaq]
   have:=(zci x).1
   omega
theorem zcS (t:T):zar t=true->((layT t).length:Int)=zaT t:=by
 refine T.each (p:=fun t=>zar t=true->((layT t).length:Int)=zaT t) ?_ t
 intro t ih hr
 obtain⟨_,hbody,hkids,hks⟩:=zbb hr
 have key:∀ks:List T,(∀k∈ks,((layT k).length:Int)=zaT k)->((zan ks).length:Int)=zaq ks:=by
  intro ks
  induction ks with
  |nil=>intro _;simp[zan,zaq]
  |cons k r ihr=>
    intro h
    rw[zan,zaq,List.length_append]
    have:=h k (by simp)
    have:=ihr (fun x hx=>h x (by simp[hx]))
    omega
 have hk:=key t.kids (fun k hm=>ih k hm (hks k hm))
 have hin:inT t=((t.body.length+(zan t.kids).length:Nat):Int):=by
  unfold inT
  cases hw:zav t.tag
  · rw[hkids hw]
    simp[zan]
  · rw[hbody hw]
    simp[hk]
 rw[zdS,zcK,hin,List.length_cons,List.length_append,List.length_append]
 have:=zch ((t.body.length+(zan t.kids).length:Nat):Int)
 omega
theorem ziL {ks:List T} (h:∀k∈ks,zar k=true):((zan ks).length:Int)=zaq ks:=by
 induction ks with
 |nil=>simp[zan,zaq]
 |cons k r ih=>
   rw[zan,zaq,List.length_append]
   have:=zcS k (h k (by simp))
   have:=ih (fun x hx=>h x (by simp[hx]))
   omega
theorem zvB {t:T} (hr:zar t=true):inT t=((t.body.length+(zan t.kids).length:Nat):Int):=by
 have h1:=zcS t hr
 rw[zdS,zcK,List.length_cons,List.length_append,List.length_append]at h1
 obtain⟨_,hbody,hkids,hks⟩:=zbb hr
 have hk:=ziL hks
 unfold inT
 cases hw:zav t.tag
 · rw[hkids hw]
   simp[zan]
 · rw[hbody hw]
   simp[hk]
theorem zkZ:∀(ks:List T),(∀k∈ks,∀(deep:Nat) (r:List Int),(deep:Int)+zaP k<=32->zaT k<65536->zbr deep (layT k++r)= .ok (k,r))->
 ∀deep:Nat,(deep:Int)+zas ks<=32->zaq ks<65536->zcZ deep (zan ks)= .ok ks
 | [],_,deep,_,_=>by
   rw[zan]
   exact zfz deep
 |x::r,h,deep,hd,hb=>by
   rw[zan]
   have hne:layT x++zan r≠[]:=by
    rw[zdS]
    simp
   have hp:=zgo r
   have hx:=(zci x).1
   rw[zaq]at hb
   have hd':(deep:Int)+zaP x<=32/\ (deep:Int)+zas r<=32:=by
    rw[zas]at hd
    split at hd<;>omega
   rw[zgP hne,h x (by simp) deep (zan r) hd'.1 (by omega)]
   simp only[]
   rw[zkZ r (fun k hk=>h k (by simp[hk])) deep hd'.2 (by omega)]
theorem zqA (t:T):∀(deep:Nat) (r:List Int),zar t=true->(deep:Int)+zaP t<=32->zaT t<65536->zbr deep (layT t++r)= .ok (t,r):=by
 refine T.each (p:=fun t=>∀(deep:Nat) (r:List Int),zar t=true->(deep:Int)+zaP t<=32->zaT t<65536->zbr deep (layT t++r)= .ok (t,r)) ?_ t
 clear t
 intro t ih deep r hr hd hb
 obtain⟨htag,hbody,hkids,hks⟩:=zbb hr
 have hil:=zvB hr
 have hbe:=zcK t
 have hll:=zbO (inT t)
 have hde:=zfx t
 have hdp:=(zci t).2.2.2.2.1
 have hc:((t.body.length+(zan t.kids).length:Nat):Int)<65536:=by omega
 have h31:t.tag%32≠31:=by
  unfold tagB at htag
  simp only[Bool.and_eq_true,bne_iff_ne,ne_eq]at htag
  exact htag.2.2
 have e:layT t++r=t.tag::(lenB ((t.body.length+(zan t.kids).length:Nat):Int)++((t.body++zan t.kids)++r)):=by
  rw[zdS]
  simp
 have ed:∀y:List Int,(t.tag::(lenB ((t.body.length+(zan t.kids).length:Nat):Int)++y)).drop (1+(lenB ((t.body.length+(zan t.kids).length:Nat):Int)).length)=y:=by
  intro y
  rw[Nat.add_comm,List.drop_succ_cons,List.drop_left]
 have et:((t.body++zan t.kids)++r).take (t.body.length+(zan t.kids).length)=t.body++zan t.kids:=by
  rw[<-List.length_append,List.take_left]
 have er:((t.body++zan t.kids)++r).drop (t.body.length+(zan t.kids).length)=r:=by
  rw[<-List.length_append,List.drop_left]
 have e0:∀y:List Int,at0 (t.tag::y) 0=t.tag:=fun _=>rfl
 rw[e]
 unfold zbr zdT
 rw[zs8 _ (by omega) hc h31]
 simp only[]
 rw[ed,Int.toNat_natCast,et,er,e0,if_neg (by rw[List.length_append,List.length_append];omega),if_neg (by omega)]
 have eta:T.node t.tag t.body t.kids=t:=by
  obtain⟨tag,body,kids⟩:=t
  rfl
 rcases Bool.eq_false_or_eq_true (zav t.tag)with hw|hw
 · rw[if_pos hw]at hde
   have hbb:zaq t.kids<65536:=by
    have:=ziL hks
    omega
   have hk:=zkZ t.kids (fun k hk d x h1 h2=>ih k hk d x (hks k hk) h1 h2) (deep+1) (by omega) hbb
   rw[if_pos hw,hbody hw,List.nil_append,hk]
   rw[hbody hw]at eta
   simp only[]
   rw[eta]
 · rw[if_neg (by rw[hw];simp),hkids hw]
   rw[hkids hw]at eta
   rw[zan,List.append_nil,eta]
theorem ziM {t:T} (h:(zao t).2=0):zdq (zao t).1= .ok t:=by
 unfold zao at h⊢
 split at h
 · simp at h
 · rename_i h1
   split at h
   · simp at h
   · rename_i h2
     split at h
     · simp at h
     · rename_i h3
       rw[if_neg h1,if_neg h2,if_neg h3]
       have hr:zar t=true:=by simpa using h1
       have hl:=zcS t hr
       show zdq (layT t)= .ok t
       unfold zdq
       rw[if_neg (by omega)]
       have:=zqA t 0 [] hr (by omega) (by omega)
       rw[List.append_nil]at this
       rw[this]
       rfl
theorem zs9 {l:List Int} {h n:Nat} (hb:∀z∈l,0<=z/\ z<=255) (e:zbe l= .ok (h,n)):
 at0 l 0%32≠31/\ ∃x,l=at0 l 0::(lenB (n:Int)++x)/\ l.drop h=x:=by
 unfold zbe at e
 split at e
 · cases e
 split at e
 · cases e
 rename_i h0 h31
 refine⟨h31,?_⟩
 split at e
 · cases e
 rename_i h2
 match l,hb,h0,h2,e with
 |a::b::x,hb,_,_,e=>
   have e0:at0 (a::b::x) 0=a:=rfl
   have e1:at0 (a::b::x) 1=b:=rfl
   have bb:=hb b (by simp)
   rw[e1]at e
   rw[e0]
   split at e
   · rename_i hl
     cases e
     refine⟨x,?_,rfl⟩
     unfold lenB
     rw[if_pos (by omega),Int.toNat_of_nonneg bb.1]
     rfl
   split at e
   · rename_i hl h129
     split at e
     · cases e
     rename_i h3
     match x,hb,h3,e with
     |c::x,hb,_,e=>
       have e2:at0 (a::b::c::x) 2=c:=rfl
       have bc:=hb c (by simp)
       rw[e2]at e
       split at e
       · cases e
       rename_i hc
       cases e
       refine⟨x,?_,rfl⟩
       unfold lenB
       rw[if_neg (by omega),if_pos (by omega),Int.toNat_of_nonneg bc.1,h129]
       rfl
     | [],_,h3,_=>exact absurd (by simp) h3
   split at e
   · rename_i hl _ h130
     split at e
     · cases e
     rename_i h4
     match x,hb,h4,e with
     |c::d::x,hb,_,e=>
       have e2:at0 (a::b::c::d::x) 2=c:=rfl
       have e3:at0 (a::b::c::d::x) 3=d:=rfl
       have bc:=hb c (by simp)
       have bd:=hb d (by simp)
       rw[e2,e3]at e
       split at e
       · cases e
       rename_i hc
       cases e
       refine⟨x,?_,rfl⟩
       unfold lenB
       rw[Int.toNat_of_nonneg (by omega),if_neg (by omega),if_neg (by omega),show(c*256+d)/256%256=c by omega,show(c*256+d)%256=d by omega,h130]
       rfl
     | [c],_,h4,_=>exact absurd (by simp) h4
     | [],_,h4,_=>exact absurd (by simp) h4
   · cases e
 | [a],_,_,h2,_=>exact absurd (by simp) h2
 | [],_,h0,_,_=>exact absurd (by simp) h0
theorem zl9 {ks:List T} (h:∀k∈ks,zar k=true):zaF ks=true:=by
 induction ks with
 |nil=>rfl
 |cons x r ih=>rw[zaF,h x (by simp),ih (fun k hk=>h k (by simp[hk])),Bool.and_self]
theorem zqB {z:Int} (h:0<=z/\ z<=255) (h31:z%32≠31):tagB z=true:=by
 unfold tagB
 simp only[Bool.and_eq_true,decide_eq_true_eq,bne_iff_ne,ne_eq]
 exact⟨h.1,by omega,h31⟩
theorem znq {l r:List Int} {deep:Nat} {t:T} (hb:∀z∈l,0<=z/\ z<=255)
 (IH:∀(x:List Int) (deep:Nat) (ks:List T),x.length<l.length->(∀z∈x,0<=z/\ z<=255)->deep<=32->zcZ deep x= .ok ks->x=zan ks/\ (∀k∈ks,zar k=true)/\ (deep:Int)+zas ks<=32)
 (e:zbr deep l= .ok (t,r)):l=layT t++r/\ zar t=true/\ (deep:Int)+zaP t<=32:=by
 unfold zbr zdT at e
 split at e
 · cases e
 rename_i h n hh
 obtain⟨h31,x,hl,hx⟩:=zs9 hb hh
 have hlen:x.length<l.length:=by
  rw[hl,List.length_cons,List.length_append]
  omega
 have hbx:∀z∈x,0<=z/\ z<=255:=fun z hz=>hb z (by rw[hl];simp[hz])
 have ha:0<=at0 l 0/\ at0 l 0<=255:=zdk hb 0
 rw[hx]at e
 split at e
 · cases e
 rename_i hn
 split at e
 · cases e
 rename_i hd
 have hcut:x=x.take n++x.drop n:=(List.take_append_drop n x).symm
 have hnl:(x.take n).length=n:=by
  rw[List.length_take]
  omega
 split at e
 · rename_i hw
   split at e
   · cases e
   rename_i ks hk
   cases e
   obtain⟨g1,g2,g3⟩:=IH (x.take n) (deep+1) ks (by rw[List.length_take];omega) (fun z hz=>hbx z (List.mem_of_mem_take hz)) (by omega) hk
   have hkl:(zan ks).length=n:=by rw[<-g1,hnl]
   refine⟨?_,?_,?_⟩
   · rw[layT]
     have z0:((([]:List Int).length+(zan ks).length:Nat):Int)=(n:Int):=by rw[hkl];simp
     rw[z0,<-g1,List.nil_append,List.cons_append,List.append_assoc,<-hcut]
     exact hl
   · rw[zar,zqB ha h31,hw,zl9 g2]
     simp
   · rw[zaP,if_pos hw]
     omega
 · rename_i hw
   cases e
   refine⟨?_,?_,?_⟩
   · rw[layT]
     have z0:(((x.take n).length+(zan []).length:Nat):Int)=(n:Int):=by rw[hnl,zan];simp
     rw[z0,zan,List.append_nil,List.cons_append,List.append_assoc,<-hcut]
     exact hl
   · have hw':zav (at0 l 0)=false:=by simpa using hw
     rw[zar,zqB ha h31,hw',zaF]
     simp
   · rw[zaP,if_neg hw]
     omega
theorem zjA:∀(m:Nat) (x:List Int) (deep:Nat) (ks:List T),x.length<m->(∀z∈x,0<=z/\ z<=255)->deep<=32->zcZ deep x= .ok ks->x=zan ks/\ (∀k∈ks,zar k=true)/\ (deep:Int)+zas ks<=32
 |0,x,_,_,h,_,_,_=>absurd h (by omega)
 |m+1,x,deep,ks,h,hb,hd,e=>by
   by_cases h0:x=[]
   · subst h0
     rw[zfz]at e
     cases e
     refine⟨by rw[zan],by simp,?_⟩
     rw[zas]
     omega
   rw[zgP h0]at e
   split at e
   · cases e
   rename_i t r he
   have hr:=zf7 he
   obtain⟨g1,g2,g3⟩:=znq hb (fun y d js hy=>zjA m y d js (by omega)) he
   split at e
   · cases e
   rename_i js hj
   cases e
   obtain⟨k1,k2,k3⟩:=zjA m r deep js (by omega) (fun z hz=>hb z (by rw[g1];simp[hz])) hd hj
   refine⟨?_,?_,?_⟩
   · rw[zan,<-k1]
     exact g1
   · intro k hk
     rcases List.mem_cons.1 hk with rfl|hk
     · exact g2
     · exact k2 k hk
   · rw[zas]
     split<;>omega
theorem zqC (t:T):zar t=true->wt t<=zaT t:=by
 refine T.each (p:=fun t=>zar t=true->wt t<=zaT t) ?_ t
 intro t ih hr
 obtain⟨_,hbody,hkids,hks⟩:=zbb hr
 have key:∀ks:List T,(∀k∈ks,wt k<=zaT k)->za2 ks<=zaq ks:=by
  intro ks
  induction ks with
  |nil=>intro _;simp[za2,zaq]
  |cons k r ihr=>
    intro h
    rw[za2,zaq]
    have:=h k (by simp)
    have:=ihr (fun x hx=>h x (by simp[hx]))
    omega
 have hk:=key t.kids (fun k hm=>ih k hm (hks k hm))
 have hl:=zbO (inT t)
 rw[zdc,zcK]
 unfold inT at hl⊢
 cases hw:zav t.tag
 · rw[hw]at hl
   rw[hkids hw]
   simp only[za2,Bool.false_eq_true,if_false]at hl⊢
   omega
 · rw[hw]at hl
   rw[hbody hw]
   simp only[List.length_nil,if_true]at hl⊢
   omega
theorem zf9 {l:List Int} {t:T} (hb:∀z∈l,0<=z/\ z<=255) (h:zdq l= .ok t):zao t=(l,0)/\ zar t=true:=by
 unfold zdq at h
 split at h
 · cases h
 rename_i hl
 split at h
 · cases h
 rename_i t' r e
 split at h
 · rename_i hr
   cases h
   subst hr
   obtain⟨g1,g2,g3⟩:=znq hb (fun y d js _=>zjA (y.length+1) y d js (by omega)) e
   rw[List.append_nil]at g1
   have hll:=zcS t g2
   rw[<-g1]at hll
   exact⟨by rw[zgQ g2 (by omega) (by omega),<-g1],g2⟩
 · cases h
def zeT (last:Int):List Int:=[1,2,840,113549,1,1,last]
def oidT (last:Int):T:= .node 6 (oidB (zeT last)) []
def algT (last:Int):T:= .node 48 [] [oidT last,.node 5 [] []]
def zb0 (zs:List Int):T:= .node 3 (0::zs) []
def zaL (n:T) (sig:List Int):T:= .node 48 [] [n,algT 11,zb0 sig]
theorem zt9 (last:Int):oidZ (zeT last)=(oidT last,0):=by
 have h:zde (zeT last):=by
  unfold zde zeT
  simp
 unfold oidZ
 rw[if_pos h]
 rfl
theorem zuD (last:Int) (h0:0<=last) (h1:last<=1000):(oidB (zeT last)).length<=60:=by
 have q:∀n:Nat,n<2^64->(zbl n).length<=10:=fun n h=>zdb h
 have e:oidB (zeT last)=zbl 42++(zbl 840++(zbl 113549++(zbl 1++(zbl 1++zbl last.toNat)))):=by
  unfold oidB zeT zcy
  simp
 rw[e]
 simp only[List.length_append]
 have:=q 42 (by omega)
 have:=q 840 (by omega)
 have:=q 113549 (by omega)
 have:=q 1 (by omega)
 have:=q last.toNat (by omega)
 omega
theorem zta:zav 48=true:=by decide
theorem zvC (last:Int) (h0:0<=last) (h1:last<=1000):wt (algT last)<=63:=by
 have:=zuD last h0 h1
 unfold algT oidT
 simp only[wt,za2,List.length_nil]
 omega
theorem zuE (zs:List Int):wt (zb0 zs)=2+zs.length:=by
 unfold zb0
 simp only[wt,za2,List.length_cons]
 omega
theorem zjB (n:T) (sig:List Int):wt (zaL n sig)<=wt n+sig.length+66:=by
 have h1:=zvC 11 (by omega) (by omega)
 have h2:=zuE sig
 unfold zaL
 simp only[wt,za2,List.length_nil]
 omega
theorem zqD (last:Int):zar (algT last)=true:=by
 unfold algT oidT
 simp[zar,zaF,tagB,zav]
theorem zox (zs:List Int):zar (zb0 zs)=true:=by
 unfold zb0
 simp[zar,zaF,tagB,zav]
theorem ziN (n:T) (sig:List Int):zar (zaL n sig)=zar n:=by
 have h1:=zqD 11
 have h2:=zox sig
 unfold zaL
 simp[zar,zaF,tagB,zav,h1,h2]
theorem znr (last:Int):zaP (algT last)=2:=by
 unfold algT oidT
 simp[zaP,zas,zav]
theorem zk0 (zs:List Int):zaP (zb0 zs)=1:=by
 unfold zb0
 simp[zaP,zav]
theorem zcI {t:T} (h:zar t=true) (h1:zaP t<=32) (h2:zaT t<=20000):zao t=(layT t,0):=zgQ h (by omega) (by omega)
theorem zb7 {t:T} (h:(zao t).2=0):zar t=true/\ zaP t<=32/\ zaT t<=20000:=by
 unfold zao at h
 split at h
 · simp at h
 · split at h
   · simp at h
   · split at h
     · simp at h
     · rename_i h1 h2 h3
       exact⟨by simpa using h1,by omega,by omega⟩
theorem zk1 {t k:T} (h:(zao t).2=0) (hw:zav t.tag=true) (hk:k∈t.kids):(zao k).2=0/\ zaT k<zaT t:=by
 obtain⟨h1,h2,h3⟩:=zb7 h
 obtain⟨_,_,_,hr⟩:=zbb h1
 have hd:zaP k<=zas t.kids:=by
  have:∀ks:List T,k∈ks->zaP k<=zas ks:=by
   intro ks
   induction ks with
   |nil=>intro h;simp at h
   |cons x r ih=>
     intro hm
     rw[zas]
     rcases List.mem_cons.1 hm with rfl|hm
     · split<;>omega
     · have:=ih hm
       split<;>omega
  exact this _ hk
 have hb:zaT k<=zaq t.kids:=by
  have:∀ks:List T,k∈ks->zaT k<=zaq ks:=by
   intro ks
   induction ks with
   |nil=>intro h;simp at h
   |cons x r ih=>
     intro hm
     rw[zaq]
     have:=zgo r
     have:=(zci x).1
     rcases List.mem_cons.1 hm with rfl|hm
     · omega
     · have:=ih hm
       omega
  exact this _ hk
 rw[zfx,hw,if_pos rfl]at h2
 have hb2:zaT t=zaq t.kids+1+zfw (zaq t.kids):=by rw[zcK,inT,hw,if_pos rfl]
 have:=zbO (zaq t.kids)
 exact⟨by rw[zcI (hr k hk) (by omega) (by omega)],by omega⟩
def za3 (x:T):Except Int (T×List Int×List Int):=
 match x.kids with
 |n::_::s::_=>if(ofZ s).2.2=0/\ zaW (zaL n (ofZ s).1) x=true then .ok (n,(zao n).1,(ofZ s).1)else .error 2
 |_=> .error 2
def zbR (b:List Int):Except Int (T×List Int×List Int):=
 match zdq b with
 | .error z=> .error z
 | .ok x=>za3 x
def zdl (b:List Int) (x:T):Except Int (T×List Int×List Int):=
 match x.kids with
 | [n,_,s]=>if(zao (zaL n (ofZ s).1)).2=0/\ (zao (zaL n (ofZ s).1)).1=b then .ok (n,(zao n).1,(ofZ s).1)else .error 2
 |_=> .error 2
theorem zhE (n:T) (sig:List Int):za3 (zaL n sig)= .ok (n,(zao n).1,sig):=by
 have e:ofZ (zb0 sig)=(sig,8*(sig.length:Int),0):=zqw sig
 have k:(zaL n sig).kids=[n,algT 11,zb0 sig]:=rfl
 unfold za3
 rw[k]
 simp[e,zb1]
theorem zk2 {x:T} {n:T} {said sig:List Int} (h:za3 x= .ok (n,said,sig)):x=zaL n sig/\ said=(zao n).1:=by
 unfold za3 at h
 split at h
 · split at h
   · rename_i hc
     cases h
     exact⟨(zjo _ _ hc.2).symm,rfl⟩
   · cases h
 · cases h
theorem ziO {x:T} {z:Int} (h:za3 x= .error z):z=2:=by
 unfold za3 at h
 split at h
 · split at h<;>cases h
   rfl
 · cases h
   rfl
theorem zoy {b:List Int} {x:T} (hb:∀z∈b,0<=z/\ z<=255) (hx:zdq b= .ok x):zdl b x=za3 x:=by
 have hw:=(zf9 hb hx).1
 by_cases h:∃n sig,x=zaL n sig
 · obtain⟨n,sig,rfl⟩:=h
   have e:ofZ (zb0 sig)=(sig,8*(sig.length:Int),0):=zqw sig
   have k:(zaL n sig).kids=[n,algT 11,zb0 sig]:=rfl
   rw[zhE]
   unfold zdl
   rw[k]
   simp[e,hw]
 · have h1:za3 x= .error 2:=by
    cases ho:za3 x with
    |error z=>rw[ziO ho]
    |ok v=>exact absurd ⟨v.1,v.2.2,(zk2 (said:=v.2.1) ho).1⟩ h
   rw[h1]
   unfold zdl
   split
   · split
     · rename_i n a s hk hc
       have hr:=ziM hc.1
       rw[hc.2,hx]at hr
       cases hr
       exact absurd ⟨n,(ofZ s).1,rfl⟩ h
     · rfl
   · rfl
theorem zfA {n:T} {sig:List Int} (h:(zao (zaL n sig)).2=0):zbR (zao (zaL n sig)).1= .ok (n,(zao n).1,sig):=by
 unfold zbR
 rw[ziM h]
 exact zhE n sig
theorem zfB {b:List Int} {n:T} {said sig:List Int} (hb:∀z∈b,0<=z/\ z<=255) (h:zbR b= .ok (n,said,sig)):zao (zaL n sig)=(b,0)/\ said=(zao n).1/\ (zao n).2=0/\ 0<said.length/\ said.length<b.length:=by
 unfold zbR at h
 split at h
 · cases h
 · rename_i x hx
   obtain⟨rfl,rfl⟩:=zk2 h
   have hw:=(zf9 hb hx).1
   have h0:(zao (zaL n sig)).2=0:=by rw[hw]
   have hk:=zk1 (k:=n) h0 zta (by simp[zaL,T.kids])
   have f:=zb7 hk.1
   have g:=zb7 h0
   have e1:zao n=(layT n,0):=zcI f.1 f.2.1 f.2.2
   have e2:zao (zaL n sig)=(layT (zaL n sig),0):=zcI g.1 g.2.1 g.2.2
   rw[e2]at hw
   have l1:=zcS n f.1
   have l2:=zcS (zaL n sig) g.1
   have hb2:b=layT (zaL n sig):=(congrArg Prod.fst hw).symm
   have:=(zci n).1
   exact⟨e2.trans hw,rfl,hk.1,by rw[e1];simp only;omega,by rw[e1,hb2];simp only;omega⟩
theorem ztb (a:Int) {q:Int} (hq:0<q):a%(q*256)=q*(a/q%256)+a%q:=by
 have h1:=Int.mul_ediv_add_emod a q
 have h2:=Int.mul_ediv_add_emod (a/q) 256
 have hr0:=Int.emod_nonneg a (Int.ne_of_gt hq)
 have hr1:=Int.emod_lt_of_pos a hq
 have ht0:=Int.emod_nonneg (a/q) (show(256:Int)≠0 by decide)
 have ht1:=Int.emod_lt_of_pos (a/q) (show(0:Int)<256 by decide)
 generalize a/q%256=t at h2 ht0 ht1⊢
 generalize a%q=r at h1 hr0 hr1⊢
 generalize a/q/256=u at h2
 have e:a=(q*t+r)+q*256*u:=by
  rw[<-h1,<-h2,Int.mul_add,Int.mul_assoc]
  omega
 have hlo:0<=q*t+r:=Int.add_nonneg (Int.mul_nonneg (Int.le_of_lt hq) ht0) hr0
 have hhi:q*t+r<q*256:=by
  have:q*t<=q*255:=Int.mul_le_mul_of_nonneg_left (by omega) (Int.le_of_lt hq)
  omega
 rw[e,Int.add_mul_emod_self_left,Int.emod_eq_of_lt hlo hhi]
theorem zoz {a:Int} {m:Nat} (h:a/256^m=0):a%256^m=a:=by
 have:=Int.mul_ediv_add_emod a (256^m)
 rw[h]at this
 omega
theorem zns:∀(m:Nat) (n s:Int),0<=s->s*256^m+n%256^m<=18446744073709551615->numZ s (beZ m n)=(s*256^m+n%256^m,true)
 |0,n,s,_,_=>by
   simp only[beZ,numZ,Int.pow_zero,Int.mul_one,Int.emod_one,Int.add_zero]
 |k+1,n,s,hs,hb=>by
   have hq:(0:Int)<256^k:=Int.pow_pos (by decide)
   rw[Int.pow_succ,ztb n hq]at hb⊢
   have hd0:0<=n/256^k%256:=Int.emod_nonneg _ (by decide)
   have hr0:0<=n%256^k:=Int.emod_nonneg _ (Int.ne_of_gt hq)
   have ih:=zns k n (s*256+n/256^k%256) (by omega)
   rw[beZ,numZ]
   generalize n/256^k%256=d at hb hd0 ih⊢
   generalize n%256^k=r at hb hr0 ih⊢
   generalize(256:Int)^k=q at hq hb ih⊢
   have key:(s*256+d)*q+r=s*(q*256)+(q*d+r):=by
    rw[Int.add_mul,Int.mul_assoc,Int.mul_comm 256 q,Int.mul_comm d q,Int.add_assoc]
   have h1:0<=q*d:=Int.mul_nonneg (Int.le_of_lt hq) hd0
   have h2:s*256<=s*(q*256):=Int.mul_le_mul_of_nonneg_left (by omega) hs
   rw[if_neg (by unfold B56;omega),ih (by rw[key];exact hb),key]
theorem ztc {m:Nat} {n:Int} (h1:n<=18446744073709551615) (hz:n/256^m=0):numZ 0 (beZ m n)=(n,true):=by
 have e:=zoz hz
 have:=zns m n 0 (Int.le_refl 0) (by rw[e];omega)
 rw[this,e]
 simp
theorem ztd (x:Int) (h0:0<=x) (h1:x<=18446744073709551615):zaC (intT x)=(x,0):=by
 have e:numZ 0 (intT x).body=(x,true):=by
  show numZ 0 (bigZ (zft x))=(x,true)
  rw[zs6]
  exact ztc h1 (zkH h0 h1).2.2.1
 unfold zaC
 rw[e,if_pos ⟨rfl,zb1 _⟩]
structure CrlZ where
 iss:ByteArray
 num:Int
 fr:Int
 to:Int
 ser:List Int
def za8:CrlZ:=⟨⟨#[]⟩,0,0,0,[]⟩
def zhF (l:List Int):Prop:=∀k,k<l.length->0<k->l[k-1]?.getD 0<l[k]?.getD 0
instance (l:List Int):Decidable (zhF l):=by unfold zhF;infer_instance
def zaO (c:CrlZ):Prop:=((zaX c.iss).2=0/\ ¬c.iss.size=0)/\ ((momZ c.fr).2=0/\ (momZ c.to).2=0/\ c.fr<=c.to)/\ c.ser.length<=400/\ zhF c.ser
noncomputable instance (c:CrlZ):Decidable (zaO c):=by unfold zaO;infer_instance
def zfC (c:CrlZ):Prop:=(0<=c.num/\ c.num<=4294967295)/\ ∀x∈c.ser,0<=x/\ x<=4294967295
def serT (l:List Int):T:= .node 48 [] (l.map intT)
noncomputable def crlT (c:CrlZ):T:= .node 48 [] [(zaX c.iss).1,intT c.num,.node 48 [] [(momZ c.fr).1,(momZ c.to).1],serT c.ser]
noncomputable def nodeC (c:CrlZ):T×Int:=if zaO c then(crlT c,0)else(zbz,1)
noncomputable def makeC (c:CrlZ) (sig:List Int):List Int×Int:=if zaO c then zao (zaL (crlT c) sig)else([],1)
noncomputable def ofC (t:T):CrlZ×Bool:=
 match t.kids with
 | [a,b,c,d]=>match c.kids with
   | [e,f]=>(⟨(za1 a).1,(zaC b).1%4294967296,(whenZ e).1,(whenZ f).1,d.kids.map fun k=>(zaC k).1%4294967296⟩,
       decide ((za1 a).2=0/\ (zaC b).2=0/\ (whenZ e).2=0/\ (whenZ f).2=0/\ ∀k∈d.kids,(zaC k).2=0))
   |_=>(za8,false)
 |_=>(za8,false)
noncomputable def foundC (n:T):CrlZ×Int:=if(ofC n).2=true/\ zaO (ofC n).1/\ zaW (crlT (ofC n).1) n=true then((ofC n).1,0)else(za8,2)
noncomputable def readC (b:List Int):CrlZ×Int:=
 match zbR b with
 | .error z=>(za8,z)
 | .ok x=>foundC x.1
theorem zga {x:Int} (h:0<=x/\ x<=4294967295):(zaC (intT x)).1%4294967296=x/\ (zaC (intT x)).2=0:=by
 rw[ztd x h.1 (by omega)]
 exact⟨by show x%4294967296=x;omega,rfl⟩
theorem zvD {c:CrlZ} (hr:zfC c) (h:zaO c):ofC (crlT c)=(c,true):=by
 obtain⟨⟨h1,_⟩,⟨h2,h3,_⟩,_⟩:=h
 have e1:=zot h1
 have e2:=zga hr.1
 have e3:=znj h2
 have e4:=znj h3
 have e5:(c.ser.map intT).map (fun k=>(zaC k).1%4294967296)=c.ser:=by
  rw[List.map_map]
  exact(List.map_congr_left (g:=id) (fun x hx=>(zga (hr.2 x hx)).1)).trans (List.map_id _)
 have e6:∀k∈c.ser.map intT,(zaC k).2=0:=fun k hk=>by
  obtain⟨x,hx,rfl⟩:=List.mem_map.1 hk
  exact(zga (hr.2 x hx)).2
 unfold ofC crlT serT
 simp only[T.kids,e1,e2,e3,e4,e5]
 rw[decide_eq_true ⟨trivial,trivial,trivial,trivial,e6⟩]
theorem ziP {c:CrlZ} (hr:zfC c) (h:zaO c):foundC (crlT c)=(c,0):=by
 unfold foundC
 rw[zvD hr h,if_pos ⟨rfl,h,zb1 _⟩]
theorem zk3 {n:T} {c:CrlZ} (h:foundC n=(c,0)):zaO c/\ crlT c=n/\ ofC n=(c,true):=by
 unfold foundC at h
 split at h
 · rename_i k
   injection h with h1 _
   subst h1
   exact⟨k.2.1,zjo _ _ k.2.2,Prod.ext rfl k.1⟩
 · injection h with _ h2
   cases h2
theorem ziQ (n:T):(foundC n).2=0 \/foundC n=(za8,2):=by
 unfold foundC
 split
 · exact .inl rfl
 · exact .inr rfl
theorem zte (n:T):zfC (ofC n).1:=by
 have z:zfC za8:=⟨⟨by decide,by decide⟩,fun x hx=>by cases hx⟩
 unfold ofC
 split
 · split
   · refine⟨by simp only;omega,fun x hx=> ?_⟩
     obtain⟨k,_,rfl⟩:=List.mem_map.1 hx
     omega
   · exact z
 · exact z
theorem zk4 {c:CrlZ} {sig:List Int} (hr:zfC c) (h:(makeC c sig).2=0):zaO c/\ readC (makeC c sig).1=(c,0):=by
 unfold makeC at h⊢
 split at h
 · rename_i k
   rw[if_pos k]
   refine⟨k,?_⟩
   unfold readC
   rw[zfA h]
   exact ziP hr k
 · cases h
theorem ztf {b:List Int} {n m:T} {said sig:List Int} (hb:∀z∈b,0<=z/\ z<=255) (h:zbR b= .ok (n,said,sig)):zao (zaL m sig)=(b,0)↔m=n:=by
 have hs:=(zfB hb h).1
 constructor
 · intro hm
   have r1:=zfA (n:=m) (sig:=sig) (by rw[hm])
   have r2:=zfA (n:=n) (sig:=sig) (by rw[hs])
   rw[hm]at r1
   rw[hs]at r2
   rw[r1]at r2
   injection r2 with r2
   exact(Prod.mk.inj r2).1
 · rintro rfl
   exact hs
theorem zma {b:List Int} {n:T} {said sig:List Int} {c:CrlZ} (hb:∀z∈b,0<=z/\ z<=255) (h:zbR b= .ok (n,said,sig)) (hr:zfC c) (hc:(ofC n).2=true->zaO (ofC n).1->(ofC n).1=c):foundC n=if makeC c sig=(b,0)then(c,0)else(za8,2):=by
 have ha:=ztf (m:=crlT c) hb h
 by_cases k:makeC c sig=(b,0)
 · rw[if_pos k]
   unfold makeC at k
   split at k
   · rename_i kr
     have e:=ha.1 k
     rw[<-e]
     exact ziP hr kr
   · injection k with _ k2
     cases k2
 · rw[if_neg k]
   rcases ziQ n with e|e
   · exfalso
     obtain⟨k1,k2,k3⟩:=zk3 (n:=n) (c:=(foundC n).1) (Prod.ext rfl e)
     have k4:=hc (by rw[k3]) (by rw[k3];exact k1)
     rw[k3]at k4
     simp only at k4
     rw[k4]at k1 k2
     refine k ?_
     unfold makeC
     rw[if_pos k1]
     exact ha.2 k2
   · exact e
theorem zua (l:List Int):za2 (l.map intT)<=10*l.length:=by
 induction l with
 |nil=>simp[za2]
 |cons x r ih=>
   have:=zhy x
   rw[List.map_cons,za2,List.length_cons]
   omega
theorem zqE {c:CrlZ} (h:c.ser.length<=400):wt (crlT c)<=5000:=by
 have h1:=zqu c.iss
 have h2:=zhy c.num
 have h3:=znk c.fr
 have h4:=znk c.to
 have h5:=zua c.ser
 unfold crlT serT
 simp only[wt,za2,List.length_nil]
 omega
theorem zqF (l:List Int):zaF (l.map intT)=true/\ zas (l.map intT)<=1:=by
 induction l with
 |nil=>simp[zaF,zas]
 |cons x r ih=>
   have h:=zgm x
   rw[List.map_cons]
   refine⟨by simp[zaF,h.1,ih.1],?_⟩
   rw[zas]
   split<;>omega
theorem zhG {c:CrlZ} (h:zaO c):zar (crlT c)=true/\ zaP (crlT c)<=3:=by
 obtain⟨⟨h1,_⟩,⟨h2,h3,_⟩,_⟩:=h
 have q1:=zou h1
 have q2:=zgm c.num
 have q3:=zkV _ h2
 have q4:=zkV _ h3
 have q5:=zqF c.ser
 have d:zaP (crlT c)=(if zas [intT c.num,.node 48 [] [(momZ c.fr).1,(momZ c.to).1],serT c.ser]<zaP (zaX c.iss).1 then zaP (zaX c.iss).1 else zas [intT c.num,.node 48 [] [(momZ c.fr).1,(momZ c.to).1],serT c.ser])+1:=by
  unfold crlT
  rw[zaP,zas]
  rfl
 refine⟨?_,?_⟩
 · unfold crlT serT
   simp[zar,zaF,tagB,zav,q1.1,q2.1,q3.1,q4.1,q5.1]
 · have e1:zaP (.node 48 [] [(momZ c.fr).1,(momZ c.to).1])=2:=by
    rw[zaP,zas,zas,zas,q3.2,q4.2]
    rfl
   have e2:zaP (serT c.ser)<=2:=by
    unfold serT
    rw[zaP,if_pos (by rfl)]
    omega
   have e3:zas [intT c.num,.node 48 [] [(momZ c.fr).1,(momZ c.to).1],serT c.ser]<=2:=by
    rw[zas,zas,zas,zas,q2.2,e1]
    repeat(first|omega|split)
   rw[d,q1.2]
   split<;>omega
theorem znt {c:CrlZ} (sig:List Int) (h:zaO c):(makeC c sig).2=0 \/makeC c sig=([],5):=by
 have q:=zhG h
 have r1:zar (zaL (crlT c) sig)=true:=by rw[ziN];exact q.1
 have r2:zaP (zaL (crlT c) sig)<=32:=by
  have d1:=znr 11
  have d2:=zk0 sig
  unfold zaL
  rw[zaP,zas,zas,zas,zas,d1,d2,if_pos (by rfl)]
  have:=q.2
  repeat(first|omega|split)
 unfold makeC
 rw[if_pos h]
 by_cases k:zaT (zaL (crlT c) sig)<=20000
 · rw[zcI r1 r2 k]
   exact .inl rfl
 · right
   exact zfa r1 (by omega) (by omega)
theorem zuF {c:CrlZ} (sig:List Int) (h:¬zaO c):makeC c sig=([],1):=if_neg h
def zbM (ns:List Int) (e:Int):Bool:=decide (62<=ns.length)&&decide (ns.length<=512)&& !(ns[0]?.getD 0==0)&&(ns[ns.length-1]?.getD 0%2==1)&&(e%2==1)&&decide (3<=e)
def HEAD:List Int:=[48,49,48,13,6,9,96,134,72,1,101,3,4,2,1,5,0,4,32]
def zbh (hz:List Int) (k:Nat):List Int:=0::1::(List.replicate (k-54) 255++0::(HEAD++hz))
theorem zhH {hz:List Int} (h:hz.length=32) {k:Nat} (hk:62<=k):(zbh hz k).length=k:=by
 simp[zbh,HEAD,h]
 omega
theorem zcD {hz:List Int} (h:∀x∈hz,0<=x/\ x<=255) (k:Nat):∀x∈zbh hz k,0<=x/\ x<=255:=by
 intro x hx
 simp only[zbh,HEAD,List.mem_cons,List.mem_append,List.not_mem_nil,or_false,List.mem_replicate]at hx
 rcases hx with rfl|rfl|⟨_,rfl⟩|rfl|hx|hx
 · omega
 · omega
 · omega
 · omega
 · omega
 · exact h x hx
theorem zqG {xs ys:List Int} {k:Nat} (h:zbh xs k=zbh ys k):xs=ys:=by
 simpa[zbh]using h
theorem zfD {ns:List Int} {e:Int} (h:zbM ns e=true):62<=ns.length/\ ns.length<=512:=by
 simp only[zbM,Bool.and_eq_true,decide_eq_true_eq]at h
 omega
theorem zoA {ns:List Int} {e:Int} (h:zbM ns e=true):ns[0]?.getD 0≠0:=by
 simp only[zbM,Bool.and_eq_true,decide_eq_true_eq,Bool.not_eq_true',beq_eq_false_iff_ne]at h
 exact h.1.1.1.2
end Go.Proofs.YtpgahclpbdpbnaaGreatDoor
