import Derived.Test.YtpgahclpbdpbnaaGreatDoorGAT
import Derived.Tactics2
import Derived.Defers
import Derived.Recover
import Derived.Test.YtpgahclpbdpbnaaGreatDoorGAI
import Derived.Test.YtpgahclpbdpbnaaGreatDoorGAO
import Derived.Test.YtpgahclpbdpbnaaGreatDoorGAB
import Derived.Test.YtpgahclpbdpbnaaGreatDoorGAH
import Derived.Great.Walk
import Derived.Deep.MidRow
import Derived.Test.YtpgahclpbdpbnaaGreatDoorGAA
set_option maxHeartbeats 2000000
namespace Go.Proofs.YtpgahclpbdpbnaaGreatDoor
open Go.RowKit
set_option linter.unusedVariables false
set_option linter.unusedSimpArgs false
def zjU (w:World) (p q:Nat):World:=(((((((w.alloc (.cells #[.int .i64 0,.slice none 0 0,.slice none 0 0,.slice none 0 0,.slice none 0 0] 117)).setCell ⟨p,0,none⟩ (.int .i64 0)).setCell ⟨p,1,none⟩ (.slice none 0 0)).setCell ⟨p,2,none⟩ (.slice none 0 0)).setCell ⟨p,3,none⟩ (.slice none 0 0)).setCell ⟨p,4,none⟩ (.slice none 0 0)).setCell ⟨q,0,none⟩ (.int .i64 2))
theorem Blk.five {w:World} {g:Nat} {t:TypeId} {a b c d e:Value} (h:Blk w g t #[a,b,c,d,e]):w.cell? ⟨g,0,none⟩=some a/\ w.cell? ⟨g,1,none⟩=some b/\ w.cell? ⟨g,2,none⟩=some c/\ w.cell? ⟨g,3,none⟩=some d/\ w.cell? ⟨g,4,none⟩=some e/\ w.frozen? ⟨g,0,none⟩=false/\ w.frozen? ⟨g,1,none⟩=false/\ w.frozen? ⟨g,2,none⟩=false/\ w.frozen? ⟨g,3,none⟩=false/\ w.frozen? ⟨g,4,none⟩=false:=
 ⟨h.cell 0,h.cell 1,h.cell 2,h.cell 3,h.cell 4,h.free 0,h.free 1,h.free 2,h.free 3,h.free 4⟩
theorem zgG (p q:Nat) (y:Int) (a b c d x:Value) (w:World) (hp:Blk w p 117 #[a,b,c,d,x]) (hq:Blk w q 31 #[.int .i64 y]) (hne:q≠p):
 CallsD Tryz.prog 141 #[.pointer (some ⟨p,0,none⟩),.pointer (some ⟨q,0,none⟩)] (.panicking (errP 2)) w fun e u' w'=>
  e= .returned (.tuple #[])/\ u'= .panicking [{v:= .iface 31 (.int .i64 2),recovered:=true}]/\ w'=zjU w p q:=by
 have hp2:=hp.alloc (.cells #[.int .i64 0,.slice none 0 0,.slice none 0 0,.slice none 0 0,.slice none 0 0] 117)
 have hq2:=hq.alloc (.cells #[.int .i64 0,.slice none 0 0,.slice none 0 0,.slice none 0 0,.slice none 0 0] 117)
 obtain⟨p0,p1,p2,p3,p4,f0,f1,f2,f3,f4⟩:=hp2.five
 have q0:=hq2.cell 0
 have g0:=hq2.free 0
 simp only[List.getElem?_toArray,List.getElem?_cons_zero]at q0
 refine callsD_of_wpS Tryz.func141 rfl fun c₀ cs hu=> ?_
 unfold errP at hu
 apply wpS_seq
 apply wpS_region
 simp[wpOpsS,go_sem,recoverD,hu,Tryz.ntmps141,Exit.thenS]
 refine wpS_of_wp ?_
 change Code.wp Tryz.prog _ _ ⟨#[.pointer (some ⟨p,0,none⟩),.pointer (some ⟨q,0,none⟩),undef,.iface 31 (.int .i64 2),.bool true,undef],[]⟩ w
 go_wp2_with fail
 exact⟨rfl,_,rfl,.tuple #[],by simp[results,Tryz.results141],rfl,rfl,rfl⟩
theorem zmq (p q:Nat) (w:World):
 CallsD Tryz.prog 141 #[.pointer (some ⟨p,0,none⟩),.pointer (some ⟨q,0,none⟩)] .returning w fun e u' w'=>e= .returned (.tuple #[])/\ u'= .returning/\ w'=w:=by
 refine callsD_of_wpS Tryz.func141 rfl fun c₀ cs hu=> ?_
 apply wpS_seq
 apply wpS_region
 simp[wpOpsS,go_sem,recoverD,hu,Tryz.ntmps141,Exit.thenS]
 refine wpS_of_wp ?_
 change Code.wp Tryz.prog _ _ ⟨#[.pointer (some ⟨p,0,none⟩),.pointer (some ⟨q,0,none⟩),undef,.nilIface,.bool false,undef],[]⟩ w
 go_wp2_with fail
 refine⟨rfl,.returning,?_,.tuple #[],by simp[results,Tryz.results141],rfl,rfl,rfl⟩
 cases c₀
 simp_all
theorem zmr {w:World} {p q:Nat} {y:Int} {a b c d x:Value} (hp:Blk w p 117 #[a,b,c,d,x]) (hq:Blk w q 31 #[.int .i64 y]) (hne:q≠p):
 Blk (zjU w p q) p 117 #[.int .i64 0,.slice none 0 0,.slice none 0 0,.slice none 0 0,.slice none 0 0]/\ Blk (zjU w p q) q 31 #[.int .i64 2]/\ ∀B,B<=p->B<=q->B<=w.heap.size->Below B w (zjU w p q):=by
 have hp2:=hp.alloc (.cells #[.int .i64 0,.slice none 0 0,.slice none 0 0,.slice none 0 0,.slice none 0 0] 117)
 have hq2:=hq.alloc (.cells #[.int .i64 0,.slice none 0 0,.slice none 0 0,.slice none 0 0,.slice none 0 0] 117)
 refine⟨(((((hp2.set 0 _).set 1 _).set 2 _).set 3 _).set 4 _).far (Ne.symm hne) 0 _,(((((hq2.far hne 0 _).far hne 1 _).far hne 2 _).far hne 3 _).far hne 4 _).set 0 _,fun B h1 h2 h3=> ?_⟩
 exact(((((((Below.refl B w).alloc h3 _).setCell h1 _).setCell h1 _).setCell h1 _).setCell h1 _).setCell h1 _).setCell h2 _
theorem zoY:∀(j:Nat) (x:Int),(#[Value.int .i64 0]:Array Value)[j]?≠some (.int .u8 x):=by
 intro j x h
 rcases j with _|j<;>simp at h
theorem zms {w:World} {p q B:Nat} (hp:Blk w p 117 #[.int .i64 0,.slice none 0 0,.slice none 0 0,.slice none 0 0,.slice none 0 0]) (hq:Blk w q 31 #[.int .i64 0]) (hne:q≠p) (h1:B<=p) (h2:B<=q) (h3:B<=w.heap.size) (a b c d e:Value):
 Blk ((((((w.setCell ⟨p,0,none⟩ a).setCell ⟨p,1,none⟩ b).setCell ⟨p,2,none⟩ c).setCell ⟨p,3,none⟩ d).setCell ⟨p,4,none⟩ e).setCell ⟨q,0,none⟩ (.int .i64 0)) p 117 #[a,b,c,d,e]/\
 Blk ((((((w.setCell ⟨p,0,none⟩ a).setCell ⟨p,1,none⟩ b).setCell ⟨p,2,none⟩ c).setCell ⟨p,3,none⟩ d).setCell ⟨p,4,none⟩ e).setCell ⟨q,0,none⟩ (.int .i64 0)) q 31 #[.int .i64 0]/\
 Below B w ((((((w.setCell ⟨p,0,none⟩ a).setCell ⟨p,1,none⟩ b).setCell ⟨p,2,none⟩ c).setCell ⟨p,3,none⟩ d).setCell ⟨p,4,none⟩ e).setCell ⟨q,0,none⟩ (.int .i64 0))/\
 ∀(P:Nat->Prop) (n:T) (v:Value),(∀b,P b->b≠p/\ b≠q)->(n.InP P w v->n.InP P ((((((w.setCell ⟨p,0,none⟩ a).setCell ⟨p,1,none⟩ b).setCell ⟨p,2,none⟩ c).setCell ⟨p,3,none⟩ d).setCell ⟨p,4,none⟩ e).setCell ⟨q,0,none⟩ (.int .i64 0)) v)/\
  ∀(r:Option Addr) (k:Nat) (zs:List Int),Row w r k zs->Row ((((((w.setCell ⟨p,0,none⟩ a).setCell ⟨p,1,none⟩ b).setCell ⟨p,2,none⟩ c).setCell ⟨p,3,none⟩ d).setCell ⟨p,4,none⟩ e).setCell ⟨q,0,none⟩ (.int .i64 0)) r k zs:=by
 have G5:=zdC p w a b c d e
 have hqf:=((((hq.far hne 0 a).far hne 1 b).far hne 2 c).far hne 3 d).far hne 4 e
 have G6:=zaD (((((w.setCell ⟨p,0,none⟩ a).setCell ⟨p,1,none⟩ b).setCell ⟨p,2,none⟩ c).setCell ⟨p,3,none⟩ d).setCell ⟨p,4,none⟩ e) q 0 (.int .i64 0)
 refine⟨(((((hp.set 0 a).set 1 b).set 2 c).set 3 d).set 4 e).far (Ne.symm hne) 0 _,hqf.set 0 _,(zbS G5 B h1 h3).trans (zbS G6 B h2 (by have:=G5.size;omega)),fun P n v hP=>⟨fun hin=> ?_,fun r k zs hr=> ?_⟩⟩
 · exact(hin.grownP (fun b hb=>(hP b hb).1) G5).grownP (fun b hb=>(hP b hb).2) G6
 · have h:=zbU hr (zdf hr hp zep) G5
   exact zbU h (zdf h hqf zoY) G6
theorem zh2 {P:Program} {fn:Func} {p q:Tmp} {ty t2:TypeId} (h:fn.results=#[.cell p ty,.cell q t2]) (tmps:Array Value) (w:World) (g g2:Nat) (t:TypeId) (cs:Array Value) (fr:Nat×Nat) (d:TypeDesc) (z:Int)
 (hp:tmps.getD p undef= .pointer (some ⟨g,0,none⟩)) (hg:w.heap[g]?=some (.cells cs t fr)) (hq:tmps.getD q undef= .pointer (some ⟨g2,0,none⟩)) (hg2:w.cell? ⟨g2,0,none⟩=some (.int .i64 z))
 (hu:P.underlying ty=some d) (hd:(match d with| .struct _| .array _ _=>true|_=>false)=true) (hi:(P.info? ty).map (·.size)=some cs.size) (hu2:P.underlying t2=some (.int .i64)):
 (results fn tmps).run P w= .ok (.tuple #[.agg cs,.int .i64 z]) w:=zgs h tmps w g g2 t cs fr d z hp hg hq hg2 hu hd hi hu2
def zrC (P:Nat->Prop) (x:Except Int (T×List Int×List Int)) (w:World) (e:Ending) (w':World):Prop:=Below w.heap.size w w'/\
 ((∃z,x= .error z/\ e= .returned (.tuple #[.agg #[.int .i64 0,.slice none 0 0,.slice none 0 0,.slice none 0 0,.slice none 0 0],.int .i64 z])) \/
  (∃(n:T) (said sig:List Int) (A:Option Addr) (nn c:Nat) (K:Option Addr) (m d:Nat) (a1:Option Addr) (c1:Nat) (a2:Option Addr) (c2:Nat),x= .ok (n,said,sig)/\ e= .returned (.tuple #[.agg #[.int .i64 n.tag,.slice A nn c,.slice K m d,.slice a1 said.length c1,.slice a2 sig.length c2],.int .i64 0])/\
    n.InP P w' (.agg #[.int .i64 n.tag,.slice A nn c,.slice K m d])/\ Row w' a1 said.length said/\ ((a1=none->c1=0)/\ said.length<=c1)/\ Row w' a2 sig.length sig/\ (a2=none->c2=0)))
theorem zmt (P:Nat->Prop) (x:T) (v:Value) (w:World) (hP:∀b,P b->b<w.heap.size) (hin:x.InP P w v) (hwt:wt x<30000) (hwr:∀k∈x.kids,(zao k).2=0):Calls Tryz.prog 93 #[v,.func (.func 94) #[] #[]] w (zrC P (za3 x) w):=by
 have hmf:∀(fn:Fn) (first cap:Array Value) (w:World),(Instr.makeFunc fn first cap).run Tryz.prog w= .ok (.func fn first cap) w:=fun _ _ _ _=>rfl
 obtain⟨A,nb,c,K,m,d,rfl⟩:=hin.form
 have BX:=zwd (Box.start (T.InP.in _ hin))
 have P0:=Blk.new (w.alloc (.cells #[.int .i64 x.tag,.slice A nb c,.slice K m d] 30)) 117 #[.int .i64 0,.slice none 0 0,.slice none 0 0,.slice none 0 0,.slice none 0 0]
 have Q0:=Blk.new ((w.alloc (.cells #[.int .i64 x.tag,.slice A nb c,.slice K m d] 30)).alloc (.cells #[.int .i64 0,.slice none 0 0,.slice none 0 0,.slice none 0 0,.slice none 0 0] 117)) 31 #[.int .i64 0]
 have P1:=P0.alloc (.cells #[.int .i64 0] 31)
 rw[show(w.alloc (.cells #[.int .i64 x.tag,.slice A nb c,.slice K m d] 30)).heap.size=w.heap.size+1 by simp]at P1
 rw[show((w.alloc (.cells #[.int .i64 x.tag,.slice A nb c,.slice K m d] 30)).alloc (.cells #[.int .i64 0,.slice none 0 0,.slice none 0 0,.slice none 0 0,.slice none 0 0] 117)).heap.size=w.heap.size+1+1 by simp]at Q0
 have b2:Below w.heap.size w (((w.alloc (.cells #[.int .i64 x.tag,.slice A nb c,.slice K m d] 30)).alloc (.cells #[.int .i64 0,.slice none 0 0,.slice none 0 0,.slice none 0 0,.slice none 0 0] 117)).alloc (.cells #[.int .i64 0] 31)):=(((Below.refl _ _).alloc (Nat.le_refl _) _).alloc (by simp) _).alloc (by simp;omega) _
 have CO:=zwd (zlp P x _ _ (fun b hb=>Nat.lt_of_lt_of_le (hP b hb) b2.size) (T.InP.below b2 (fun _ h=>h) _ hin) hwt hwr)
 have P2:=zwd P1
 have Q2:=zwd Q0
 have B2:=zwd b2
 have HP:=zwd hP
 clear P0 P1 Q0 b2 hin hwr hP
 go_enter_defers Tryz.func93,Tryz.ntmps93
 obtain⟨g0,g1,g2⟩:=BX.out.cells
 go_wp2_with fail
 refine CO.out.mono ?_
 rintro e w3 ⟨hb3,hways⟩
 have P3:=zwd (P2.out.below hb3 P2.out.lt)
 have Q3:=zwd (Q2.out.below hb3 Q2.out.lt)
 have B3:=zwd (B2.out.trans (hb3.mono B2.out.size))
 clear CO P2 Q2 B2 hb3 g0 g1 g2 BX
 rcases hways with⟨hz,rfl⟩|⟨n,said,sig,A1,nn,c1,K1,m1,d1,a2,c2,a3,c3,hz,rfl,hin,hr1,hn1,hr2,hn2⟩
 · refine leaves_cons (f:=141) (args:=#[.pointer (some ⟨w.heap.size+1,0,none⟩),.pointer (some ⟨w.heap.size+1+1,0,none⟩)]) (by simp) (by simp[go_sem]) ?_
   refine(zgG (w.heap.size+1) (w.heap.size+1+1) 0 _ _ _ _ _ _ P3.out Q3.out (by omega)).mono ?_
   rintro e u' w5 ⟨rfl,rfl,rfl⟩
   have C:=zmr P3.out Q3.out (by omega)
   exact⟨_,zh2 rfl _ _ (w.heap.size+1) (w.heap.size+1+1) 117 _ (0,0) _ 2 rfl C.1 rfl (C.2.1.cell 0) Tryz.underlying117 rfl Tryz.sizeOpened Tryz.underlying31,B3.out.trans (C.2.2 _ (by omega) (by omega) B3.out.size),.inl ⟨2,hz,rfl⟩⟩
 · obtain⟨p0,p1,p2,p3,p4,f0,f1,f2,f3,f4⟩:=P3.out.five
   have q0:=Q3.out.cell 0
   have h0:=Q3.out.free 0
   simp only[List.getElem?_toArray,List.getElem?_cons_zero]at q0
   have HZ:=zwd hz
   have IN:=zwd hin
   have R1:=zwd hr1
   have R2:=zwd hr2
   have N1:=zwd hn1
   have N2:=zwd hn2
   clear hz hin hr1 hr2 hn1 hn2
   go_wp2_with fail
   refine leaves_cons (f:=141) (args:=#[.pointer (some ⟨w.heap.size+1,0,none⟩),.pointer (some ⟨w.heap.size+1+1,0,none⟩)]) (by simp) (by simp[go_sem]) ?_
   refine(zmq (w.heap.size+1) (w.heap.size+1+1) _).mono ?_
   rintro e u' w5 ⟨rfl,rfl,rfl⟩
   obtain⟨C1,C2,C3,C4⟩:=zms (B:=w.heap.size) P3.out Q3.out (by omega) (by omega) (by omega) B3.out.size (.int .i64 n.tag) (.slice A1 nn c1) (.slice K1 m1 d1) (.slice a2 said.length c2) (.slice a3 sig.length c3)
   exact⟨_,zh2 rfl _ _ (w.heap.size+1) (w.heap.size+1+1) 117 _ (0,0) _ 0 rfl C1 rfl (C2.cell 0) Tryz.underlying117 rfl Tryz.sizeOpened Tryz.underlying31,B3.out.trans C3,.inr ⟨n,said,sig,A1,nn,c1,K1,m1,d1,a2,c2,a3,c3,HZ.out,rfl,(C4 P n _ (fun b hb=>(by have:=HP.out b hb;exact⟨by omega,by omega⟩))).1 IN.out,(C4 P n (.int .i64 0) (fun b hb=>(by have:=HP.out b hb;exact⟨by omega,by omega⟩))).2 _ _ _ R1.out,N1.out,(C4 P n (.int .i64 0) (fun b hb=>(by have:=HP.out b hb;exact⟨by omega,by omega⟩))).2 _ _ _ R2.out,N2.out⟩⟩
theorem znN {zs:List Int} {x:T} (hb:∀z∈zs,0<=z/\ z<=255) (h:zdq zs= .ok x):wt x<30000/\ ∀k∈x.kids,(zao k).2=0:=by
 obtain⟨hw,hr⟩:=zf9 hb h
 have h0:(zao x).2=0:=by rw[hw]
 have f:=zb7 h0
 have:=zqC x hr
 refine⟨by omega,fun k hk=> ?_⟩
 cases hwi:zav x.tag
 · have:=(zbb hr).2.2.1 hwi
   rw[this]at hk
   simp at hk
 · exact(zk1 h0 hwi hk).1
def zjV (x:Except Int (T×List Int×List Int)) (w:World) (e:Ending) (w':World):Prop:=Below w.heap.size w w'/\
 ((∃z,x= .error z/\ ¬z=0/\ e= .returned (.tuple #[.agg #[.int .i64 0,.slice none 0 0,.slice none 0 0],.slice none 0 0,.slice none 0 0,.int .i64 z])) \/
  (∃(n:T) (said sig:List Int) (A:Option Addr) (nn c:Nat) (K:Option Addr) (m d:Nat) (a1:Option Addr) (c1:Nat) (a2:Option Addr) (c2:Nat),x= .ok (n,said,sig)/\ e= .returned (.tuple #[.agg #[.int .i64 n.tag,.slice A nn c,.slice K m d],.slice a1 said.length c1,.slice a2 sig.length c2,.int .i64 0])/\
    n.In w' (.agg #[.int .i64 n.tag,.slice A nn c,.slice K m d])/\ Row w' a1 said.length said/\ ((a1=none->c1=0)/\ said.length<=c1)/\ Row w' a2 sig.length sig/\ (a2=none->c2=0)))
theorem zcN {P:Program} {fn:Func} {p u1 u2 u3:Tmp} {ty:TypeId} (h:fn.results=#[.cell p ty,.tmp u1,.tmp u2,.tmp u3]) (tmps:Array Value) (w:World) (g:Nat) (t:TypeId) (cs:Array Value) (fr:Nat×Nat) (d:TypeDesc)
 (hp:tmps.getD p undef= .pointer (some ⟨g,0,none⟩)) (hg:w.heap[g]?=some (.cells cs t fr))
 (hu:P.underlying ty=some d) (hd:(match d with| .struct _| .array _ _=>true|_=>false)=true) (hi:(P.info? ty).map (·.size)=some cs.size):
 (results fn tmps).run P w= .ok (.tuple #[.agg cs,tmps.getD u1 undef,tmps.getD u2 undef,tmps.getD u3 undef]) w:=by
 have hp':tmps[p]?.getD undef= .pointer (some ⟨g,0,none⟩):=by simpa using hp
 simp[results,h,hp',asAddr,run_loadVar_row w g t ty cs fr d hg hu hd hi,Result.andThen]
theorem ztA {l:List Int} {z:Int} (h:zbe l= .error z):¬z=0:=by
 unfold zbe at h
 repeat' (split at h)
 all_goals(cases h;try decide)
theorem zlq {rec:Nat->List Int->Except Int (List T)} (hrec:∀d l z,rec d l= .error z->¬z=0) {deep:Nat} {l:List Int} {z:Int} (h:zdT rec deep l= .error z):¬z=0:=by
 unfold zdT at h
 split at h
 · rename_i e he
   cases h
   exact ztA he
 · split at h
   · cases h;decide
   · split at h
     · cases h;decide
     · split at h
       · split at h
         · rename_i e he
           cases h
           have:=hrec _ _ _ he
           split<;>omega
         · cases h
       · cases h
theorem zjW:∀(f deep:Nat) (l:List Int) (z:Int),zeg f deep l= .error z->¬z=0
 |0,_,_,_,h=>by
  unfold zeg at h
  cases h
 |f+1,deep,l,z,h=>by
  unfold zeg at h
  split at h
  · cases h
  · split at h
    · rename_i e he
      cases h
      exact zlq (fun d l z h=>zjW f d l z h) he
    · split at h
      · rename_i e he
        cases h
        exact zjW f _ _ _ he
      · cases h
theorem zjX {zs:List Int} {z:Int} (h:zdq zs= .error z):¬z=0:=by
 unfold zdq at h
 split at h
 · cases h;decide
 · split at h
   · rename_i e he
     cases h
     exact zlq (fun d l z h=>zjW _ d l z h) he
   · split at h<;>cases h
     decide
theorem zcl (g:Nat) (W:World) (a b c:Value):zak g W (((W.setCell ⟨g,0,none⟩ a).setCell ⟨g,1,none⟩ b).setCell ⟨g,2,none⟩ c):=
 zal (zal (zaD W g 0 a) (zaD _ g 1 b)) (zaD _ g 2 c)
theorem zeP:∀(j:Nat) (x:Int),(#[Value.int .i64 0,.slice none 0 0,.slice none 0 0]:Array Value)[j]?≠some (.int .u8 x):=by
 intro j x h
 rcases j with _|_|_|j<;>simp at h
theorem ztB (a:Option Addr) (n ca:Nat) (zs:List Int) (w:World) (hr:Row w a n zs) (hnc:n<=ca) (hn:n<=30000) (hnil:a=none->ca=0):Calls Tryz.prog 56 #[.slice a n ca] w (zjV (zbR zs) w):=by
 have b1:Below w.heap.size w (w.alloc (.cells #[.int .i64 0,.slice none 0 0,.slice none 0 0] 30)):=(Below.refl _ _).alloc (Nat.le_refl _) _
 have S0:=zwd (Blk.new w 30 #[.int .i64 0,.slice none 0 0,.slice none 0 0])
 have CR:=zwd (zry a n ca zs _ (hr.below b1) hnc hn hnil)
 have HB:=zwd hr.2.1
 have B1:=zwd b1
 clear b1 hr
 go_enter Tryz.func56,Tryz.ntmps56
 go_wp2_with fail
 generalize hw1:w.alloc (.cells #[.int .i64 0,.slice none 0 0,.slice none 0 0] 30)=w1 at*
 have hs1:Hid (w.heap.size<w1.heap.size):=S0.out.lt
 clear hw1
 refine CR.out.mono ?_
 rintro e w2 ⟨hb2,hways⟩
 have S2:=zwd (S0.out.below hb2 S0.out.lt)
 have B2:=zwd (Below.step B1.out (hb2.mono (Nat.le_refl _)))
 clear S0 B1
 rcases hways with⟨z,hz,rfl⟩|⟨x,v,hx,rfl,hin⟩
 · have F:Hid (zbR zs= .error z):=by unfold zbR;rw[hz];exact zwd rfl
   have hz0:=zjX hz
   have t0:(z !=0)=true:=by simpa using hz0
   have S3:=zwd (S2.out.alloc (.cells #[.int .i64 0,.slice none 0 0,.slice none 0 0] 30))
   have B3:=zwd (B2.out.alloc B2.out.size (.cells #[.int .i64 0,.slice none 0 0,.slice none 0 0] 30))
   obtain⟨p0,p1,p2,f0,f1,f2⟩:=S3.out.facts
   have HZ:=zwd hz0
   clear hz hz0 CR HB hb2
   go_wp2_with fail
   have C:=((S3.out.set 0 (.int .i64 0)).set 1 (.slice none 0 0)).set 2 (.slice none 0 0)
   exact bodyPost_ret (zcN rfl _ _ w.heap.size 30 _ (0,0) _ rfl C Tryz.underlying30 rfl Tryz.sizeNode) rfl ⟨((B3.out.setCell (Nat.le_refl _) _).setCell (Nat.le_refl _) _).setCell (Nat.le_refl _) _,.inl ⟨z,F.out,HZ.out,rfl⟩⟩
 · obtain⟨A,nb,c,K,m,d,rfl⟩:=hin.form
   have F:Hid (zbR zs=za3 x):=by unfold zbR;rw[hx];exact zwd rfl
   obtain⟨hwt,hwr⟩:=znN HB.out hx
   have A3:Below w2.heap.size w2 (w2.alloc (.cells #[.int .i64 x.tag,.slice A nb c,.slice K m d] 30)):=(Below.refl _ _).alloc (Nat.le_refl _) _
   have S3:=zwd (S2.out.below A3 S2.out.lt)
   have X3:=zwd (Blk.new w2 30 #[.int .i64 x.tag,.slice A nb c,.slice K m d])
   have B3:=zwd (B2.out.trans (A3.mono B2.out.size))
   have I3:x.InP (fun b=>w.heap.size<b/\ b<(w2.alloc (.cells #[.int .i64 x.tag,.slice A nb c,.slice K m d] 30)).heap.size) (w2.alloc (.cells #[.int .i64 x.tag,.slice A nb c,.slice K m d] 30)) (.agg #[.int .i64 x.tag,.slice A nb c,.slice K m d]):=
    T.InP.keep (fun b hb (hp:w1.heap.size<=b)=>⟨⟨by have:=hs1.out;omega,Nat.lt_of_lt_of_le hb A3.size⟩,A3.block b hb⟩) A3.size _ hin
   have CO:=zwd (zmt _ x _ _ (fun b hb=>hb.2) I3 hwt hwr)
   obtain⟨x0,x1,x2,_,_,_⟩:=X3.out.facts
   clear hin hx CR HB hb2 hwt hwr A3 I3 S2 B2
   go_wp2_with fail
   generalize hw3:w2.alloc (.cells #[.int .i64 x.tag,.slice A nb c,.slice K m d] 30)=w3 at*
   refine CO.out.mono ?_
   rintro e w4 ⟨hb4,hways⟩
   have S4:=zwd (S3.out.below hb4 S3.out.lt)
   have B4:=zwd (B3.out.trans (hb4.mono B3.out.size))
   have hs4:Hid (w.heap.size<w4.heap.size):=S4.out.lt
   clear CO S3 X3 B3 hb4 hw3 x0 x1 x2
   rcases hways with⟨z,hz,rfl⟩|⟨t,said,sig,A1,n1,c1,K1,m1,d1,a2,c2,a3,c3,hz,rfl,hin,hr1,hn1,hr2,hn2⟩
   · obtain rfl:=ziO hz
     have HZ:=zwd hz
     clear hz
     have A5:Below w4.heap.size w4 (w4.alloc (.cells #[.int .i64 0,.slice none 0 0,.slice none 0 0,.slice none 0 0,.slice none 0 0] 117)):=(Below.refl _ _).alloc (Nat.le_refl _) _
     have S5:=zwd (S4.out.below A5 S4.out.lt)
     have B5:=zwd (B4.out.trans (A5.mono B4.out.size))
     have Y5:=zwd (Blk.new w4 117 #[.int .i64 0,.slice none 0 0,.slice none 0 0,.slice none 0 0,.slice none 0 0])
     have hne:w4.heap.size≠w.heap.size:=by have:=hs4.out;omega
     clear S4 B4 A5
     go_wp2_with fail
     generalize(w4.alloc (.cells #[.int .i64 0,.slice none 0 0,.slice none 0 0,.slice none 0 0,.slice none 0 0] 117))=w5 at*
     generalize w4.heap.size=g7 at*
     have y0:∀W,zak w.heap.size w5.drew W->W.cell? ⟨g7,0,none⟩=some (.int .i64 0):=fun W hW=>zak.cell hW hne (Y5.out.cell 0)
     have y1:∀W,zak w.heap.size w5.drew W->W.cell? ⟨g7,1,none⟩=some (.slice none 0 0):=fun W hW=>zak.cell hW hne (Y5.out.cell 1)
     have y2:∀W,zak w.heap.size w5.drew W->W.cell? ⟨g7,2,none⟩=some (.slice none 0 0):=fun W hW=>zak.cell hW hne (Y5.out.cell 2)
     have y3:∀W,zak w.heap.size w5.drew W->W.cell? ⟨g7,3,none⟩=some (.slice none 0 0):=fun W hW=>zak.cell hW hne (Y5.out.cell 3)
     have y4:∀W,zak w.heap.size w5.drew W->W.cell? ⟨g7,4,none⟩=some (.slice none 0 0):=fun W hW=>zak.cell hW hne (Y5.out.cell 4)
     clear Y5
     refine zaa (zak w.heap.size) (zak.refl _) zak.trans ((0,false)::(1,false)::(2,false)::(3,false)::(4,false)::(5,false)::(6,false)::(7,true)::(8,false)::(9,false)::(10,false)::[]) (by kernel_rfl) (by kernel_rfl) rfl (by kernel_rfl) (fun _ _ _ _ _ h=>h) ?_
     repeat(refine zab _ rfl (by rfl) (fun W hW=>by go_simp;first|done|rfl) ?_;simp only[Act.put,zwe,zwg,zwf])
     clear y0 y1 y2 y3 y4
     have S6:Hid (Blk w5.drew w.heap.size 30 #[.int .i64 0,.slice none 0 0,.slice none 0 0]):=S5.out
     have B6:Hid (Below w.heap.size w w5.drew):=B5.out.drew
     clear S5 B5
     generalize w5.drew=w6 at*
     obtain⟨p0,p1,p2,f0,f1,f2⟩:=S6.out.facts
     refine zad rfl (by rfl) (fun K1 hK1=> ?_)
     go_simp
     refine hK1 _ _ (zcl _ _ _ _ _) ?_
     clear hK1 K1
     repeat(refine zab _ rfl (by rfl) (fun W hW=>by go_simp;first|done|rfl) ?_;simp only[Act.put,zwe,zwg,zwf])
     refine zai ?_
     go_wp2_with fail
     have C:=((S6.out.set 0 (.int .i64 0)).set 1 (.slice none 0 0)).set 2 (.slice none 0 0)
     have BB:=B6.out.trans (zc6 (B:=w.heap.size) (g:=w.heap.size) w6 (Nat.le_refl _) (.int .i64 0) (.slice none 0 0) (.slice none 0 0))
     exact bodyPost_ret (zcN rfl _ _ w.heap.size 30 _ (0,0) _ rfl C Tryz.underlying30 rfl Tryz.sizeNode) rfl ⟨BB,.inl ⟨2,F.out.trans HZ.out,by decide,rfl⟩⟩
   · have HZ:=zwd hz
     have A5:Below w4.heap.size w4 (w4.alloc (.cells #[.int .i64 t.tag,.slice A1 n1 c1,.slice K1 m1 d1,.slice a2 said.length c2,.slice a3 sig.length c3] 117)):=(Below.refl _ _).alloc (Nat.le_refl _) _
     have S5:=zwd (S4.out.below A5 S4.out.lt)
     have B5:=zwd (B4.out.trans (A5.mono B4.out.size))
     have Y5:=zwd (Blk.new w4 117 #[.int .i64 t.tag,.slice A1 n1 c1,.slice K1 m1 d1,.slice a2 said.length c2,.slice a3 sig.length c3])
     have hne:w4.heap.size≠w.heap.size:=by have:=hs4.out;omega
     have I5:=zwd (T.InP.below A5 (fun _ h=>h) _ hin)
     have R5:=zwd (hr1.below A5)
     have Q5:=zwd (hr2.below A5)
     have N5:=zwd hn1
     have M5:=zwd hn2
     clear hz hin hr1 hr2 hn1 hn2
     clear S4 B4 A5
     go_wp2_with fail
     generalize(w4.alloc (.cells #[.int .i64 t.tag,.slice A1 n1 c1,.slice K1 m1 d1,.slice a2 said.length c2,.slice a3 sig.length c3] 117))=w5 at*
     generalize w4.heap.size=g7 at*
     have y0:∀W,zak w.heap.size w5.drew W->W.cell? ⟨g7,0,none⟩=some (.int .i64 t.tag):=fun W hW=>zak.cell hW hne (Y5.out.cell 0)
     have y1:∀W,zak w.heap.size w5.drew W->W.cell? ⟨g7,1,none⟩=some (.slice A1 n1 c1):=fun W hW=>zak.cell hW hne (Y5.out.cell 1)
     have y2:∀W,zak w.heap.size w5.drew W->W.cell? ⟨g7,2,none⟩=some (.slice K1 m1 d1):=fun W hW=>zak.cell hW hne (Y5.out.cell 2)
     have y3:∀W,zak w.heap.size w5.drew W->W.cell? ⟨g7,3,none⟩=some (.slice a2 said.length c2):=fun W hW=>zak.cell hW hne (Y5.out.cell 3)
     have y4:∀W,zak w.heap.size w5.drew W->W.cell? ⟨g7,4,none⟩=some (.slice a3 sig.length c3):=fun W hW=>zak.cell hW hne (Y5.out.cell 4)
     clear Y5
     refine zaa (zak w.heap.size) (zak.refl _) zak.trans ((0,false)::(1,false)::(2,false)::(3,false)::(4,false)::(5,false)::(6,false)::(7,true)::(8,false)::(9,false)::(10,false)::[]) (by kernel_rfl) (by kernel_rfl) rfl (by kernel_rfl) (fun _ _ _ _ _ h=>h) ?_
     repeat(refine zab _ rfl (by rfl) (fun W hW=>by go_simp;first|done|rfl) ?_;simp only[Act.put,zwe,zwg,zwf])
     clear y0 y1 y2 y3 y4
     have S6:Hid (Blk w5.drew w.heap.size 30 #[.int .i64 0,.slice none 0 0,.slice none 0 0]):=S5.out
     have B6:Hid (Below w.heap.size w w5.drew):=B5.out.drew
     have I6:Hid (t.InP (fun b=>w.heap.size<b/\ b<w3.heap.size) w5.drew (.agg #[.int .i64 t.tag,.slice A1 n1 c1,.slice K1 m1 d1])):=T.InP.below (Below.refl _ _).drew (fun _ h=>h) _ I5.out
     have R6:Hid (Row w5.drew a2 said.length said):=R5.out
     have Q6:Hid (Row w5.drew a3 sig.length sig):=Q5.out
     clear I5 R5 Q5
     clear S5 B5
     generalize w5.drew=w6 at*
     obtain⟨p0,p1,p2,f0,f1,f2⟩:=S6.out.facts
     refine zad rfl (by rfl) (fun K1 hK1=> ?_)
     go_simp
     refine hK1 _ _ (zcl _ _ _ _ _) ?_
     clear hK1 K1
     repeat(refine zab _ rfl (by rfl) (fun W hW=>by go_simp;first|done|rfl) ?_;simp only[Act.put,zwe,zwg,zwf])
     refine zai ?_
     go_wp2_with fail
     have C:=((S6.out.set 0 (.int .i64 t.tag)).set 1 (.slice A1 n1 c1)).set 2 (.slice K1 m1 d1)
     have BB:=B6.out.trans (zc6 (B:=w.heap.size) (g:=w.heap.size) w6 (Nat.le_refl _) (.int .i64 t.tag) (.slice A1 n1 c1) (.slice K1 m1 d1))
     have G:=zcl w.heap.size w6 (.int .i64 t.tag) (.slice A1 n1 c1) (.slice K1 m1 d1)
     exact bodyPost_ret (zcN rfl _ _ w.heap.size 30 _ (0,0) _ rfl C Tryz.underlying30 rfl Tryz.sizeNode) rfl ⟨BB,.inr ⟨t,said,sig,A1,n1,c1,K1,m1,d1,a2,c2,a3,c3,F.out.trans HZ.out,rfl,T.InP.in _ (I6.out.grownP (fun b hb=>(by have:=hb.1;omega)) G),zbU R6.out (zdf R6.out S6.out zeP) G,N5.out,zbU Q6.out (zdf Q6.out S6.out zeP) G,M5.out⟩⟩
noncomputable def timesZ (t:T):Int×Int:=match t.kids with
 | [e,f]=>((whenZ e).1,(whenZ f).1)
 |_=>(0,0)
def ztC (t:T) (l:List Int):Prop:=l.length<=400/\ (∀x∈l,0<=x/\ x<=4294967295)/\ ((∀k∈t.kids,(zaC k).2=0)->t.kids.length<=400->l=t.kids.map fun k=>(zaC k).1%4294967296)
def zh3 (t:T) (c:CrlZ):Prop:=c.iss.size<=200/\ c.ser.length<=400/\ ((ofC t).2=true->zaO (ofC t).1->(ofC t).1=c)
theorem zi9 (t:T):(za1 t).1.size<=200:=by
 unfold za1
 split
 · rename_i h
   exact(zjv h.1).2
 · decide
theorem zrD {t:T} (h:¬t.kids.length=4):zh3 t za8:=by
 refine⟨by decide,by decide,fun h2=> ?_⟩
 have:ofC t=(za8,false):=by
  unfold ofC
  split
  · rename_i a b c d hk
    rw[hk]at h
    exact absurd rfl h
  · rfl
 rw[this]at h2
 cases h2
theorem zrE {t k0 k1 k2 k3:T} {l:List Int} (hk:t.kids=[k0,k1,k2,k3]) (hl:ztC k3 l):zh3 t ⟨(za1 k0).1,(zaC k1).1%4294967296,(timesZ k2).1,(timesZ k2).2,l⟩:=by
 refine⟨zi9 k0,hl.1,fun h1 h2=> ?_⟩
 unfold ofC at h1 h2⊢
 rw[hk]at h1 h2⊢
 simp only at h1 h2⊢
 unfold timesZ
 split at h1
 · rename_i e f he
   simp only[he]at h2⊢
   have h3:=of_decide_eq_true h1
   have h4:k3.kids.length<=400:=by
    have:=h2.2.2.1
    simpa using this
   rw[hl.2.2 h3.2.2.2.2 h4]
 · cases h1
theorem ztD {b:List Int} {z:Int} (h:zbR b= .error z):¬z=0:=by
 unfold zbR at h
 split at h
 · rename_i e he
   cases h
   exact zjX he
 · unfold za3 at h
   (repeat' split at h)<;>cases h<;>decide
theorem zjY {b:List Int} {c:CrlZ} (h:readC b=(c,0)):∃said sig,zbR b= .ok (crlT c,said,sig)/\ zaO c/\ zfC c:=by
 unfold readC at h
 split at h
 · rename_i z hz
   injection h with h1 h2
   subst h2
   exfalso
   exact absurd rfl (ztD hz)
 · rename_i x hx
   obtain⟨h1,h2,h3⟩:=zk3 h
   obtain⟨n,said,sig⟩:=x
   simp only at h2 h3
   subst h2
   refine⟨said,sig,hx,h1,?_⟩
   have:=zte (crlT c)
   rw[h3]at this
   exact this
theorem ztE {b:List Int} (h:¬(readC b).2=0):readC b=(za8,(readC b).2):=by
 unfold readC at h⊢
 split
 · rfl
 · rename_i x hx
   rw[hx]at h
   simp only at h
   rcases ziQ x.1 with e|e
   · exact absurd e h
   · rw[e]
noncomputable def checkC (b:List Int) (sub:ByteArray) (ns:List Int) (e now:Int):CrlZ×Int:=
 if(readC b).2=0 then(match zbR b with
  | .ok x=>if(readC b).1.iss=sub then(if verZ ns e x.2.1 x.2.2=0 then(if(readC b).1.fr<=now/\ now<=(readC b).1.to then((readC b).1,0)else(za8,7))else(za8,verZ ns e x.2.1 x.2.2))else(za8,12)
  | .error z=>(za8,z))else(za8,(readC b).2)
theorem znO {b:List Int} {sub:ByteArray} {ns:List Int} {e now:Int} (h:¬(readC b).2=0):checkC b sub ns e now=(za8,(readC b).2):=if_neg h
theorem zjZ {b said sig:List Int} {c:CrlZ} (sub:ByteArray) (ns:List Int) (e now:Int) (h:readC b=(c,0)) (ho:zbR b= .ok (crlT c,said,sig)):
 checkC b sub ns e now=if c.iss=sub then(if verZ ns e said sig=0 then(if c.fr<=now/\ now<=c.to then(c,0)else(za8,7))else(za8,verZ ns e said sig))else(za8,12):=by
 unfold checkC
 rw[if_pos (by rw[h]),ho,h]
def zbi:CrlZ:=⟨⟨#[97]⟩,0,5,9,[3]⟩
theorem znP {s:Int} (a:Clk.D6) (h:Clk.IsDate s a) (hy:a.y<2050):(momZ s).2=0:=by
 have:Clk.TextR s _ true:= .inl ⟨rfl,.inl ⟨rfl,a,h,hy,rfl⟩⟩
 rw[<-zeU this]
 rfl
theorem zdD:zaO zbi:=by
 refine⟨⟨?_,by decide⟩,⟨znP ⟨1970,1,1,0,0,5⟩ ?_ (by decide),znP ⟨1970,1,1,0,0,9⟩ ?_ (by decide),by decide⟩,by decide,fun k h1 h2=> ?_⟩
 · unfold zaX
   rw[if_pos]
   intro k hk
   obtain rfl:k=0:=by have:k<1:=hk;omega
   decide
 · unfold Clk.IsDate Clk.D6.ok zbi
   decide
 · unfold Clk.IsDate Clk.D6.ok zbi
   decide
 · have:k<1:=h1
   omega
theorem zrF:zfC zbi:=⟨by decide,by decide⟩
theorem zrG:wt (crlT zbi)<=256:=by
 have h1:=zqu zbi.iss
 have h2:=zhy zbi.num
 have h3:=znk zbi.fr
 have h4:=znk zbi.to
 have h5:=zua zbi.ser
 have h6:zbi.ser.length=1:=rfl
 unfold crlT serT
 simp only[wt,za2,List.length_nil]
 omega
theorem zrH:(zao (crlT zbi)).1.length<=10000:=by
 have h:=zhG zdD
 have w:=zrG
 have s:=zci (crlT zbi)
 rw[zcI h.1 (by omega) (by omega)]
 have:=zcS (crlT zbi) h.1
 show(layT (crlT zbi)).length<=10000
 omega
theorem ztF {d:Int} (d0:0<=d) (hd:d*65537%720720=1):(makeC zbi (sigZ 0 d (zao (crlT zbi)).1)).2=0/\ checkC (makeC zbi (sigZ 0 d (zao (crlT zbi)).1)).1 ⟨#[97]⟩ (KEY 0) 65537 7=(zbi,0)/\ (makeC zbi (sigZ 0 d (zao (crlT zbi)).1)).1.length<=10000:=by
 have hl:=zrH
 have hv:=(zuS (i:=0) (by decide) d0 hd (zao (crlT zbi)).1 []).1
 have hs:=zme (i:=0) (by decide) d (zao (crlT zbi)).1
 have hk:=(zel (i:=0) (by decide)).2
 generalize sigZ 0 d (zao (crlT zbi)).1=sig at*
 have hm:(makeC zbi sig).2=0:=by
  rcases znt (c:=zbi) sig zdD with h|h
  · exact h
  · exfalso
    unfold makeC at h
    rw[if_pos zdD]at h
    have q:=zhG zdD
    have r1:zar (zaL (crlT zbi) sig)=true:=by rw[ziN];exact q.1
    have r2:zaP (zaL (crlT zbi) sig)<=32:=by
     have d1:=znr 11
     have d2:=zk0 sig
     unfold zaL
     rw[zaP,zas,zas,zas,zas,d1,d2,if_pos (by rfl)]
     have:=q.2
     repeat(first|omega|split)
    have w1:=zjB (crlT zbi) sig
    have w2:=zrG
    have s:=zci (zaL (crlT zbi) sig)
    rw[zcI r1 r2 (by omega)]at h
    injection h with _ h2
    cases h2
 have hlen:(makeC zbi sig).1.length<=10000:=by
  unfold makeC at hm⊢
  rw[if_pos zdD]at hm⊢
  have f:=zb7 hm
  have w1:=zjB (crlT zbi) sig
  have w2:=zrG
  have s:=zci (zaL (crlT zbi) sig)
  rw[zcI f.1 f.2.1 f.2.2]
  have:=zcS _ f.1
  show(layT (zaL (crlT zbi) sig)).length<=10000
  omega
 obtain⟨hr,he⟩:=zk4 zrF hm
 refine⟨hm,?_,hlen⟩
 have ho:zbR (makeC zbi sig).1= .ok (crlT zbi,(zao (crlT zbi)).1,sig):=by
  unfold makeC at hm⊢
  rw[if_pos zdD]at hm⊢
  exact zfA hm
 rw[zjZ _ _ _ _ he ho,if_pos (show zbi.iss=⟨#[97]⟩from rfl),if_pos hv,if_pos (show zbi.fr<=7/\ 7<=zbi.to by decide)]
set_option maxRecDepth 100000
theorem zac (w:World) (o:Obj):Below w.heap.size w (w.alloc o):=(Below.refl _ _).alloc (Nat.le_refl _) o
theorem zh4 {P:Program} {o:Oper} {a:Act} {w:World} {K:Act->World->Prop} {Q:Exit->Act->World->Prop} (v:Value) (w':World) (h:(execOp a.eval o).run P w= .ok (.value v) w') (hK:K (a.put o.dst v) w'):o.wp P a w K Q:=by
 unfold Oper.wp
 rw[h]
 exact hK
theorem zoZ {P:Program} {o:Oper} {a:Act} {w:World} {K:Act->World->Prop} {Q:Exit->Act->World->Prop} (w':World) (h:(execOp a.eval o).run P w= .ok .skip w') (hK:K (a.put o.dst undef) w'):o.wp P a w K Q:=by
 unfold Oper.wp
 rw[h]
 exact hK
theorem zfO {P:Program} {o:Oper} {a:Act} {w:World} {K:Act->World->Prop} {Q:Exit->Act->World->Prop} (t e:TypeId) (len:Nat) (parts:Array (Nat×Operand)) (ho:o.op= .buildSlice t len parts)
 (hu:P.underlying t=some (.slice e)) (cells:Array Value) (ps:List (Nat×Value)) (hb:P.builtSlice e len ps=some cells) (hps:(parts.map fun(i,x)=>(i,a.eval x)).toList=ps)
 (h:K (a.put o.dst (.slice (some ⟨w.heap.size,0,none⟩) len len)) (w.alloc (.cells cells e))):o.wp P a w K Q:=by
 subst hps
 refine zh4 _ _ ?_ h
 unfold Program.builtSlice at hb
 cases hie:P.info? e with
 |none=>simp[hie]at hb
 |some ie=>
  simp only[hie]at hb
  cases hz:ie.zero with
  |none=>simp[hz]at hb
  |some z=>
   simp only[hz]at hb
   by_cases hc:len*ie.size>2^24 \/len*ie.size=0
   · simp[hc]at hb
   · rw[if_neg hc]at hb
     unfold execOp
     simp only[ho,Sem.run_bind,run_buildSlice w t e len _ cells ie z hu hie hz (fun h'=>hc (Or.inl h')) (fun h'=>hc (Or.inr h')) hb,Result.andThen_ok,Sem.run_pure]
def Over (B:Nat) (a b:World):Prop:=a.heap.size<=b.heap.size/\ ∀k,B<=k->k<a.heap.size->b.heap[k]?=a.heap[k]?
theorem Over.below {B:Nat} {a b:World} (h:Below a.heap.size a b):Over B a b:=⟨h.size,fun x _ h2=>h.block x h2⟩
theorem Over.cell {B g j:Nat} (a:World) (v:Value) (hg:g<B):Over B a (a.setCell ⟨g,j,none⟩ v):=⟨by simp,fun x h1 _=>heap_setCell_other a ⟨g,j,none⟩ x v (by show x≠g;omega)⟩
def zlr (P:Nat->Prop) (w:World) (A:Option Addr) (n c:Nat) (ts:List T):Prop:=ts.length=n/\ (A=none->n=0/\ c=0)/\ (0<n->∃b off,A=some ⟨b,off,none⟩/\ b<w.heap.size/\ T.InPAll P w ts b off)
theorem T.InPAll.cells {P:Nat->Prop} {w:World}:∀ {ts:List T} {b off:Nat},T.InPAll P w ts b off->∃xs:List Value,xs.length=ts.length*3/\ (∀j u,xs[j]?=some u->w.cell? ⟨b,off+j,none⟩=some u)/\ (∀u∈xs,u.oneCell'=true)/\
 ∀i (h:i<ts.length),∃v0 v1 v2:Value,xs[i*3]?=some v0/\ xs[i*3+1]?=some v1/\ xs[i*3+2]?=some v2/\ (ts[i]).InP P w (.agg #[v0,v1,v2])
 | [],_,_,_=>⟨[],rfl,fun j u h=>by simp at h,fun u h=>by simp at h,fun i h=>absurd h (by simp)⟩
 |t::r,b,off,h=>by
  unfold T.InPAll at h
  obtain⟨⟨v0,v1,v2,h0,h1,h2,h3⟩,hr⟩:=h
  obtain⟨xs,l,hc,ho,hi⟩:=T.InPAll.cells hr
  obtain⟨A,n,c,K,m,d,e⟩:=h3.form
  simp only[Value.agg.injEq]at e
  have e':=congrArg Array.toList e
  simp only[List.cons.injEq,and_true]at e'
  refine⟨v0::v1::v2::xs,by simp only[List.length_cons,l];omega,fun j u hu=> ?_,fun u hu=> ?_,fun i hi'=> ?_⟩
  · rcases j with _|_|_|j
    · simp only[List.getElem?_cons_zero,Option.some.injEq]at hu
      rw[<-hu];exact h0
    · simp only[List.getElem?_cons_succ,List.getElem?_cons_zero,Option.some.injEq]at hu
      rw[<-hu];exact h1
    · simp only[List.getElem?_cons_succ,List.getElem?_cons_zero,Option.some.injEq]at hu
      rw[<-hu];exact h2
    · simp only[List.getElem?_cons_succ]at hu
      have:=hc j u hu
      rw[show off+(j+1+1+1)=off+3+j by omega]
      exact this
  · simp only[List.mem_cons]at hu
    rcases hu with rfl|rfl|rfl|hu
    · rw[e'.1];rfl
    · rw[e'.2.1];rfl
    · rw[e'.2.2];rfl
    · exact ho u hu
  · rcases i with _|i
    · exact⟨v0,v1,v2,rfl,rfl,rfl,h3⟩
    · obtain⟨u0,u1,u2,k0,k1,k2,k3⟩:=hi i (by simpa using hi')
      refine⟨u0,u1,u2,?_,?_,?_,k3⟩
      · rw[show(i+1)*3=i*3+1+1+1 by omega];exact k0
      · rw[show(i+1)*3+1=i*3+1+1+1+1 by omega];exact k1
      · rw[show(i+1)*3+2=i*3+2+1+1+1 by omega];exact k2
structure KOut (w:World) (B:Nat) (u:World) (V:Value) (ks:List T):Prop where
 bel:Below w.heap.size w u
 lo:w.heap.size<=B
 hi:B<=u.heap.size
 row:∃xs:List Value,u.ownsRow B 30 3 V ks.length xs/\ ∀i (h:i<ks.length),∃v0 v1 v2:Value,xs[i*3]?=some v0/\ xs[i*3+1]?=some v1/\ xs[i*3+2]?=some v2/\ (ks[i]).InP (fun b=>B<=b/\ V.ownBlock≠some b) u (.agg #[v0,v1,v2])
theorem KOut.start {w u:World} {B:Nat} (hb:Below w.heap.size w u) (h1:w.heap.size<=B) (h2:B<=u.heap.size):KOut w B u (.slice none 0 0) []:=
 ⟨hb,h1,h2,[],World.ownsRow_nil _ _ _ _,fun i h=>absurd h (by simp)⟩
theorem KOut.lt {w u:World} {B b:Nat} {V:Value} {ks:List T} (h:KOut w B u V ks) (e:V.ownBlock=some b):B<=b/\ b<u.heap.size:=by
 obtain⟨xs,h1,_⟩:=h.row
 exact h1.lt b e
theorem KOut.form {w u:World} {B:Nat} {V:Value} {ks:List T} (h:KOut w B u V ks):∃A c,V= .slice A ks.length c:=by
 obtain⟨xs,h1,_⟩:=h.row
 rcases h1.2 with⟨e,h0⟩|⟨g,cap,cur,e,_⟩
 · exact⟨none,0,by rw[h0];exact e⟩
 · exact⟨_,cap,e⟩
theorem KOut.over {w u u':World} {B:Nat} {V:Value} {ks:List T} (h:KOut w B u V ks) (ho:Over B u u') (hb:Below w.heap.size w u'):KOut w B u' V ks:=by
 refine⟨hb,h.lo,Nat.le_trans h.hi ho.1,?_⟩
 obtain⟨xs,h1,h2⟩:=h.row
 refine⟨xs,⟨h1.1,?_⟩,fun i hi=> ?_⟩
 · rcases h1.2 with h'|⟨g,cap,cur,e,a1,a2,a3⟩
   · exact .inl h'
   · exact .inr ⟨g,cap,cur,e,a1,(ho.2 g a1 (Array.getElem?_eq_some_iff.1 a2).1).trans a2,a3⟩
 · obtain⟨v0,v1,v2,e0,e1,e2,hin⟩:=h2 i hi
   exact⟨v0,v1,v2,e0,e1,e2,T.InP.keep (fun b hb hp=>⟨hp,ho.2 b hp.1 hb⟩) ho.1 _ hin⟩
theorem KOut.below {w u u':World} {B:Nat} {V:Value} {ks:List T} (h:KOut w B u V ks) (hb:Below u.heap.size u u'):KOut w B u' V ks:=h.over (Over.below hb) (Below.step h.bel hb)
theorem KOut.done {w u:World} {B:Nat} {V:Value} {ks:List T} (h:KOut w B u V ks) {z:Int} (hz:(Lit.int .i64 z).wf=true):(T.node z [] ks).InP (B<= ·) u (.agg #[.int .i64 z,.slice none 0 0,V]):=by
 obtain⟨xs,hown,hks⟩:=h.row
 unfold T.InP
 rcases hown.2 with⟨e,h0⟩|⟨g',cap,cur,e,h1,h2,h3,h4,h5⟩
 · rw[e,show ks=[]from List.eq_nil_of_length_eq_zero h0]
   exact⟨none,0,0,none,0,0,rfl,hz,Row.nil _ _,Nat.zero_le _,fun _=>rfl,rfl,⟨Nat.zero_le _,Nat.le_refl _,Nat.le_refl _⟩,fun h=>absurd h (by omega),fun h=>absurd h (by omega)⟩
 · refine⟨none,0,0,some ⟨g',0,none⟩,ks.length,cap,by rw[e],hz,Row.nil _ _,Nat.zero_le _,fun _=>rfl,rfl,⟨Nat.le_trans h3 h4,Nat.le_refl _,h3⟩,fun h=>absurd h (by omega),fun _=>⟨g',0,rfl,(Array.getElem?_eq_some_iff.1 h2).1,h1,T.InPAll.of fun i hi=> ?_⟩⟩
   obtain⟨u0,u1,u2,e0,e1,e2,hin'⟩:=hks i hi
   rw[e]at hown
   refine⟨u0,u1,u2,?_,?_,?_,T.InP.keep (fun b _ hp=>⟨hp.1,rfl⟩) (Nat.le_refl _) _ hin'⟩
   · rw[Nat.zero_add,hown.cellAt _ (by omega)];exact e0
   · rw[Nat.zero_add,hown.cellAt _ (by omega)];exact e1
   · rw[Nat.zero_add,hown.cellAt _ (by omega)];exact e2
theorem zmu {w u:World} {B:Nat} {V:Value} {ks ts:List T} {A:Option Addr} {n c:Nat} (h:KOut w B u V ks) (k:zlr (fun b=>B<=b/\ V.ownBlock≠some b) u A n c ts) (hl:ks.length+n<=100000) (ty:TypeId):
 ∃V' u',(Builtin.append_ #[28,28] ty #[V,.slice A n c]).run Tryz.prog u= .ok V' u'/\ KOut w B u' V' (ks++ts)/\ u.heap.size<=u'.heap.size/\ Below B u u'/\ ∀x,x<u.heap.size->V.ownBlock≠some x->u'.heap[x]?=u.heap[x]?:=by
 obtain⟨i0,hi5,hz0,hz1,hz2⟩:=info_parts Tryz.infoNode
 obtain⟨xs,hown,hks⟩:=h.row
 cases A with
 |none=>
  obtain⟨rfl,rfl⟩:=k.2.1 rfl
  obtain rfl:ts=[]:=List.eq_nil_of_length_eq_zero k.1
  refine⟨V,u,run_append_owned_none (P:=Tryz.prog) (w:=u) B 28 ty 30 i0 3 Tryz.underlying28 hi5 V ks.length xs hown,?_,Nat.le_refl _,Below.refl _ _,fun _ _ _=>rfl⟩
  rw[List.append_nil]
  exact h
 |some ad=>
  have hsrc:∃ns:List Value,ns.length=ts.length*3/\ (∀j v,ns[j]?=some v->u.cell? (ad.add j)=some v)/\ (∀v∈ns,v.oneCell'=true)/\ ∀i (h:i<ts.length),∃v0 v1 v2:Value,ns[i*3]?=some v0/\ ns[i*3+1]?=some v1/\ ns[i*3+2]?=some v2/\ (ts[i]).InP (fun b=>B<=b/\ V.ownBlock≠some b) u (.agg #[v0,v1,v2]):=by
   rcases Nat.eq_zero_or_pos n with h0|h0
   · have e:ts=[]:=List.eq_nil_of_length_eq_zero (by rw[k.1];exact h0)
     subst e
     exact⟨[],rfl,fun j v h=>by simp at h,fun v h=>by simp at h,fun i h=>absurd h (by simp)⟩
   · obtain⟨b,off,e,hlt,ha⟩:=k.2.2 h0
     injection e with e
     subst e
     obtain⟨ns,l,h1,h2,h3⟩:=ha.cells
     exact⟨ns,l,fun j v hv=>by rw[Addr.add_lit];exact h1 j v hv,h2,h3⟩
  obtain⟨ns,nl,n1,n2,n3⟩:=hsrc
  obtain⟨V',u',hr,h1,hg1,_,hat⟩:=run_append_own_at (P:=Tryz.prog) (w:=u) B 28 ty 30 i0 _ 3 56 Tryz.underlying28 hi5 hz0 hz1 hz2 rfl (by decide) V ks.length xs hown ad n c ns (by rw[nl,k.1]) n1 n2 (by unfold maxLen;omega) (by omega) h.hi
  have hkeep:∀b,b<u.heap.size->V.ownBlock≠some b->u'.heap[b]?=u.heap[b]?:=fun b hb hne=>hg1.block b hb (fun e=>hne e.symm)
  have hlow:Below B u u':=⟨hg1.os,hg1.tape,hg1.output,hg1.size,fun x hx=>hkeep x (Nat.lt_of_lt_of_le hx h.hi) (fun e=>by have:=(h.lt e).1;omega)⟩
  have hAp:∀b,b<u.heap.size->(B<=b/\ V.ownBlock≠some b)->(B<=b/\ V'.ownBlock≠some b)/\ u'.heap[b]?=u.heap[b]?:=by
   intro b hb hp
   refine⟨⟨hp.1,?_⟩,hkeep b hb hp.2⟩
   rcases hat with h'|h'
   · rw[h']
     exact hp.2
   · rw[h']
     intro e
     injection e with e
     omega
  have hxl:xs.length=ks.length*3:=hown.1
  refine⟨V',u',hr,⟨Below.trans h.bel (Below.mono hlow h.lo),h.lo,Nat.le_trans h.hi hg1.size,xs++ns,by rw[List.length_append,k.1];exact h1,fun i hi=> ?_⟩,hg1.size,hlow,hkeep⟩
  rw[List.length_append]at hi
  rcases Nat.lt_or_ge i ks.length with hlt|hge
  · obtain⟨v0,v1,v2,e0,e1,e2,hin⟩:=hks i hlt
    refine⟨v0,v1,v2,?_,?_,?_,?_⟩
    · rw[List.getElem?_append_left (by omega)];exact e0
    · rw[List.getElem?_append_left (by omega)];exact e1
    · rw[List.getElem?_append_left (by omega)];exact e2
    · rw[List.getElem_append_left hlt]
      exact T.InP.keep hAp hg1.size _ hin
  · obtain⟨v0,v1,v2,e0,e1,e2,hin⟩:=n3 (i-ks.length) (by omega)
    refine⟨v0,v1,v2,?_,?_,?_,?_⟩
    · rw[List.getElem?_append_right (by omega),hxl,show i*3-ks.length*3=(i-ks.length)*3 by omega];exact e0
    · rw[List.getElem?_append_right (by omega),hxl,show i*3+1-ks.length*3=(i-ks.length)*3+1 by omega];exact e1
    · rw[List.getElem?_append_right (by omega),hxl,show i*3+2-ks.length*3=(i-ks.length)*3+2 by omega];exact e2
    · rw[List.getElem_append_right hge]
      exact T.InP.keep hAp hg1.size _ hin
theorem zeX {o:Oper} {a:Act} {K:Act->World->Prop} {Q:Exit->Act->World->Prop} {w u:World} {B:Nat} {V:Value} {ks ts:List T} {A:Option Addr} {n c:Nat} (h:KOut w B u V ks) (s x:Operand)
 (hop:o.op= .call {callee:= .builtin .append,args:=#[s,x],argTypes:=#[28,28]}) (hs:a.eval s=V) (hx:a.eval x= .slice A n c) (k:zlr (fun b=>B<=b/\ V.ownBlock≠some b) u A n c ts) (hl:ks.length+n<=100000)
 (hK:∀V' u',KOut w B u' V' (ks++ts)->u.heap.size<=u'.heap.size->Below B u u'->(∀x,x<u.heap.size->V.ownBlock≠some x->u'.heap[x]?=u.heap[x]?)->K (a.put o.dst V') u'):o.wp Tryz.prog a u K Q:=by
 obtain⟨V',u',hr,h1,h2,h3,h4⟩:=zmu h k hl o.type
 refine zh4 V' u' ?_ (hK V' u' h1 h2 h3 h4)
 unfold execOp
 simp only[hop,resolve,invoke,builtin,Sem.run_bind,Sem.run_pure,Result.andThen_ok,List.map_toArray,List.map_cons,List.map_nil,hs,hx,hr]
theorem zin {ops:Array Oper} {rest:List Oper} {a:Act} {Q:Exit->Act->World->Prop} {dst:Option Tmp} {t':TypeId} {pos:String} {aft:Array Edge} {w u:World} {B:Nat} {V:Value} {ks ts:List T} {A:Option Addr} {n c:Nat} (s x:Nat) (h:KOut w B u V ks) (hs:a.eval (.tmp s)=V) (hx:a.eval (.tmp x)= .slice A n c) (k:zlr (fun b=>B<=b/\ V.ownBlock≠some b) u A n c ts) (hl:ks.length+n<=100000)
 (hK:∀V' u',KOut w B u' V' (ks++ts)->u.heap.size<=u'.heap.size->Below B u u'->(∀x,x<u.heap.size->V.ownBlock≠some x->u'.heap[x]?=u.heap[x]?)->wpList Tryz.prog ops Q rest (a.put dst V') u'):
 wpList Tryz.prog ops Q ({dst:=dst,op:= .call {callee:= .builtin .append,args:=#[.tmp s,.tmp x],argTypes:=#[28,28]},type:=t',pos:=pos,after:=aft,guard:=none}::rest) a u:=
 wpList_plain rfl fun K hK2=>zeX h (.tmp s) (.tmp x) rfl hs hx k hl (fun V' u' h1 h2 h3 h4=>hK2 _ _ (hK V' u' h1 h2 h3 h4))
theorem zja (a0 a1 a2:Value):Tryz.prog.builtSlice 30 1 [(0,.agg #[a0,a1,a2])]=some #[a0,a1,a2]:=by kernel_rfl
theorem zo0 {ops:Array Oper} {rest:List Oper} {a:Act} {Q:Exit->Act->World->Prop} {dst:Option Tmp} {t':TypeId} {pos:String} {aft:Array Edge} {u:World} {P:Nat->Prop} {t:T} {a0 a1 a2:Value} (k:Nat) (h:t.InP P u (.agg #[a0,a1,a2])) (hx:a.eval (.tmp k)= .agg #[a0,a1,a2])
 (hK:∀H u',zlr P u' (some ⟨H,0,none⟩) 1 1 [t]->Below u.heap.size u u'->wpList Tryz.prog ops Q rest (a.put dst (.slice (some ⟨H,0,none⟩) 1 1)) u'):
 wpList Tryz.prog ops Q ({dst:=dst,op:= .buildSlice 28 1 #[(0,.tmp k)],type:=t',pos:=pos,after:=aft,guard:=none}::rest) a u:=by
 refine wpList_plain rfl fun K hK2=>zfO 28 30 1 #[(0,.tmp k)] rfl Tryz.underlying28 _ _ (zja a0 a1 a2) (by simp only[List.map_toArray,List.map_cons,List.map_nil,hx]) (hK2 _ _ (hK u.heap.size _ ⟨rfl,(fun e=>by cases e),fun _=>⟨_,0,rfl,by simp,T.InPAll.of fun i hi=> ?_⟩⟩ (zac _ _)))
 have hc:=fun j=>Blk.cell (Blk.new u 30 #[a0,a1,a2]) j
 have hb:=zac u (.cells #[a0,a1,a2] 30)
 obtain rfl:i=0:=by simp only[List.length_cons,List.length_nil]at hi;omega
 exact⟨_,_,_,hc 0,hc 1,hc 2,T.InP.below hb (fun _ h=>h) _ h⟩
def zb9 (t:Nat) (V:Value) (a b:World):Prop:=a.heap.size<=b.heap.size/\ ∀c,c<a.heap.size->c≠t->V.ownBlock≠some c->b.heap[c]?=a.heap[c]?
theorem zb9.refl (t:Nat) (V:Value) (a:World):zb9 t V a a:=⟨Nat.le_refl _,fun _ _ _ _=>rfl⟩
theorem zb9.trans {t:Nat} {V:Value} (a b c:World) (h:zb9 t V a b) (k:zb9 t V b c):zb9 t V a c:=⟨Nat.le_trans h.1 k.1,fun x h1 h2 h3=>(k.2 x (Nat.lt_of_lt_of_le h1 h.1) h2 h3).trans (h.2 x h1 h2 h3)⟩
theorem zb9.below {t:Nat} {V:Value} {a b:World} (h:Below a.heap.size a b):zb9 t V a b:=⟨h.size,fun x h1 _ _=>h.block x h1⟩
theorem zb9.cellS (t j:Nat) (V:Value) (a:World) (v:Value):zb9 t V a (a.setCell ⟨t,j,none⟩ v):=⟨by simp,fun x _ h2 _=>heap_setCell_other a ⟨t,j,none⟩ x v h2⟩
theorem zgj {P:Program} (w:World) (b o:Nat) (ty:TypeId) (v:Value) (ht:w.there b o 1) (hi:(P.info? ty).map (·.size)=some 1) (hv:v.cells=#[v]) (h1:v.oneCell'=true):(storeVar ty ⟨b,o,none⟩ v).run P w= .ok () (w.setCell ⟨b,o,none⟩ v):=by
 have:=run_storeCells_cells (P:=P) b o [v] 0 w (fun j hj=>by simpa using(ht j (by simpa using hj)).1) (fun j hj=>by simpa using(ht j (by simpa using hj)).2)
  (fun x hx=>by obtain rfl:x=v:=by simpa using hx
                exact h1)
 cases hq:P.info? ty with
 |none=>simp[hq]at hi
 |some i=>
  have hs:1=i.size:=by simp[hq]at hi;omega
  simp only[Nat.add_zero,World.setCells]at this
  simp[storeVar,sizeOf,typeInfo,hq,hv,<-hs,this]
theorem zj0 {o:Oper} {a:Act} {w:World} {K:Act->World->Prop} {Q:Exit->Act->World->Prop} (T:TypeId) (x y:Operand) (ho:o.op= .store T x y) (hdst:o.dst=none) (g j:Nat) (v:Value) {ty:TypeId} {cs:Array Value} (hx:a.eval x= .pointer (some ⟨g,j,none⟩)) (hy:a.eval y=v) (hb:Blk w g ty cs) (hj:j<cs.size)
 (hi:(Tryz.prog.info? T).map (·.size)=some 1) (hv:v.cells=#[v]) (h1:v.oneCell'=true) (hK:K a (w.setCell ⟨g,j,none⟩ v)):o.wp Tryz.prog a w K Q:=by
 have hth:w.there g j 1:=fun i hi=>⟨by
  rw[Blk.cell hb,Array.getElem?_eq_getElem (by omega)]
  rfl,Blk.free hb _⟩
 refine zoZ _ ?_ (by rw[hdst];exact hK)
 unfold execOp
 simp only[ho,hx,hy,Instr.storeAt,Instr.sureAddr,Sem.run_bind,Sem.run_pure,Result.andThen_ok,zgj (P:=Tryz.prog) w g j T v hth hi hv h1]
theorem zmv {o:Oper} {a:Act} {W:World} (x:Operand) (ho:o.op= .load 28 x) (g off:Nat) (v:Value) (hx:a.eval x= .pointer (some ⟨g,off,none⟩)) (hc:W.cell? ⟨g,off,none⟩=some v):(execOp a.eval o).run Tryz.prog W= .ok (.value v) W:=by
 have u3:=Tryz.underlying28
 unfold execOp
 simp only[ho,hx]
 go_simp
theorem zo1 {o:Oper} {a:Act} {K:Act->World->Prop} {Q:Exit->Act->World->Prop} {u:World} {P:Nat->Prop} {t:T} {a0 a1 a2:Value} (h:t.InP P u (.agg #[a0,a1,a2])) (parts:Array (Nat×Operand)) (ho:o.op= .buildSlice 28 1 parts)
 (hps:(parts.map fun(i,x)=>(i,a.eval x)).toList=[(0,.agg #[a0,a1,a2])]) (hK:∀H u',zlr P u' (some ⟨H,0,none⟩) 1 1 [t]->Below u.heap.size u u'->K (a.put o.dst (.slice (some ⟨H,0,none⟩) 1 1)) u'):o.wp Tryz.prog a u K Q:=by
 refine zfO 28 30 1 parts ho Tryz.underlying28 _ _ (zja a0 a1 a2) hps (hK u.heap.size _ ⟨rfl,(fun e=>by cases e),fun _=>⟨_,0,rfl,by simp,T.InPAll.of fun i hi=> ?_⟩⟩ (zac _ _))
 have hc:=fun j=>Blk.cell (Blk.new u 30 #[a0,a1,a2]) j
 have hb:=zac u (.cells #[a0,a1,a2] 30)
 obtain rfl:i=0:=by simp only[List.length_cons,List.length_nil]at hi;omega
 exact⟨_,_,_,hc 0,hc 1,hc 2,T.InP.below hb (fun _ h=>h) _ h⟩
def crlC (c:CrlZ) (a:Option Addr) (n ca:Nat):Array Value:=#[.string c.iss,.int .u32 c.num,.int .i64 c.fr,.int .i64 c.to,.slice a n ca]
structure zbj (w:World) (c:CrlZ) (a:Option Addr) (ca:Nat):Prop where
 row:zat w a c.ser.length c.ser
 num:0<=c.num/\ c.num<=4294967295
 nil:a=none->ca=0
theorem zbj.below {w w':World} {c:CrlZ} {a:Option Addr} {ca:Nat} (h:zbj w c a ca) (hb:Below w.heap.size w w'):zbj w' c a ca:=⟨h.row.below hb,h.num,h.nil⟩
theorem zbj.range {w:World} {c:CrlZ} {a:Option Addr} {ca:Nat} (h:zbj w c a ca):zfC c:=⟨h.num,h.row.2.1⟩
theorem zbj.zero (w:World):zbj w za8 none 0:=⟨zat.nil w none,by simp[za8],fun _=>rfl⟩
structure zbG (w W:World) (g:Nat) (c:CrlZ) (a:Option Addr) (ca:Nat):Prop where
 blk:Blk W g 25 (crlC c a c.ser.length ca)
 bel:Below w.heap.size w W
 has:zbj W c a ca
theorem zbG.go {w W W':World} {g:Nat} {c:CrlZ} {a:Option Addr} {ca:Nat} (h:zbG w W g c a ca) (hb:Below W.heap.size W W'):zbG w W' g c a ca:=⟨h.blk.below hb h.blk.lt,h.bel.trans (hb.mono h.bel.size),h.has.below hb⟩
theorem zbG.start {w:World} {c:CrlZ} {a:Option Addr} {ca:Nat} (h:zbj w c a ca):zbG w (w.alloc (.cells (crlC c a c.ser.length ca) 25)) w.heap.size c a ca:=
 ⟨Blk.new _ _ _,zac _ _,h.below (zac _ _)⟩
theorem zbG.cells {w W:World} {g:Nat} {c:CrlZ} {a:Option Addr} {ca:Nat} (h:zbG w W g c a ca):W.cell? ⟨g,0,none⟩=some (.string c.iss)/\ W.cell? ⟨g,1,none⟩=some (.int .u32 c.num)/\ W.cell? ⟨g,2,none⟩=some (.int .i64 c.fr)/\ W.cell? ⟨g,3,none⟩=some (.int .i64 c.to)/\ W.cell? ⟨g,4,none⟩=some (.slice a c.ser.length ca):=
 ⟨h.blk.cell 0,h.blk.cell 1,h.blk.cell 2,h.blk.cell 3,h.blk.cell 4⟩
def zbk (x:CrlZ×Int) (w:World) (e:Ending) (w':World):Prop:=∃a ca,e= .returned (.tuple #[.agg (crlC x.1 a x.1.ser.length ca),.int .i64 x.2])/\ zbj w' x.1 a ca/\ Below w.heap.size w w'
structure PB where
 g:Nat
 t:T
 A:Option Addr
 n:Nat
 c:Nat
 K:Option Addr
 m:Nat
 d:Nat
def PB.v (p:PB):Value:= .agg #[.int .i64 p.t.tag,.slice p.A p.n p.c,.slice p.K p.m p.d]
structure zcT (lo G:Nat) (W:World) (p:PB):Prop where
 lw:lo<p.g
 lt:p.g<G
 blk:Blk W p.g 30 #[.int .i64 p.t.tag,.slice p.A p.n p.c,.slice p.K p.m p.d]
 has:p.t.InP (fun b=>lo<b/\ b<G) W p.v
theorem zcT.go {lo G B:Nat} {W W':World} {p:PB} (h:zcT lo G W p) (hG:G<=B) (hb:Below B W W'):zcT lo G W' p:=
 ⟨h.lw,h.lt,(hb.block p.g (by have:=h.lt;omega)).trans h.blk,T.InP.keep (fun b _ hp=>⟨hp,hb.block b (by omega)⟩) hb.size _ h.has⟩
theorem zcT.up {lo G G':Nat} {W:World} {p:PB} (h:zcT lo G W p) (hG:G<=G'):zcT lo G' W p:=
 ⟨h.lw,Nat.lt_of_lt_of_le h.lt hG,h.blk,T.InP.keep (fun b _ hp=>⟨⟨hp.1,by omega⟩,rfl⟩) (Nat.le_refl _) _ h.has⟩
theorem zcT.new {lo:Nat} {W2 W3:World} {t:T} {A:Option Addr} {n c:Nat} {K:Option Addr} {m d:Nat} (hin:t.InP (W2.heap.size<= ·) W3 (.agg #[.int .i64 t.tag,.slice A n c,.slice K m d])) (hlo:lo<W2.heap.size) (hle:W2.heap.size<=W3.heap.size):
 zcT lo (W3.heap.size+1) (W3.alloc (.cells #[.int .i64 t.tag,.slice A n c,.slice K m d] 30)) ⟨W3.heap.size,t,A,n,c,K,m,d⟩:=
 ⟨Nat.lt_of_lt_of_le hlo hle,Nat.lt_succ_self _,Blk.new _ _ _,T.InP.keep (fun b hb hp=>⟨⟨Nat.lt_of_lt_of_le hlo hp,by omega⟩,(zac _ _).block b hb⟩) (zac _ _).size _ hin⟩
theorem zcT.cells {lo G:Nat} {W:World} {p:PB} (h:zcT lo G W p):W.cell? ⟨p.g,0,none⟩=some (.int .i64 p.t.tag)/\ W.cell? ⟨p.g,1,none⟩=some (.slice p.A p.n p.c)/\ W.cell? ⟨p.g,2,none⟩=some (.slice p.K p.m p.d):=
 ⟨h.blk.cell 0,h.blk.cell 1,h.blk.cell 2⟩
theorem zrI {P:Nat->Prop} {W:World} {g:Nat} {ty:TypeId} {t0 t1 t2 t3:T} {a0 a1 a2 b0 b1 b2 c0 c1 c2 d0 d1 d2:Value} (hb:Blk W g ty #[a0,a1,a2,b0,b1,b2,c0,c1,c2,d0,d1,d2]) (hg:P g) (h0:t0.InP P W (.agg #[a0,a1,a2])) (h1:t1.InP P W (.agg #[b0,b1,b2])) (h2:t2.InP P W (.agg #[c0,c1,c2])) (h3:t3.InP P W (.agg #[d0,d1,d2])):zcM P W (some ⟨g,0,none⟩) 4 4 [t0,t1,t2,t3]:=by
 refine⟨rfl,⟨by unfold maxLen;omega,Nat.le_refl _⟩,fun _=>⟨g,0,rfl,hb.lt,hg,?_⟩⟩
 unfold T.InPAll T.InPAll T.InPAll T.InPAll T.InPAll
 exact⟨⟨a0,a1,a2,hb.cell 0,hb.cell 1,hb.cell 2,h0⟩,⟨b0,b1,b2,hb.cell 3,hb.cell 4,hb.cell 5,h1⟩,⟨c0,c1,c2,hb.cell 6,hb.cell 7,hb.cell 8,h2⟩,⟨d0,d1,d2,hb.cell 9,hb.cell 10,hb.cell 11,h3⟩,trivial⟩
theorem zj1 {P:Nat->Prop} {w:World} {t0 t1:T} {a0 a1 a2 b0 b1 b2:Value} (h0:t0.InP P w (.agg #[a0,a1,a2])) (h1:t1.InP P w (.agg #[b0,b1,b2])) (hg:P w.heap.size):
 zcM P (w.alloc (.cells #[a0,a1,a2,b0,b1,b2] 30)) (some ⟨w.heap.size,0,none⟩) 2 2 [t0,t1]/\ Below w.heap.size w (w.alloc (.cells #[a0,a1,a2,b0,b1,b2] 30)):=
 have hb:=zac w (.cells #[a0,a1,a2,b0,b1,b2] 30)
 ⟨zjR (Blk.new _ _ _) hg (T.InP.below hb (fun _ h=>h) _ h0) (T.InP.below hb (fun _ h=>h) _ h1),hb⟩
theorem zh5 {P:Nat->Prop} {w:World} {t0 t1 t2 t3:T} {a0 a1 a2 b0 b1 b2 c0 c1 c2 d0 d1 d2:Value} (h0:t0.InP P w (.agg #[a0,a1,a2])) (h1:t1.InP P w (.agg #[b0,b1,b2])) (h2:t2.InP P w (.agg #[c0,c1,c2])) (h3:t3.InP P w (.agg #[d0,d1,d2])) (hg:P w.heap.size):
 zcM P (w.alloc (.cells #[a0,a1,a2,b0,b1,b2,c0,c1,c2,d0,d1,d2] 30)) (some ⟨w.heap.size,0,none⟩) 4 4 [t0,t1,t2,t3]/\ Below w.heap.size w (w.alloc (.cells #[a0,a1,a2,b0,b1,b2,c0,c1,c2,d0,d1,d2] 30)):=
 have hb:=zac w (.cells #[a0,a1,a2,b0,b1,b2,c0,c1,c2,d0,d1,d2] 30)
 ⟨zrI (Blk.new _ _ _) hg (T.InP.below hb (fun _ h=>h) _ h0) (T.InP.below hb (fun _ h=>h) _ h1) (T.InP.below hb (fun _ h=>h) _ h2) (T.InP.below hb (fun _ h=>h) _ h3),hb⟩
theorem zb9.cell {t g j:Nat} {V v:Value} {a W:World} (hW:zb9 t V a W) (hlt:g<a.heap.size) (hne:g≠t) (hv:V.ownBlock≠some g) (h:a.cell? ⟨g,j,none⟩=some v):W.cell? ⟨g,j,none⟩=some v:=by
 have e:=hW.2 g hlt hne hv
 rw[<-h]
 simp only[World.cell?,e]
theorem zd1 {x:Int} (h:0<=x/\ x<=4294967295):IntKind.u64.wrap x=x:=by rw[IntKind.wrap_u64];omega
theorem zcO {w W:World} {tmps:Array Value} {fn:Func} {p u:Tmp} {g:Nat} {x y:T×Int} {v0 v1 v2:Value} {A:Option Addr} {n c:Nat} {K:Option Addr} {m d:Nat} (hxy:y=x) (hf:fn.results=#[.cell p 30,.tmp u]) (hp:tmps.getD p undef= .pointer (some ⟨g,0,none⟩)) (hu:tmps.getD u undef= .int .i64 x.2) (hblk:Blk W g 30 #[v0,v1,v2]) (hg:w.heap.size<=g) (hb:Below w.heap.size w W) (hin:x.1.InP (fun b=>w.heap.size<=b/\ b≠g) W (.agg #[.int .i64 x.1.tag,.slice A n c,.slice K m d])):
 bodyPost Tryz.prog fn (zaQ y w) .ret {tmps:=tmps,defers:=[]} (((W.setCell ⟨g,0,none⟩ (.int .i64 x.1.tag)).setCell ⟨g,1,none⟩ (.slice A n c)).setCell ⟨g,2,none⟩ (.slice K m d)):=by
 subst hxy
 have h1:=((hblk.set 0 (.int .i64 y.1.tag)).set 1 (.slice A n c)).set 2 (.slice K m d)
 have h2:=hb.trans (zc6 (B:=w.heap.size) W hg (.int .i64 y.1.tag) (.slice A n c) (.slice K m d))
 have h:=zcq (P:=Tryz.prog) hf tmps _ g 30 _ (0,0) _ hp h1 Tryz.underlying30 rfl Tryz.sizeNode3
 rw[hu]at h
 have G:=zcl g W (.int .i64 y.1.tag) (.slice A n c) (.slice K m d)
 exact bodyPost_ret h rfl ⟨A,n,c,K,m,d,rfl,T.InP.below (w:=_) (Below.refl _ _) (fun b (hb:w.heap.size<=b/\ b≠g)=>hb.1) _ (hin.grownP (fun b hb=>hb.2) G),h2⟩
end Go.Proofs.YtpgahclpbdpbnaaGreatDoor
