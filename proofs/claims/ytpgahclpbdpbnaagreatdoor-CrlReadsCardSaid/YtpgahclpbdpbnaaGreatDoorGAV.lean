import Derived.Test.YtpgahclpbdpbnaaGreatDoorGAU
import Derived.Test.YtpgahclpbdpbnaaGreatDoorGAE
import Derived.Test.YtpgahclpbdpbnaaGreatDoorGAP
import Derived.Test.YtpgahclpbdpbnaaGreatDoorGAG
import Derived.Deep.Cut
import Derived.WalkMore
import Derived.Test.YtpgahclpbdpbnaaGreatDoorGAT
set_option maxHeartbeats 4000000
set_option maxRecDepth 100000
namespace Go.Proofs.YtpgahclpbdpbnaaGreatDoor
open Go.RowKit
set_option linter.unusedVariables false
set_option linter.unusedSimpArgs false
def zgV (x:CrlZ×Bool) (w:World) (e:Ending) (w':World):Prop:=∃a ca,e= .returned (.tuple #[.agg (crlC x.1 a x.1.ser.length ca),.bool x.2])/\ zbj w' x.1 a ca/\ (∀b off,a=some ⟨b,off,none⟩->w.heap.size<b)/\ Below w.heap.size w w'
theorem zvM {t:T} (h:¬t.kids.length=4):ofC t=(za8,false):=by
 unfold ofC
 split
 · rename_i a b c d hk
   rw[hk]at h
   exact absurd rfl h
 · rfl
theorem ztG {t k0 k1 k2 k3:T} (hk:t.kids=[k0,k1,k2,k3]) (h:¬k2.kids.length=2):ofC t=(za8,false):=by
 unfold ofC
 rw[hk]
 simp only
 split
 · rename_i e f he
   rw[he]at h
   exact absurd rfl h
 · rfl
theorem zvN {t k0 k1 k2 k3 e f:T} (hk:t.kids=[k0,k1,k2,k3]) (h2:k2.kids=[e,f]):ofC t=(⟨(za1 k0).1,(zaC k1).1%4294967296,(whenZ e).1,(whenZ f).1,k3.kids.map fun k=>(zaC k).1%4294967296⟩,
 decide ((za1 k0).2=0/\ (zaC k1).2=0/\ (whenZ e).2=0/\ (whenZ f).2=0/\ ∀k∈k3.kids,(zaC k).2=0)):=by
 unfold ofC
 rw[hk]
 simp only[h2]
theorem zls {l:List T} (h:l.length=4):∃a b c d,l=[a,b,c,d]:=by
 rcases l with _|⟨a,_|⟨b,_|⟨c,_|⟨d,_|⟨e,r⟩⟩⟩⟩⟩
 · simp at h
 · simp at h
 · simp at h
 · simp at h
 · exact⟨a,b,c,d,rfl⟩
 · simp at h
theorem znQ {l:List T} (h:l.length=2):∃a b,l=[a,b]:=by
 rcases l with _|⟨a,_|⟨b,_|⟨e,r⟩⟩⟩
 · simp at h
 · simp at h
 · exact⟨a,b,rfl⟩
 · simp at h
theorem zdE {P:Nat->Prop} {W:World} {t k:T} {z x:Value} {b off m d i:Nat} (h:t.InP P W (.agg #[z,x,.slice (some ⟨b,off,none⟩) m d])) (hi:i<m) (hk:t.kids[i]?=some k):∃(A:Option Addr) (n c:Nat) (K:Option Addr) (m' d':Nat),
 W.cell? ⟨b,off+i*3,none⟩=some (.int .i64 k.tag)/\ W.cell? ⟨b,off+i*3+1,none⟩=some (.slice A n c)/\ W.cell? ⟨b,off+i*3+2,none⟩=some (.slice K m' d')/\ k.InP P W (.agg #[.int .i64 k.tag,.slice A n c,.slice K m' d'])/\ k.kids.length=m'/\ (0<m'->∃b2 off2,K=some ⟨b2,off2,none⟩):=by
 obtain⟨A0,n0,c0,K0,m0,d0,e⟩:=h.form
 simp only[Value.agg.injEq]at e
 have e':=congrArg Array.toList e
 simp only[List.cons.injEq,and_true]at e'
 obtain⟨rfl,rfl,e2⟩:=e'
 obtain⟨y,b',off',z',A,n,c,K,m',d',he,heq,q0,q1,q2,hin⟩:=h.kidsP.kid i hi
 rw[hk]at he
 obtain rfl:=Option.some.inj he
 obtain⟨rfl,rfl⟩:b=b'/\ off=off':=by simpa using heq
 obtain rfl:=zh0 hin
 refine⟨A,n,c,K,m',d',q0,q1,q2,hin,hin.kidsP.1,fun h0=> ?_⟩
 obtain⟨_,b2,o2,_,_,_,_,_,_,_,_,e3,_⟩:=hin.kidsP.kid 0 h0
 exact⟨b2,o2,e3⟩
structure OfAt (w W:World) (t:T) (A:Option Addr) (nb cb:Nat) (K:Option Addr) (m d:Nat):Prop where
 bx:Blk W w.heap.size 30 #[.int .i64 t.tag,.slice A nb cb,.slice K m d]
 rs:Blk W (w.heap.size+1) 25 #[.string ⟨#[]⟩,.int .u32 0,.int .i64 0,.int .i64 0,.slice none 0 0]
 bel:Below w.heap.size w W
 has:t.InP (· <w.heap.size) W (.agg #[.int .i64 t.tag,.slice A nb cb,.slice K m d])
theorem OfAt.on {w W W':World} {t:T} {A:Option Addr} {nb cb:Nat} {K:Option Addr} {m d B:Nat} (h:OfAt w W t A nb cb K m d) (hB:w.heap.size+1<B) (hb:Below B W W'):OfAt w W' t A nb cb K m d:=
 ⟨(hb.block _ (by omega)).trans h.bx,(hb.block _ (by omega)).trans h.rs,h.bel.trans (hb.mono (by omega)),T.InP.keep (fun b _ (hp:b<w.heap.size)=>⟨hp,hb.block b (by omega)⟩) hb.size _ h.has⟩
theorem OfAt.go {w W W':World} {t:T} {A:Option Addr} {nb cb:Nat} {K:Option Addr} {m d:Nat} (h:OfAt w W t A nb cb K m d) (hb:Below W.heap.size W W'):OfAt w W' t A nb cb K m d:=h.on h.rs.lt hb
def zfe (B:Nat) (u:World) (V:Value) (L:List Int):Prop:=u.ownsRow B 22 1 V L.length (L.map (Value.int .u32))
theorem zfe.over {B:Nat} {u u':World} {V:Value} {L:List Int} (h:zfe B u V L) (ho:Over B u u'):zfe B u' V L:=by
 refine⟨h.1,?_⟩
 rcases h.2 with h'|⟨g,cap,cur,e,a1,a2,a3⟩
 · exact .inl h'
 · exact .inr ⟨g,cap,cur,e,a1,(ho.2 g a1 (Array.getElem?_eq_some_iff.1 a2).1).trans a2,a3⟩
theorem zfe.form {B:Nat} {u:World} {V:Value} {L:List Int} (h:zfe B u V L) (h0:0<L.length):∃g c,V= .slice (some ⟨g,0,none⟩) L.length c/\ B<=g:=by
 rcases h.2 with⟨_,h'⟩|⟨g,cap,cur,e,a1,_⟩
 · omega
 · exact⟨g,cap,e,a1⟩
theorem zfe.row {B:Nat} {u:World} {aV:Option Addr} {n cV:Nat} {L:List Int} (h:zfe B u (.slice aV n cV) L) (hL:∀x∈L,0<=x/\ x<=4294967295) (hn:L.length=n):zat u aV n L/\ (aV=none->cV=0)/\ ∀b off,aV=some ⟨b,off,none⟩->B<=b:=by
 subst hn
 have h':=h
 rcases h.2 with⟨e,h0⟩|⟨g,cap,cur,e,a1,_⟩
 · injection e with e1 e2 e3
   subst e1
   have hl:L=[]:=List.eq_nil_of_length_eq_zero h0
   subst hl
   exact⟨zat.nil _ _,fun _=>e3,fun b off e=>by cases e⟩
 · injection e with e1 e2 e3
   subst e1
   refine⟨zat.of_own h' hL,fun e=>(by cases e),fun b off e=> ?_⟩
   injection e with e
   injection e with e
   omega
theorem zgv {ops:Array Oper} {rest:List Oper} {o:Oper} {a:Act} {Q:Exit->Act->World->Prop} {B:Nat} {w:World} {V:Value} {L:List Int} {z:Int} {ad:Addr} {n:Nat} (hn:L.length=n) (hgd:o.guard=none) (s x:Operand)
 (hop:o.op= .call {callee:= .builtin .append,args:=#[s,x],argTypes:=#[23,23]}) (hs:a.eval s=V) (hout:zfe B w V L) (hB:B<=w.heap.size) (hx:a.eval x= .slice (some ad) 1 1) (hr:zat w (some ad) 1 [z]) (hl:n+1<=1000000)
 (h:∀g c w',zfe B w' (.slice (some ⟨g,0,none⟩) (n+1) c) (L++[z])->B<=g->Below B w w'->wpList Tryz.prog ops Q rest (a.put o.dst (.slice (some ⟨g,0,none⟩) (n+1) c)) w'):wpList Tryz.prog ops Q (o::rest) a w:=by
 subst hn
 obtain⟨i0,hi5,hz0,hz1,hz2⟩:=info_parts Tryz.info32
 refine wpList_append_own _ hgd s x 23 hop B 22 i0 (.int .u32 0) 1 4 Tryz.underlying23 hi5 hz0 hz1 hz2 rfl (by decide) V L.length (L.map (Value.int .u32)) hs hout ad 1 1 ([z].map (Value.int .u32)) hx (by simp) hr.cells ?_ (by unfold maxLen;omega) (by omega) hB ?_
 · intro u hu
   obtain⟨_,_,rfl⟩:=List.mem_map.1 hu
   rfl
 · intro V' w' hown hg _
   have hO:zfe B w' V' (L++[z]):=by
    unfold zfe
    rw[List.length_append,List.map_append]
    exact hown
   obtain⟨g,c,e,hg2⟩:=hO.form (by simp)
   rw[List.length_append]at e
   subst e
   exact h g c w' hO hg2 ((Below.refl _ _).grown hg hB (fun k hk=>(hout.lt k hk).1))
theorem Tryz.sizeCrl (a b c d e:Value):(Tryz.prog.info? 25).map (·.size)=some (#[a,b,c,d,e]:Array Value).size:=by kernel_rfl
theorem zbj.grown {w w':World} {c:CrlZ} {a:Option Addr} {ca g:Nat} (h:zbj w c a ca) (hG:w.grownBy w' (some g)) (hne:∀b off,a=some ⟨b,off,none⟩->b≠g):zbj w' c a ca:=by
 refine⟨⟨h.row.1,h.row.2.1,fun h0=> ?_⟩,h.num,h.nil⟩
 obtain⟨b,off,e,hb,hc⟩:=h.row.2.2 h0
 exact⟨b,off,e,Nat.lt_of_lt_of_le hb hG.size,fun i hi=>hG.cell (hc i hi) (by intro e2;exact hne b off e (by simpa using e2))⟩
theorem zdF {w W:World} {tmps:Array Value} {fn:Func} {p u:Tmp} {g:Nat} {x:CrlZ} {bv v0 v1 v2 v3 v4:Value} {a:Option Addr} {ca:Nat} {R:Ending->World->Prop} (hf:fn.results=#[.cell p 25,.tmp u]) (hp:tmps.getD p undef= .pointer (some ⟨g,0,none⟩)) (hu:tmps.getD u undef=bv) (hblk:Blk W g 25 #[v0,v1,v2,v3,v4]) (hg:w.heap.size<=g) (hb:Below w.heap.size w W) (hat:zbj W x a ca) (hne:∀b off,a=some ⟨b,off,none⟩->b≠g)
 (hR:∀W',zbj W' x a ca->Below w.heap.size w W'->R (.returned (.tuple #[.agg (crlC x a x.ser.length ca),bv])) W'):
 bodyPost Tryz.prog fn R .ret {tmps:=tmps,defers:=[]} (((((W.setCell ⟨g,0,none⟩ (.string x.iss)).setCell ⟨g,1,none⟩ (.int .u32 x.num)).setCell ⟨g,2,none⟩ (.int .i64 x.fr)).setCell ⟨g,3,none⟩ (.int .i64 x.to)).setCell ⟨g,4,none⟩ (.slice a x.ser.length ca)):=by
 have h1:=((((hblk.set 0 (.string x.iss)).set 1 (.int .u32 x.num)).set 2 (.int .i64 x.fr)).set 3 (.int .i64 x.to)).set 4 (.slice a x.ser.length ca)
 have G:=zdC g W (.string x.iss) (.int .u32 x.num) (.int .i64 x.fr) (.int .i64 x.to) (.slice a x.ser.length ca)
 have h:=zcq (P:=Tryz.prog) hf tmps _ g 25 _ (0,0) _ hp h1 Tryz.underlying25 rfl (Tryz.sizeCrl _ _ _ _ _)
 rw[hu]at h
 refine bodyPost_ret h rfl (hR _ (hat.grown G hne) ?_)
 exact((((hb.setCell (p:=⟨g,0,none⟩) hg _).setCell (p:=⟨g,1,none⟩) hg _).setCell (p:=⟨g,2,none⟩) hg _).setCell (p:=⟨g,3,none⟩) hg _).setCell (p:=⟨g,4,none⟩) hg _
theorem zaV {w W:World} {tmps:Array Value} {fn:Func} {p u:Tmp} {g:Nat} {bv v0 v1 v2 v3 v4:Value} {R:Ending->World->Prop} (hf:fn.results=#[.cell p 25,.tmp u]) (hp:tmps.getD p undef= .pointer (some ⟨g,0,none⟩)) (hu:tmps.getD u undef=bv) (hblk:Blk W g 25 #[v0,v1,v2,v3,v4]) (hg:w.heap.size<=g) (hb:Below w.heap.size w W)
 (hR:∀W',zbj W' za8 none 0->Below w.heap.size w W'->R (.returned (.tuple #[.agg #[.string ⟨#[]⟩,.int .u32 0,.int .i64 0,.int .i64 0,.slice none 0 0],bv])) W'):
 bodyPost Tryz.prog fn R .ret {tmps:=tmps,defers:=[]} (((((W.setCell ⟨g,0,none⟩ (.string ⟨#[]⟩)).setCell ⟨g,1,none⟩ (.int .u32 0)).setCell ⟨g,2,none⟩ (.int .i64 0)).setCell ⟨g,3,none⟩ (.int .i64 0)).setCell ⟨g,4,none⟩ (.slice none 0 0)):=
 zdF (x:=za8) (a:=none) (ca:=0) (R:=R) hf hp hu hblk hg hb (zbj.zero _) (fun _ _ e=>by cases e) hR
def zfP (s:ByteArray) (k:Nat):Prop:=32<=nth s k/\ nth s k<=126
instance (s:ByteArray) (k:Nat):Decidable (zfP s k):=by unfold zfP;infer_instance
theorem zj2 (s:ByteArray) (w:World) (hs:s.size<=1000000):Calls Tryz.prog 44 #[.string s] w fun e w'=>e= .returned (.bool (decide (∀k,k<s.size->zfP s k)))/\ w'=w:=by
 go_enter Tryz.func44,Tryz.ntmps44
 go_wp2_with fail
 go_loopw [6] (fun i wr=>∃k:Nat,k<=s.size/\ i= .int .i64 (k:Int)/\ wr=w/\ ∀j,j<k->zfP s j) (fun i _=>s.size-(intOf i).toNat)
 case atStart=>exact⟨0,by omega,rfl,rfl,fun j hj=>by omega⟩
 case round=>
  obtain⟨k,hk,rfl,rfl,hf⟩:=hrel
  have HF:=zwd hf
  clear hf
  by_cases hlt:k<s.size
  · have hi:=zd3 s k hlt _ rfl
    by_cases hp:zfP s k
    · have N:Hid (∀j,j<k+1->zfP s j):=fun j hj=>by
       rcases Nat.lt_or_ge j k with h|h
       · exact HF.out j h
       · obtain rfl:j=k:=by omega
         exact hp
      obtain⟨f2,f3⟩:=hp
      generalize nth s k=x at hi f2 f3
      clear HF
      go_wp2_with fail
      go_roundw
      case rel=>exact⟨k+1,by omega,by go_num,trivial,N.out⟩
      case measure=>simp[intOf];omega
    · have F:Hid (decide (∀k,k<s.size->zfP s k)=false):=decide_eq_false (fun h=>hp (h k hlt))
      unfold zfP at hp
      have hx:=zfj s k
      generalize nth s k=x at hi hp hx
      clear HF
      by_cases b1:32<=x
      · have b2:¬x<=126:=by omega
        clear hp
        go_wp2_with fail
        go_ret
        exact⟨zaj F.out.symm,rfl⟩
      · clear hp
        go_wp2_with fail
        go_ret
        exact⟨zaj F.out.symm,rfl⟩
  · obtain rfl:k=s.size:=by omega
    have F:Hid (decide (∀k,k<s.size->zfP s k)=true):=decide_eq_true HF.out
    clear HF
    go_wp2_with fail
    go_ret
    exact⟨zaj F.out.symm,rfl⟩
theorem zvb (s:ByteArray):(∀k,k<s.size->Fair s k)↔(s.size<=200/\ ∀k,k<s.size->zfP s k):=by
 unfold Fair zfP
 constructor
 · intro h
   refine⟨?_,fun k hk=>(h k hk).2⟩
   rcases Nat.eq_zero_or_pos s.size with h0|h0
   · omega
   · exact(h 0 h0).1
 · rintro⟨h1,h2⟩ k hk
   exact⟨h1,h2 k hk⟩
theorem text_any (s:ByteArray) (w:World) (hs:s.size<=1000000):Calls Tryz.prog 22 #[.string s] w (zaQ (zaX s) w):=by
 have S0:=zwd (RB.start w)
 have RN:=zwd (Row.nil (w.alloc (.cells #[.int .i64 0,.slice none 0 0,.slice none 0 0] 30)))
 have TI:=zwd (zvb s)
 go_enter Tryz.func22,Tryz.ntmps22
 by_cases h2:200<s.size
 · have F:Hid (zaX s=(.node 0 [] [],1)):=if_neg (fun h=>by have:=(TI.out.1 h).1;omega)
   go_wp2_with fail
   exact zbp (zs:=[]) (c:=0) F.out rfl rfl rfl S0.out.box S0.out.below (RN.out _) (fun h=>absurd h (by simp)) ⟨fun _=>rfl,Nat.le_refl _⟩ rfl (by simp)
 have CP:=zwd (zj2 s (w.alloc (.cells #[.int .i64 0,.slice none 0 0,.slice none 0 0] 30)) hs)
 go_wp2_with fail
 refine CP.out.mono ?_
 rintro e w1 ⟨rfl,rfl⟩
 clear CP
 by_cases hp:∀k,k<s.size->zfP s k
 rotate_left
 · have F:Hid (zaX s=(.node 0 [] [],1)):=if_neg (fun h=>hp (TI.out.1 h).2)
   have t0:decide (∀k,k<s.size->zfP s k)=false:=decide_eq_false hp
   rw[t0]
   clear t0 hp TI
   go_wp2_with fail
   exact zbp (zs:=[]) (c:=0) F.out rfl rfl rfl S0.out.box S0.out.below (RN.out _) (fun h=>absurd h (by simp)) ⟨fun _=>rfl,Nat.le_refl _⟩ rfl (by simp)
 have F:Hid (zaX s=(.node 22 (zae s) [],0)):=if_pos (TI.out.2 ⟨by omega,hp⟩)
 have t0:decide (∀k,k<s.size->zfP s k)=true:=decide_eq_true hp
 rw[t0]
 clear t0 hp TI RN
 generalize w.alloc (.cells #[.int .i64 0,.slice none 0 0,.slice none 0 0] 30)=w0 at*
 obtain⟨cap,W1,hrun,hrow,hb1,hcap⟩:=Clk.bytes_of s w0
 have S1:=zwd (S0.out.go hb1)
 have R1:=zwd hrow
 obtain⟨p0,p1,p2,q0,q1,q2⟩:=S1.out.box.six
 have hlt0:w.heap.size<w0.heap.size:=S0.out.box.lt
 have NL:=zaK s
 clear hrow hb1
 go_wp2_with fail
 rw[<-NL]
 exact zah (zs:=zae s) (c:=cap) F.out rfl rfl rfl S1.out (by rw[NL];exact R1.out) (fun _=>⟨_,_,rfl,hlt0⟩) ⟨fun e=>(by cases e),by rw[NL];exact hcap⟩ rfl (by omega)
theorem zrJ (s:ByteArray):(zaX s).1.kids=[]:=by
 unfold zaX
 split<;>rfl
theorem zrK (S:ByteArray) (ok:Bool):(zb4 S ok).1.kids=[]:=by
 unfold zb4
 split<;>rfl
theorem ztH (t:T):za1 t=if okE (zaX (strOfNums t.body)) t=true then(strOfNums t.body,0)else(⟨#[]⟩,2):=by
 unfold za1 okE
 by_cases h:(zaX (strOfNums t.body)).2=0/\ zaW (zaX (strOfNums t.body)).1 t=true
 · rw[if_pos h,if_pos (decide_eq_true h)]
 · rw[if_neg h,if_neg (by rw[decide_eq_false h];simp)]
theorem zrL (t:T) (v:Value) (w:World) (hin:t.In w v) (hwt:t.body.length<=30000):Calls Tryz.prog 95 #[v] w (zcY (za1 t) w):=by
 obtain⟨A,n,c,K,m,d,rfl,hw,hr,hn,hc,hm,hm',hks⟩:=hin.open
 have B2:=zwd (Box.start hin)
 have hcv:=zbx c (hr.below B2.out.below)
 have GZ:=zwd (ztH t)
 have KX:=zwd (zrJ (strOfNums t.body))
 have hsz:(strOfNums t.body).size<=1000000:=by rw[strOfNums_size];omega
 obtain⟨g0,g1,g2⟩:=B2.out.cells
 clear hr hks hc hin hm hm' hw hn hwt
 generalize strOfNums t.body=S at*
 go_enter Tryz.func95,Tryz.ntmps95
 generalize hw2:w.alloc (.cells #[.int .i64 t.tag,.slice A n c,.slice K m d] 30)=w2 at*
 have CX:=zwd (zle t _ w2 (zaX S) S KX.out B2.out.has (fun W hW=>(text_any S W hsz).mono fun e w' h=>h.has))
 go_wp2_with fail
 refine CX.out.mono ?_
 intro e w4 h4
 clear CX
 rcases h4.ways with⟨hok,rfl,hb4⟩|⟨hok,rfl,hb4⟩
 · have F:Hid (za1 t=(S,0)):=by rw[GZ.out,if_pos hok];exact zwd rfl
   have B4:=zwd (Below.step B2.out.below hb4)
   clear hok hb4 h4 GZ hw2
   go_wp2_with fail
   go_ret2
   exact zcY.of F.out B4.out
 · have F:Hid (za1 t=(⟨#[]⟩,2)):=by rw[GZ.out,if_neg (by rw[hok];simp)];exact zwd rfl
   have B4:=zwd (Below.step B2.out.below hb4)
   clear hok hb4 h4 GZ hw2
   go_wp2_with fail
   go_ret2
   exact zcY.of F.out B4.out
theorem zeq (s:Int) (w:World):Calls Tryz.prog 23 #[.int .i64 s] w (zb5 s w):=by
 have S0:=zwd (RB.start w)
 go_enter Tryz.func23,Tryz.ntmps23
 go_wp2_with fail
 generalize hw0:w.alloc (.cells #[.int .i64 0,.slice none 0 0,.slice none 0 0] 30)=w0 at*
 clear hw0
 refine(Clk.text_any s w0).mono ?_
 rintro e w1 ⟨S,ok,hR,rfl,hb⟩
 have S1:=zwd (S0.out.go hb)
 have hsz:=zkN hR
 have TR:=zwd hR
 clear hR hb S0
 cases ok
 · have F:Hid (zb4 S false=(.node 0 [] [],1)):=rfl
   have RN:=zwd (Row.nil w1)
   obtain⟨p0,p1,p2,q0,q1,q2⟩:=S1.out.box.six
   go_wp2_with fail
   exact zb5.post TR.out (zah (zs:=[]) (c:=0) F.out rfl rfl rfl S1.out (RN.out _) (fun h=>absurd h (by simp)) ⟨fun _=>rfl,Nat.le_refl _⟩ rfl (by simp))
 · obtain⟨cap,W1,hrun,hrow,hb1,hcap⟩:=Clk.bytes_of S w1
   have S2:=zwd (S1.out.go hb1)
   have R2:=zwd hrow
   obtain⟨p0,p1,p2,q0,q1,q2⟩:=S2.out.box.six
   have hlt0:w.heap.size<w1.heap.size:=S1.out.box.lt
   have NL:=zaK S
   clear hrow hb1
   by_cases h13:S.size=13
   · have F:Hid (zb4 S true=(.node 23 (zae S) [],0)):=by simp[Hid,zb4,h13]
     have t1:((S.size:Int)==13)=true:=by simp;omega
     go_wp2_with fail
     rw[show(13:Nat)=(zae S).length by omega]
     exact zb5.post TR.out (zah (zs:=zae S) (c:=cap) F.out rfl rfl rfl S2.out (by rw[NL];exact R2.out) (fun _=>⟨_,_,rfl,hlt0⟩) ⟨fun e=>(by cases e),by rw[NL];exact hcap⟩ rfl (by omega))
   · have F:Hid (zb4 S true=(.node 24 (zae S) [],0)):=by simp[Hid,zb4,h13]
     have t1:((S.size:Int)==13)=false:=by simp;omega
     go_wp2_with fail
     rw[<-NL]
     exact zb5.post TR.out (zah (zs:=zae S) (c:=cap) F.out rfl rfl rfl S2.out (by rw[NL];exact R2.out) (fun _=>⟨_,_,rfl,hlt0⟩) ⟨fun e=>(by cases e),by rw[NL];exact hcap⟩ rfl (by omega))
theorem ztI {R:Option Clk.D6} (h:Clk.readB R=false):Clk.readV R=0:=by
 cases R with
 |none=>rfl
 |some a=>
  have hk:Clk.okB a=false:=h
  show Clk.secsR a=0
  unfold Clk.secsR
  rw[hk]
  rfl
theorem zrM:∃S,Clk.TextR 0 S true:=by
 have hd:Clk.IsDate 0 ⟨1970,1,1,0,0,0⟩:=by
  unfold Clk.IsDate Clk.D6.ok
  decide
 exact⟨_,.inl ⟨rfl,.inl ⟨rfl,_,hd,by decide,rfl⟩⟩⟩
theorem znR (t:T) (v:Value) (w:World) (hin:t.In w v) (hwt:t.body.length<=30000):Calls Tryz.prog 151 #[v] w (zkO t w):=by
 obtain⟨A,n,c,K,m,d,rfl,hw,hr,hn,hc,hm,hm',hks⟩:=hin.open
 have B2:=zwd (Box.start hin)
 have hcv:=zbx c (hr.below B2.out.below)
 have WD:Hid (∀S ok x,Clk.TextR (Clk.readV (Clk.readD (zae (strOfNums t.body)) (t.tag==24))) S ok->(x=if Clk.readB (Clk.readD (zae (strOfNums t.body)) (t.tag==24))=true/\ (zb4 S ok).2=0/\ zaW (zb4 S ok).1 t=true then(Clk.readV (Clk.readD (zae (strOfNums t.body)) (t.tag==24)),0)else(0,2))->zgD t x):=fun S ok x h e=>⟨S,ok,h,e⟩
 have NV:=zwd (ztI (R:=Clk.readD (zae (strOfNums t.body)) (t.tag==24)))
 have CR:=zwd (fun W=>Clk.read_any (strOfNums t.body) (t.tag==24) W)
 obtain⟨g0,g1,g2⟩:=B2.out.cells
 clear hr hks hc hin hm hm' hw hn
 generalize Clk.readD (zae (strOfNums t.body)) (t.tag==24)=R at*
 generalize strOfNums t.body=S0 at*
 go_enter Tryz.func151,Tryz.ntmps151
 generalize hw2:w.alloc (.cells #[.int .i64 t.tag,.slice A n c,.slice K m d] 30)=w2 at*
 go_wp2_with fail
 refine(CR.out _).mono ?_
 rintro e w3 ⟨rfl,hb3⟩
 have B3:=zwd (B2.out.go hb3)
 clear hw2 CR B2 hb3 hcv g0 g1 g2
 generalize Clk.readV R=V at*
 generalize Clk.readB R=rb at*
 obtain⟨g0,g1,g2⟩:=B3.out.cells
 cases rb
 · have F:Hid (zgD t (0,2)):=by
    obtain⟨S,hS⟩:=zrM
    exact WD.out S true _ (by rw[NV.out rfl];exact hS) (by simp)
   clear WD NV
   go_wp2_with fail
   go_ret2
   exact⟨_,F.out,rfl,B3.out.below⟩
 have CX:=zwd (zq3 t _ w3 (fun X=>∃S ok,Clk.TextR V S ok/\ X=zb4 S ok) V (fun X ⟨S,ok,_,e⟩=>by rw[e];exact zrK S ok) B3.out.has (fun W hW=>(zeq V W).mono fun e w' ⟨S,ok,hR,h⟩=>⟨_,⟨S,ok,hR,rfl⟩,h.has⟩))
 go_wp2_with fail
 refine CX.out.mono ?_
 rintro e w4 ⟨X,⟨S,ok,hR,rfl⟩,h4⟩
 clear CX
 have hk:(okE (zb4 S ok) t=true)↔((zb4 S ok).2=0/\ zaW (zb4 S ok).1 t=true):=by unfold okE;rw[decide_eq_true_iff]
 rcases h4.ways with⟨hok,rfl,hb4⟩|⟨hok,rfl,hb4⟩
 · have F:Hid (zgD t (V,0)):=WD.out S ok _ hR (by rw[if_pos ⟨trivial,hk.1 hok⟩])
   have B4:=zwd (B3.out.go hb4)
   clear hok hb4 h4 WD NV hk hR
   go_wp2_with fail
   go_ret2
   exact⟨_,F.out,rfl,B4.out.below⟩
 · have F:Hid (zgD t (0,2)):=WD.out S ok _ hR (by rw[if_neg (fun k=>by have:=hk.2 k.2;rw[hok]at this;cases this)])
   have B4:=zwd (B3.out.go hb4)
   clear hok hb4 h4 WD NV hk hR
   go_wp2_with fail
   go_ret2
   exact⟨_,F.out,rfl,B4.out.below⟩
theorem zmw {w W:World} {g i:Nat} {t k:T} {A:Option Addr} {n c:Nat} {K:Option Addr} {m d:Nat} (h:Box w W g t A n c K m d) (hi:i<m) (hk:t.kids[i]?=some k):∃(b off:Nat) (A':Option Addr) (n' c':Nat) (K':Option Addr) (m' d':Nat),K=some ⟨b,off,none⟩/\
 W.cell? ⟨b,off+i*3,none⟩=some (.int .i64 k.tag)/\ W.cell? ⟨b,off+i*3+1,none⟩=some (.slice A' n' c')/\ W.cell? ⟨b,off+i*3+2,none⟩=some (.slice K' m' d')/\ k.In W (.agg #[.int .i64 k.tag,.slice A' n' c',.slice K' m' d']):=by
 have hin:=T.In.inP t h.has
 obtain⟨y,b,off,z,A',n',c',K',m',d',he,rfl,q0,q1,q2,hk2⟩:=hin.kidsP.kid i hi
 obtain⟨A2,n2,c2,K2,m2,d2,r0,r1,r2,hin2,_,_⟩:=zdE hin hi hk
 exact⟨b,off,A2,n2,c2,K2,m2,d2,rfl,r0,r1,r2,T.InP.in _ hin2⟩
theorem znS {w W:World} {g:Nat} {t:T} {A:Option Addr} {n c:Nat} {K:Option Addr} {m d:Nat} (h:Box w W g t A n c K m d):t.kids.length=m:=(T.In.inP t h.has).kidsP.1
theorem zeQ {t k:T} (h:k∈t.kids) {n:Int} (hw:wt t<n):(k.body.length:Int)<n/\ wt k<n:=by
 have h1:=zcx h
 have h2:=zdc k
 have h3:=zbq k.kids
 omega
theorem ztJ {t:T} (h:¬t.kids.length=2):timesZ t=(0,0):=by
 unfold timesZ
 split
 · rename_i e f he
   rw[he]at h
   exact absurd rfl h
 · rfl
theorem zlt (t:T) (v:Value) (w:World) (hin:t.In w v) (hwt:wt t<30000):Calls Tryz.prog 97 #[v] w fun e w'=>e= .returned (.tuple #[.int .i64 (timesZ t).1,.int .i64 (timesZ t).2])/\ Below w.heap.size w w':=by
 obtain⟨A,nb,cb,K,m,d,rfl⟩:=(T.In.inP t hin).form
 have BX:=zwd (Box.start hin)
 have hm:=znS BX.out
 have KB:Hid (∀k∈t.kids,(k.body.length:Int)<30000/\ wt k<30000):=zwd (fun k hk=>zeQ hk hwt)
 obtain⟨g0,g1,g2⟩:=BX.out.cells
 clear hin hwt
 go_enter Tryz.func97,Tryz.ntmps97
 go_upto_region 1 with fail
 generalize hw2:w.alloc (.cells #[.int .i64 t.tag,.slice A nb cb,.slice K m d] 30)=w2 at*
 by_cases h2:m=2
 rotate_left
 · have F:Hid (timesZ t=(0,0)):=ztJ (by omega)
   have t1:((m:Int)==2)=false:=by simp;omega
   clear hm hw2
   go_wp2_with fail
   go_ret2
   rw[F.out]
   exact⟨rfl,BX.out.below⟩
 subst h2
 obtain⟨ke,kf,hk⟩:=znQ hm
 have F:Hid (timesZ t=((whenZ ke).1,(whenZ kf).1)):=zwd (by unfold timesZ;rw[hk])
 have HK:=zwd hk
 have be:ke.body.length<=30000:=by have:=(KB.out ke (by rw[hk];simp)).1;omega
 have bf:kf.body.length<=30000:=by have:=(KB.out kf (by rw[hk];simp)).1;omega
 obtain⟨b,off,A1,n1,c1,K1,m1,d1,rfl,r0,r1,r2,hk1⟩:=zmw BX.out (i:=0) (k:=ke) (by omega) (by rw[hk];rfl)
 rw[Nat.zero_mul,Nat.add_zero]at r0 r1 r2
 clear hk hm hw2 KB
 go_wp2_with fail
 refine(znR ke _ w2 hk1 be).mono ?_
 rintro e w3 ⟨xe,hxe,rfl,hb3⟩
 obtain rfl:=zjx hxe
 have B3:=zwd (BX.out.go hb3)
 clear BX hb3 hk1 hxe r0 r1 r2 g0 g1 g2
 obtain⟨g0,g1,g2⟩:=B3.out.cells
 obtain⟨b2,off2,A2,n2,c2,K2,m2,d2,hK,r0,r1,r2,hk2⟩:=zmw B3.out (i:=1) (k:=kf) (by omega) (by rw[HK.out];rfl)
 obtain⟨rfl,rfl⟩:b=b2/\ off=off2:=by simpa using hK
 clear hK
 go_wp2_with fail
 refine(znR kf _ w3 hk2 bf).mono ?_
 rintro e w4 ⟨xf,hxf,rfl,hb4⟩
 obtain rfl:=zjx hxf
 have B4:=zwd (B3.out.go hb4)
 clear B3 hb4 hk2 hxf r0 r1 r2 g0 g1 g2
 go_wp2_with fail
 go_ret2
 rw[F.out]
 exact⟨rfl,B4.out.below⟩
def znT (t:T) (w:World) (e:Ending) (w':World):Prop:=∃(l:List Int) (a:Option Addr) (n c:Nat),e= .returned (.slice a n c)/\ ztC t l/\ zat w' a n l/\ (a=none->c=0)/\ (∀b off,a=some ⟨b,off,none⟩->w.heap.size<b)/\ Below w.heap.size w w'
theorem ztK {t:T} {k:Nat} (hk:k<=400) (hend:(∀q∈t.kids,(zaC q).2=0)->t.kids.length<=400->t.kids.length<=k) (h:∀j q,j<k->t.kids[j]?=some q->(zaC q).2=0):ztC t ((t.kids.take k).map fun q=>(zaC q).1%4294967296):=by
 refine⟨by rw[List.length_map,List.length_take];omega,fun x hx=> ?_,fun h1 h2=> ?_⟩
 · obtain⟨q,_,rfl⟩:=List.mem_map.1 hx
   omega
 · rw[List.take_of_length_le (hend h1 h2)]
theorem zio (t:T) (v:Value) (w:World) (hin:t.In w v) (hwt:wt t<30000):Calls Tryz.prog 98 #[v] w (znT t w):=by
 obtain⟨A,nb,cb,K,m,d,rfl⟩:=(T.In.inP t hin).form
 have BX:=zwd (Box.start hin)
 have hm:=znS BX.out
 have KB:Hid (∀k∈t.kids,k.body.length<=1000000):=zwd (fun k hk=>by have:=(zeQ hk hwt).1;omega)
 have ML:Hid (m<=30000):=zwd (by
  rw[<-hm]
  have h1:=zdc t
  have h2:t.kids.length<=za2 t.kids:=by
   generalize t.kids=l
   induction l with
   |nil=>simp[za2]
   |cons x r ih=>rw[za2,List.length_cons];have:=zkQ x;omega
  omega)
 obtain⟨g0,g1,g2⟩:=BX.out.cells
 have zG:(w.alloc (.cells #[.int .i64 t.tag,.slice A nb cb,.slice K m d] 30)).heap.size=w.heap.size+1:=by simp
 have HM:=zwd hm
 have HI:=zwd hin
 clear hin hwt hm
 go_enter Tryz.func98,Tryz.ntmps98
 go_upto_region 1 with fail
 generalize hw2:w.alloc (.cells #[.int .i64 t.tag,.slice A nb cb,.slice K m d] 30)=w2 at*
 have OW:Hid (zfe (w.heap.size+1) w2 (.slice none 0 0) ((t.kids.take 0).map fun q=>(zaC q).1%4294967296)):=zwd (World.ownsRow_nil _ _ _ _)
 have SZ:Hid (w.heap.size+1<=w2.heap.size):=zwd (by omega)
 clear hw2 zG
 go_wp2_with fail
 go_step3
 go_wp2_with fail
 go_step3
 go_wp2_with fail
 go_loopw [3,5,6,7,25,11] (fun lV p5 p6 p7 p25 i wr=>∃(k:Nat) (aV:Option Addr) (cV:Nat),k<=m/\ k<=400/\ lV= .slice aV k cV/\ i= .int .i64 (k:Int)/\ Box w wr w.heap.size t A nb cb K m d/\ zfe (w.heap.size+1) wr lV ((t.kids.take k).map fun q=>(zaC q).1%4294967296)/\ (∀j q,j<k->t.kids[j]?=some q->(zaC q).2=0)/\ w.heap.size+1<=wr.heap.size) (fun _ _ _ _ _ i _=>m-(intOf i).toNat)
 case atStart=>exact⟨0,none,0,Nat.zero_le _,Nat.zero_le _,rfl,rfl,BX.out,OW.out,fun j q h=>absurd h (by omega),SZ.out⟩
 case round=>
  obtain⟨k,aV,cV,hk,hk4,rfl,rfl,hbx,hown,hall,hsz⟩:=hrel
  have B3:=zwd hbx
  have V3:=zwd hown
  have AL:=zwd hall
  have S3:=zwd hsz
  clear hbx hown hall hsz BX OW SZ g0 g1 g2
  have LK:Hid (((t.kids.take k).map fun q=>(zaC q).1%4294967296).length=k):=zwd (by rw[List.length_map,List.length_take];have:=HM.out;omega)
  have FIN:Hid (∀W,zfe (w.heap.size+1) W (.slice aV k cV) ((t.kids.take k).map fun q=>(zaC q).1%4294967296)->Below w.heap.size w W->((∀q∈t.kids,(zaC q).2=0)->t.kids.length<=400->t.kids.length<=k)->znT t w (.returned (.slice aV k cV)) W):=zwd (fun W hW hB hend=>by
   obtain⟨h1,h2,h3⟩:=hW.row (by
    intro x hx
    obtain⟨q,_,rfl⟩:=List.mem_map.1 hx
    omega) LK.out
   exact⟨_,aV,k,cV,rfl,ztK hk4 hend AL.out,h1,h2,fun b off e=>by have:=h3 b off e;omega,hB⟩)
  by_cases hlt:k<m
  · have tI:decide ((k:Int)<(m:Int))=true:=by simp;omega
    obtain⟨q,hq⟩:∃q,t.kids[k]?=some q:=⟨_,List.getElem?_eq_getElem (by have:=HM.out;omega)⟩
    obtain⟨b,off,A1,n1,c1,K1,m1,d1,rfl,r0,r1,r2,hk1⟩:=zmw B3.out hlt hq
    have kI:(k:Int)<(m:Int):=by omega
    have bq:=KB.out q (List.mem_of_getElem? hq)
    have E4:=zac wr (.cells #[.int .i64 q.tag,.slice A1 n1 c1,.slice K1 m1 d1] 30)
    have X4:=zwd (Blk.new wr 30 #[.int .i64 q.tag,.slice A1 n1 c1,.slice K1 m1 d1])
    have B4:=zwd (B3.out.go E4)
    have V4:=zwd (V3.out.over (Over.below E4))
    have I4:=zwd (T.In.below E4 _ hk1)
    have S4:=zwd (Nat.le_trans S3.out E4.size)
    clear B3 V3 S3 hk1 E4
    go_upto_region 5 with fail
    generalize wr.alloc (.cells #[.int .i64 q.tag,.slice A1 n1 c1,.slice K1 m1 d1] 30)=w4 at*
    generalize wr.heap.size=g4 at*
    obtain⟨x0,x1,x2,_,_,_⟩:=X4.out.facts
    clear r0 r1 r2
    go_wp2_with fail
    refine(znD q _ w4 I4.out bq).mono ?_
    rintro e w5 ⟨rfl,hb5⟩
    have B5:=zwd (B4.out.go hb5)
    have V5:=zwd (V4.out.over (Over.below hb5))
    have S5:=zwd (Nat.le_trans S4.out hb5.size)
    clear B4 V4 S4 I4 X4 hb5 x0 x1 x2 bq
    by_cases hz:(zaC q).2=0
    · have t1:((zaC q).2 !=0)=false:=by simpa using hz
      by_cases h4:k=400
      · have t2:((k:Int)==400)=true:=by simp;omega
        have HE:Hid ((∀q∈t.kids,(zaC q).2=0)->t.kids.length<=400->t.kids.length<=k):=zwd (fun _ h=>by omega)
        clear h4 hz
        go_wp2_with fail
        rw[Exit.noGoto_ret]
        go_ret
        exact FIN.out _ V5.out B5.out.below HE.out
      · have t2:((k:Int)==400)=false:=by simp;omega
        obtain⟨un,wU⟩:∃un,IntKind.u32.wrap (zaC q).1=un:=⟨_,rfl⟩
        have eU:(zaC q).1%4294967296=un:=by rw[<-wU,IntKind.wrap_u32]
        have ur:0<=un/\ un<=4294967295:=by rw[<-wU,IntKind.wrap_u32];omega
        have b9:=zac w5 (.cells #[.int .u32 un] 22)
        have B9:=zwd (B5.out.go b9)
        have V9:=zwd (V5.out.over (Over.below b9))
        have R9:=zbs w5 [un] (by simpa using ur)
        simp only[List.map_cons,List.map_nil,List.length_cons,List.length_nil]at R9
        replace R9:=zwd R9
        have s9:w.heap.size+1<=(w5.alloc (.cells #[.int .u32 un] 22)).heap.size:=Nat.le_trans S5.out b9.size
        have TK:t.kids.take (k+1)=t.kids.take k++[q]:=by rw[List.take_add_one,hq];rfl
        have UZ:Hid (((t.kids.take (k+1)).map fun q=>(zaC q).1%4294967296)=((t.kids.take k).map fun q=>(zaC q).1%4294967296)++[un]):=zwd (by rw[TK,List.map_append,List.map_cons,List.map_nil,eU])
        have AN:Hid (∀j p,j<k+1->t.kids[j]?=some p->(zaC p).2=0):=zwd (fun j p hj hp=>by
         rcases Nat.lt_or_ge j k with h|h
         · exact AL.out j p h hp
         · obtain rfl:j=k:=by omega
           rw[hq]at hp
           obtain rfl:=Option.some.inj hp
           exact hz)
        have hk5:k+1<=400:=by omega
        clear b9 B5 V5 S5 TK eU AL FIN hz hq
        generalize((t.kids.take k).map fun q=>(zaC q).1%4294967296)=L at*
        go_wp2_with (at_builtin;go_must (refine zgv LK.out rfl _ _ rfl rfl V9.out s9 rfl R9.out (by omega) ?_;intro gq cq8 w8 hown8 hg8 hb8;have V10:=zwd hown8;have bel10:=B9.out.below.trans (hb8.mono (Nat.le_succ _));have B10:=zwd (show Box w w8 w.heap.size t A nb cb _ m d from⟨Nat.le_refl _,(hb8.block _ (Nat.lt_succ_self _)).trans B9.out.blk,bel10,T.In.below bel10 t HI.out⟩);have s10:=Nat.le_trans s9 hb8.size;clear hown8 hb8 bel10 B9 V9 R9))
        go_roundw
        case rel=>exact⟨k+1,some ⟨gq,0,none⟩,cq8,by omega,hk5,rfl,by go_num,B10.out,by rw[UZ.out];exact V10.out,AN.out,s10⟩
        case measure=>simp[intOf];omega
    · have t1:((zaC q).2 !=0)=true:=by simpa using hz
      have HE:Hid ((∀q∈t.kids,(zaC q).2=0)->t.kids.length<=400->t.kids.length<=k):=zwd (fun h _=>absurd (h q (List.mem_of_getElem? hq)) hz)
      clear hz hq
      go_wp2_with fail
      rw[Exit.noGoto_ret]
      go_ret
      exact FIN.out _ V5.out B5.out.below HE.out
  · have tI:decide ((k:Int)<(m:Int))=false:=by simp;omega
    have HE:Hid ((∀q∈t.kids,(zaC q).2=0)->t.kids.length<=400->t.kids.length<=k):=zwd (fun _ _=>by have:=HM.out;omega)
    go_wp2_with fail
    rw[Exit.noGoto_ret]
    go_ret
    exact FIN.out _ V3.out B3.out.below HE.out
theorem zfQ (s:Int) (w:World):Calls Tryz.prog 35 #[.int .i64 s] w fun e w'=>e= .returned (.bool (decide ((momZ s).2=0)))/\ Below w.heap.size w w':=by
 have CI:=zwd (zeq s w)
 have B0:=zwd (Below.refl w.heap.size w)
 go_enter Tryz.func35,Tryz.ntmps35
 go_wp2_with fail
 refine CI.out.mono ?_
 rintro e w2 ⟨S,ok,hR,A,n,c,K,m,d,rfl,hin,hb⟩
 rw[zeU hR]at hin⊢
 clear hR
 have B2:=zwd ((B0.out.trans (hb.mono (Nat.le_refl _))).alloc (by have:=hb.size;omega) (.cells #[.int .i64 (momZ s).1.tag,.slice A n c,.slice K m d] 30))
 clear CI B0 hin hb
 by_cases h:(momZ s).2=0
 · have t1:((momZ s).2==0)=true:=by simpa using h
   have F:Hid (decide ((momZ s).2=0)=true):=decide_eq_true h
   clear h
   go_wp2_with fail
   go_ret
   exact⟨zaj F.out.symm,B2.out⟩
 · have t1:((momZ s).2==0)=false:=by simpa using h
   have F:Hid (decide ((momZ s).2=0)=false):=decide_eq_false h
   clear h
   go_wp2_with fail
   go_ret
   exact⟨zaj F.out.symm,B2.out⟩
theorem Tryz.rescr:(Tryz.prog.info? 30).map (·.size)=some 3:=by kernel_rfl
theorem zbv (K:Option Addr) (m d:Nat) (w:World):Calls Tryz.prog 25 #[.slice K m d] w fun e w'=>e= .returned (.agg #[.int .i64 48,.slice none 0 0,.slice K m d])/\ Below w.heap.size w w':=by
 have G:=zwd (Blk.new w 30 #[.int .i64 48,.slice none 0 0,.slice K m d])
 have B:=zwd ((Below.refl w.heap.size w).alloc (Nat.le_refl _) (.cells #[.int .i64 48,.slice none 0 0,.slice K m d] 30))
 go_enter Tryz.func25,Tryz.ntmps25
 go_wp2_with fail
 exact bodyPost_ret (results_cell_row rfl _ _ w.heap.size 30 #[.int .i64 48,.slice none 0 0,.slice K m d] (0,0) _ rfl G.out Tryz.underlying30 rfl Tryz.rescr) rfl ⟨rfl,B.out⟩
theorem zlu (a b:Int) (w:World):Calls Tryz.prog 37 #[.int .i64 a,.int .i64 b] w fun e w'=>e= .returned (.bool (decide ((momZ a).2=0/\ (momZ b).2=0/\ a<=b)))/\ Below w.heap.size w w':=by
 have B0:=zwd (Below.refl w.heap.size w)
 go_enter Tryz.func37,Tryz.ntmps37
 go_wp2_with fail
 refine(zed a w).mono ?_
 rintro e w2 ⟨S,ok,hR,A,n,c,K,m,d,rfl,hin,hb⟩
 rw[zeU hR]at hin⊢
 have B2:=zwd ((B0.out.trans (hb.mono (Nat.le_refl _))).alloc hb.size (.cells #[.int .i64 (momZ a).1.tag,.slice A n c,.slice K m d] 30))
 clear hR hin hb B0
 go_wp2_with fail
 generalize w2.alloc (.cells #[.int .i64 (momZ a).1.tag,.slice A n c,.slice K m d] 30)=w3 at*
 generalize w2.heap.size=g3 at*
 refine(zed b w3).mono ?_
 rintro e w4 ⟨S',ok',hR,A',n',c',K',m',d',rfl,hin,hb⟩
 rw[zeU hR]at hin⊢
 have B4:=zwd ((B2.out.trans (hb.mono B2.out.size)).alloc (Nat.le_trans B2.out.size hb.size) (.cells #[.int .i64 (momZ b).1.tag,.slice A' n' c',.slice K' m' d'] 30))
 clear hR hin hb B2
 by_cases h1:(momZ a).2=0
 · have t1:((momZ a).2==0)=true:=by simpa using h1
   by_cases h2:(momZ b).2=0
   · have t2:((momZ b).2==0)=true:=by simpa using h2
     have F:Hid (decide ((momZ a).2=0/\ (momZ b).2=0/\ a<=b)=decide (a<=b)):=by unfold Hid;simp[h1,h2]
     clear h1 h2
     go_wp2_with fail
     go_ret
     exact⟨zaj F.out.symm,B4.out⟩
   · have t2:((momZ b).2==0)=false:=by simpa using h2
     have F:Hid (decide ((momZ a).2=0/\ (momZ b).2=0/\ a<=b)=false):=decide_eq_false (fun h=>h2 h.2.1)
     clear h1 h2
     go_wp2_with fail
     go_ret
     exact⟨zaj F.out.symm,B4.out⟩
 · have t1:((momZ a).2==0)=false:=by simpa using h1
   have F:Hid (decide ((momZ a).2=0/\ (momZ b).2=0/\ a<=b)=false):=decide_eq_false (fun h=>h1 h.1)
   clear h1
   go_wp2_with fail
   go_ret
   exact⟨zaj F.out.symm,B4.out⟩
def zh6 (l:List Int) (k:Nat):Prop:=∀j,j<k->j<l.length->0<j->l[j-1]?.getD 0<l[j]?.getD 0
theorem zh6.more {l:List Int} {k:Nat} (h:zh6 l k) (hk:0<k->l[k-1]?.getD 0<l[k]?.getD 0):zh6 l (k+1):=fun j h1 h2 h3=>by
 rcases Nat.lt_or_ge j k with h'|h'
 · exact h j h' h2 h3
 · obtain rfl:j=k:=by omega
   exact hk h3
theorem zh6.all {l:List Int} {k:Nat} (h:zh6 l k) (hk:l.length<=k):zhF l:=fun j h1 h2=>h j (by omega) h1 h2
theorem zgw (c:CrlZ) (a:Option Addr) (ca:Nat) (w:World) (h:zbj w c a ca) (hs:c.iss.size<=1000000) (hn:c.ser.length<=1000000):
 Calls Tryz.prog 16 #[.agg (crlC c a c.ser.length ca)] w fun e w'=>e= .returned (.bool (decide (zaO c)))/\ Below w.heap.size w w':=by
 have B0:=zwd (zbG.start h)
 have HW:=zwd (show∀P:Prop,P=P from fun _=>rfl)
 clear h
 unfold crlC at B0⊢
 go_enter Tryz.func16,Tryz.ntmps16
 generalize hw1:w.alloc (.cells #[.string c.iss,.int .u32 c.num,.int .i64 c.fr,.int .i64 c.to,.slice a c.ser.length ca] 25)=w1 at*
 obtain⟨g0,g1,g2,g3,g4⟩:=B0.out.cells
 go_wp2_with fail
 refine(zf3 c.iss w1 hs).mono ?_
 rintro e w2 ⟨A,n,cc,K,m,d,rfl,hin,hb⟩
 have B2:=zwd ((B0.out.go hb).go (zac w2 (.cells #[.int .i64 (zaX c.iss).1.tag,.slice A n cc,.slice K m d] 30)))
 clear hw1 B0 hin hb g0 g1 g2 g3 g4 HW
 go_wp2_with fail
 generalize w2.alloc (.cells #[.int .i64 (zaX c.iss).1.tag,.slice A n cc,.slice K m d] 30)=w3 at*
 generalize w2.heap.size=g3 at*
 have TX:=zwd (Eq.refl (zaX c.iss).2)
 generalize hx:(zaX c.iss).2=x at*
 go_loopw [5] (fun i wr=>∃k:Nat,1<=k/\ k<=c.ser.length+1/\ i= .int .i64 (k:Int)/\ zbG w wr w.heap.size c a ca/\ zh6 c.ser k) (fun i _=>c.ser.length+1-(intOf i).toNat)
 case atStart=>exact⟨1,Nat.le_refl _,by omega,rfl,B2.out,fun j h1 _ h3=>by omega⟩
 case round=>
  obtain⟨k,hk1,hk2,rfl,hbx,hri⟩:=hrel
  have B3:=zwd hbx
  have RI:=zwd hri
  clear hbx hri B2
  obtain⟨g0,g1,g2,g3,g4⟩:=B3.out.cells
  by_cases hlt:k<c.ser.length
  · have tI:decide ((k:Int)<(c.ser.length:Int))=true:=by simp;omega
    obtain⟨b,off,hab,hb,hc⟩:=B3.out.has.row.2.2 (by omega)
    subst hab
    obtain⟨j,hj⟩:∃j,k=j+1:=⟨k-1,by omega⟩
    have kj:IntKind.i64.wrap ((k:Int)-1)=(j:Int):=by rw[show(k:Int)-1=(j:Int)by omega];exact IntWalk.i64_in _ (by omega)
    have cE:=hc j (by omega)
    have cF:=hc k hlt
    have jI:(j:Int)<(c.ser.length:Int):=by omega
    have kI:(k:Int)<(c.ser.length:Int):=by omega
    have HM:=zwd (fun hh=>RI.out.more (k:=k) hh)
    have HN:Hid (¬c.ser[k-1]?.getD 0<c.ser[k]?.getD 0->¬zhF c.ser):=fun hh hr=>hh (hr k hlt (by omega))
    rw[show k-1=j by omega]at HM HN
    have kw:IntKind.i64.wrap ((k:Int)+1)=(k:Int)+1:=IntWalk.i64_in _ (by omega)
    clear hc hb hj RI
    generalize c.ser[j]?.getD 0=p at*
    generalize c.ser[k]?.getD 0=q at*
    by_cases hpq:p<q
    · have t1:decide (q<=p)=false:=by simp;omega
      go_wp2_with fail
      go_quiet (fail)
      go_wp2_with fail
      go_roundw
      case rel=>exact⟨k+1,by omega,by omega,by go_num,B3.out.go (zaE _ _),HM.out (fun _=>hpq)⟩
      case measure=>simp[intOf];omega
    · have t1:decide (q<=p)=true:=by simp;omega
      have F:Hid (decide (zaO c)=false):=decide_eq_false (fun hh=>HN.out hpq hh.2.2.2)
      go_wp2_with fail
      go_quiet (fail)
      go_wp2_with fail
      go_ret
      exact⟨zaj F.out.symm,(B3.out.go (zaE _ _)).bel⟩
  · have tI:decide ((k:Int)<(c.ser.length:Int))=false:=by simp;omega
    have HR:=zwd (RI.out.all (by omega))
    clear hk2 RI
    by_cases h1:x=0
    · have t1:(x==0)=true:=by simpa using h1
      by_cases h2:c.iss.size=0
      · have F:Hid (decide (zaO c)=false):=decide_eq_false (fun hh=>hh.1.2 h2)
        have t2:=znl h2
        go_wp2_with fail
        go_ret
        exact⟨zaj F.out.symm,B3.out.bel⟩
      · obtain⟨t2,t3⟩:=znm h2
        go_wp2_with fail
        refine(zlu c.fr c.to wr).mono ?_
        rintro e w4 ⟨rfl,hb4⟩
        have B4:=zwd (B3.out.go hb4)
        clear g0 g1 g2 g3 g4
        obtain⟨g0,g1,g2,g3,g4⟩:=B4.out.cells
        have F:Hid (decide (zaO c)=(decide ((momZ c.fr).2=0/\ (momZ c.to).2=0/\ c.fr<=c.to)&&decide ((c.ser.length:Int)<=400))):=by
         unfold Hid
         rw[Bool.eq_iff_iff]
         simp only[decide_eq_true_eq,Bool.and_eq_true]
         constructor
         · rintro⟨_,h3,h4,_⟩
           exact⟨h3,by omega⟩
         · rintro⟨h3,h4⟩
           exact And.intro (And.intro (hx.trans h1) h2) (And.intro h3 (And.intro (by omega) HR.out))
        generalize decide ((momZ c.fr).2=0/\ (momZ c.to).2=0/\ c.fr<=c.to)=tt at*
        cases tt
        · go_wp2_with fail
          go_ret
          exact⟨zaj (F.out.trans (by simp)).symm,B4.out.bel⟩
        · go_wp2_with fail
          go_ret
          exact⟨zaj (F.out.trans (by simp)).symm,B4.out.bel⟩
    · have t1:(x==0)=false:=by simpa using h1
      have F:Hid (decide (zaO c)=false):=decide_eq_false (fun hh=>h1 (hx.symm.trans hh.1.1))
      go_wp2_with fail
      go_ret
      exact⟨zaj F.out.symm,B3.out.bel⟩
theorem zj3 (s:ByteArray) (hs:s.size<=1000000) (w:World):Calls Tryz.prog 34 #[.string s] w fun e w'=>e= .returned (.bool (decide ((zaX s).2=0/\ ¬s.size=0)))/\ Below w.heap.size w w':=by
 have CI:=zwd (text_any s w hs)
 have B0:=zwd (Below.refl w.heap.size w)
 go_enter Tryz.func34,Tryz.ntmps34
 go_wp2_with fail
 refine CI.out.mono ?_
 rintro e w2 ⟨A,n,c,K,m,d,rfl,hin,hb⟩
 have B2:=zwd ((B0.out.trans (hb.mono (Nat.le_refl _))).alloc (by have:=hb.size;omega) (.cells #[.int .i64 (zaX s).1.tag,.slice A n c,.slice K m d] 30))
 clear CI B0 hin hb
 by_cases h:s.size=0
 · have t1:=znl h
   have F:Hid (decide ((zaX s).2=0/\ ¬s.size=0)=false):=decide_eq_false (fun k=>k.2 h)
   clear h
   go_wp2_with fail
   go_ret
   exact⟨zaj F.out.symm,B2.out⟩
 · obtain⟨t1,t2⟩:=znm h
   by_cases h2:(zaX s).2=0
   · have t3:((zaX s).2==0)=true:=by simpa using h2
     have F:Hid (decide ((zaX s).2=0/\ ¬s.size=0)=true):=decide_eq_true ⟨h2,h⟩
     clear h h2
     go_wp2_with fail
     go_ret
     exact⟨zaj F.out.symm,B2.out⟩
   · have t3:((zaX s).2==0)=false:=by simpa using h2
     have F:Hid (decide ((zaX s).2=0/\ ¬s.size=0)=false):=decide_eq_false (fun k=>h2 k.1)
     clear h h2
     go_wp2_with fail
     go_ret
     exact⟨zaj F.out.symm,B2.out⟩
theorem zmx (a:Option Addr) (n ca:Nat) (L:List Int) (w:World) (hr:zat w a n L) (hn:n<=1000000):Calls Tryz.prog 36 #[.slice a n ca] w fun e w'=>e= .returned (.bool (decide (zhF L)))/\ Below w.heap.size w w':=by
 obtain rfl:L.length=n:=hr.1
 have R0:=zwd hr
 have B0:=zwd (Below.refl w.heap.size w)
 clear hr
 go_enter Tryz.func36,Tryz.ntmps36
 go_wp2_with fail
 go_loopw [3] (fun i wr=>∃k:Nat,1<=k/\ k<=L.length+1/\ i= .int .i64 (k:Int)/\ zat wr a L.length L/\ Below w.heap.size w wr/\ zh6 L k) (fun i _=>L.length+1-(intOf i).toNat)
 case atStart=>exact⟨1,Nat.le_refl _,by omega,rfl,R0.out,B0.out,fun j h1 _ h3=>by omega⟩
 case round=>
  obtain⟨k,hk1,hk2,rfl,hrw,hbl,hri⟩:=hrel
  have R3:=zwd hrw
  have B3:=zwd hbl
  have RI:=zwd hri
  clear hrw hbl hri R0 B0
  by_cases hlt:k<L.length
  · have tI:decide ((k:Int)<(L.length:Int))=true:=by simp;omega
    obtain⟨b,off,hab,hb,hc⟩:=R3.out.2.2 (by omega)
    subst hab
    obtain⟨j,hj⟩:∃j,k=j+1:=⟨k-1,by omega⟩
    have kj:IntKind.i64.wrap ((k:Int)-1)=(j:Int):=by rw[show(k:Int)-1=(j:Int)by omega];exact IntWalk.i64_in _ (by omega)
    have cE:=hc j (by omega)
    have cF:=hc k hlt
    have jI:(j:Int)<(L.length:Int):=by omega
    have kI:(k:Int)<(L.length:Int):=by omega
    have HM:=zwd (fun hh=>RI.out.more (k:=k) hh)
    have HN:Hid (¬L[k-1]?.getD 0<L[k]?.getD 0->¬zhF L):=fun hh hr=>hh (hr k hlt (by omega))
    rw[show k-1=j by omega]at HM HN
    have kw:IntKind.i64.wrap ((k:Int)+1)=(k:Int)+1:=IntWalk.i64_in _ (by omega)
    clear hc hb hj RI
    generalize L[j]?.getD 0=p at*
    generalize L[k]?.getD 0=q at*
    by_cases hpq:p<q
    · have t1:decide (q<=p)=false:=by simp;omega
      go_wp2_with fail
      go_quiet (fail)
      go_wp2_with fail
      go_roundw
      case rel=>exact⟨k+1,by omega,by omega,by go_num,R3.out.below (zaE _ _),B3.out.trans ((zaE _ _).mono B3.out.size),HM.out (fun _=>hpq)⟩
      case measure=>simp[intOf];omega
    · have t1:decide (q<=p)=true:=by simp;omega
      have F:Hid (decide (zhF L)=false):=decide_eq_false (HN.out hpq)
      go_wp2_with fail
      go_quiet (fail)
      go_wp2_with fail
      go_ret
      exact⟨zaj F.out.symm,B3.out.trans ((zaE _ _).mono B3.out.size)⟩
  · have tI:decide ((k:Int)<(L.length:Int))=false:=by simp;omega
    have F:Hid (decide (zhF L)=true):=decide_eq_true (RI.out.all (by omega))
    clear hk2 RI
    go_wp2_with fail
    go_ret
    exact⟨zaj F.out.symm,B3.out⟩
theorem zcP (c:CrlZ) (a:Option Addr) (ca:Nat) (w:World) (h:zbj w c a ca) (hs:c.iss.size<=1000000) (hn:c.ser.length<=1000000):
 Calls Tryz.prog 15 #[.agg (crlC c a c.ser.length ca)] w fun e w'=>e= .returned (.bool (decide (zaO c)))/\ Below w.heap.size w w':=by
 have B0:=zwd (zbG.start h)
 clear h
 unfold crlC at B0⊢
 go_enter Tryz.func15,Tryz.ntmps15
 generalize hw1:w.alloc (.cells #[.string c.iss,.int .u32 c.num,.int .i64 c.fr,.int .i64 c.to,.slice a c.ser.length ca] 25)=w1 at*
 obtain⟨g0,g1,g2,g3,g4⟩:=B0.out.cells
 go_wp2_with fail
 refine(zj3 c.iss hs w1).mono ?_
 rintro e w2 ⟨rfl,hb⟩
 have B2:=zwd (B0.out.go hb)
 clear hw1 B0 hb g0 g1 g2 g3 g4
 obtain⟨g0,g1,g2,g3,g4⟩:=B2.out.cells
 by_cases h1:(zaX c.iss).2=0/\ ¬c.iss.size=0
 rotate_left
 · have F:Hid (decide (zaO c)=false):=decide_eq_false (fun hh=>h1 hh.1)
   rw[decide_eq_false h1]
   clear h1
   go_wp2_with fail
   go_ret
   exact⟨zaj F.out.symm,B2.out.bel⟩
 rw[decide_eq_true h1]
 have H1:=zwd h1
 clear h1
 go_wp2_with fail
 refine(zfQ c.fr w2).mono ?_
 rintro e w3 ⟨rfl,hb⟩
 have B3:=zwd (B2.out.go hb)
 clear B2 hb g0 g1 g2 g3 g4
 obtain⟨g0,g1,g2,g3,g4⟩:=B3.out.cells
 by_cases h2:(momZ c.fr).2=0
 rotate_left
 · have F:Hid (decide (zaO c)=false):=decide_eq_false (fun hh=>h2 hh.2.1.1)
   rw[decide_eq_false h2]
   clear h2
   go_wp2_with fail
   go_ret
   exact⟨zaj F.out.symm,B3.out.bel⟩
 rw[decide_eq_true h2]
 have H2:=zwd h2
 clear h2
 go_wp2_with fail
 refine(zfQ c.to w3).mono ?_
 rintro e w4 ⟨rfl,hb⟩
 have B4:=zwd (B3.out.go hb)
 clear B3 hb g0 g1 g2 g3 g4
 obtain⟨g0,g1,g2,g3,g4⟩:=B4.out.cells
 by_cases h3:(momZ c.to).2=0
 rotate_left
 · have F:Hid (decide (zaO c)=false):=decide_eq_false (fun hh=>h3 hh.2.1.2.1)
   rw[decide_eq_false h3]
   clear h3
   go_wp2_with fail
   go_ret
   exact⟨zaj F.out.symm,B4.out.bel⟩
 rw[decide_eq_true h3]
 have H3:=zwd h3
 clear h3
 by_cases h4:c.fr<=c.to
 rotate_left
 · have F:Hid (decide (zaO c)=false):=decide_eq_false (fun hh=>h4 hh.2.1.2.2)
   have t4:decide (c.fr<=c.to)=false:=decide_eq_false h4
   clear h4
   go_wp2_with fail
   go_ret
   exact⟨zaj F.out.symm,B4.out.bel⟩
 have t4:decide (c.fr<=c.to)=true:=decide_eq_true h4
 have H4:=zwd h4
 clear h4
 by_cases h5:c.ser.length<=400
 rotate_left
 · have F:Hid (decide (zaO c)=false):=decide_eq_false (fun hh=>h5 hh.2.2.1)
   have t5:decide ((c.ser.length:Int)<=400)=false:=decide_eq_false (by omega)
   have t6:decide (c.ser.length<=400)=false:=decide_eq_false h5
   clear h5
   go_wp2_with fail
   go_ret
   exact⟨zaj F.out.symm,B4.out.bel⟩
 have t5:decide ((c.ser.length:Int)<=400)=true:=decide_eq_true (by omega)
 have t6:decide (c.ser.length<=400)=true:=decide_eq_true h5
 have F:Hid (decide (zaO c)=decide (zhF c.ser)):=by
  unfold Hid
  rw[decide_eq_decide]
  exact⟨fun hh=>hh.2.2.2,fun hh=>⟨H1.out,⟨H2.out,H3.out,H4.out⟩,h5,hh⟩⟩
 clear h5 H1 H2 H3 H4
 go_wp2_with fail
 refine(zmx a c.ser.length ca c.ser w4 B4.out.has.row hn).mono ?_
 rintro e w5 ⟨rfl,hb⟩
 have B5:=zwd (B4.out.go hb)
 clear B4 hb g0 g1 g2 g3 g4 t4 t5 t6
 generalize decide (zhF c.ser)=tt at*
 go_wp2_with fail
 go_ret
 exact⟨zaj F.out.symm,B5.out.bel⟩
end Go.Proofs.YtpgahclpbdpbnaaGreatDoor
