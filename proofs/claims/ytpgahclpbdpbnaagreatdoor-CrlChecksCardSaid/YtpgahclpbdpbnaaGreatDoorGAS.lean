import Derived.Test.YtpgahclpbdpbnaaGreatDoorGAR
import Derived.Tactics2
import Derived.Defers
import Derived.Recover
import Derived.Test.YtpgahclpbdpbnaaGreatDoorGAI
import Derived.Test.YtpgahclpbdpbnaaGreatDoorGAP
import Derived.Test.YtpgahclpbdpbnaaGreatDoorGAQ
set_option maxHeartbeats 4000000
set_option maxRecDepth 100000
namespace Go.Proofs.YtpgahclpbdpbnaaGreatDoor
open Go.RowKit
set_option linter.unusedVariables false
set_option linter.unusedSimpArgs false
def app (ks:List T):Except Int (List T)->Except Int (List T)
 | .error e=> .error e
 | .ok l=> .ok (ks++l)
theorem zrr (r:Except Int (List T)):app [] r=r:=by cases r<;>rfl
theorem znI {deep:Nat} {l:List Int} {z:Int} (h0:l≠[]) (e:zbr deep l= .error z):zcZ deep l= .error z:=by
 rw[zgP h0,e]
theorem znJ {deep:Nat} {l r:List Int} {t:T} {ks:List T} (h0:l≠[]) (e:zbr deep l= .ok (t,r)):app ks (zcZ deep l)=app (ks++[t]) (zcZ deep r):=by
 rw[zgP h0,e]
 simp only
 cases zcZ deep r with
 |error z=>rfl
 |ok x=>simp[app]
theorem zrs {zs:List Int} {j n:Nat} (hl:zs.length=n) (hj:j<n):zs.drop j≠[]:=by
 intro e
 have:=congrArg List.length e
 rw[List.length_drop]at this
 simp at this
 omega
structure Mid (w wr:World) (x0:Int) (deep s e:Nat) (zs':List Int) (j:Nat) (V:Value) (ks:List T):Prop where
 lo:s<=j
 hi:j<=e
 few:ks.length<=j-s
 kids:zcZ (deep+1) (zs'.drop s)=app ks (zcZ (deep+1) (zs'.drop j))
 res:Blk wr w.heap.size 30 #[.int .i64 0,.slice none 0 0,.slice none 0 0]
 box:Blk wr (w.heap.size+1) 30 #[.int .i64 x0,.slice none 0 0,V]
 out:NOut w wr (w.heap.size+1) V ks
 offA:V.ownBlock≠some w.heap.size
 offB:V.ownBlock≠some (w.heap.size+1)
theorem Mid.start (w:World) (q:Nat) (x0:Int) (deep s e:Nat) (zs':List Int) (h:s<=e):Mid w (bare w q x0) x0 deep s e zs' s (.slice none 0 0) []:=
 ⟨Nat.le_refl _,h,by simp,(zrr _).symm,zfL w q x0,zfM w q x0,NOut.start (zgf w q x0) _,by simp[Value.ownBlock],by simp[Value.ownBlock]⟩
theorem Mid.go {w wr w2:World} {x0:Int} {deep s e:Nat} {zs':List Int} {j:Nat} {V:Value} {ks:List T} (h:Mid w wr x0 deep s e zs' j V ks) (hb:Below wr.heap.size wr w2):Mid w w2 x0 deep s e zs' j V ks:=
 ⟨h.lo,h.hi,h.few,h.kids,h.res.below hb h.res.lt,h.box.below hb h.box.lt,h.out.below hb,h.offA,h.offB⟩
theorem Mid.next {w w2 w3:World} {x0:Int} {deep s e:Nat} {zs':List Int} {j nx:Nat} {V V':Value} {ks:List T} {t:T} (h:Mid w w2 x0 deep s e zs' j V ks) (h0:zs'.drop j≠[]) (he:zbr (deep+1) (zs'.drop j)= .ok (t,zs'.drop nx)) (h1:j<nx) (h2:nx<=e)
 (ho:NOut w w3 (w.heap.size+1) V' (ks++[t])) (hat:V'.ownBlock=V.ownBlock \/V'.ownBlock=some (w2.heap.size+1)) (hk:∀b,b<w2.heap.size->V.ownBlock≠some b->w3.heap[b]?=w2.heap[b]?):Mid w (w3.setCell ⟨w.heap.size+1,2,none⟩ V') x0 deep s e zs' nx V' (ks++[t]):=by
 have b1:Blk w3 (w.heap.size+1) 30 #[.int .i64 x0,.slice none 0 0,V]:=(hk _ h.box.lt h.offB).trans h.box
 have b0:Blk w3 w.heap.size 30 #[.int .i64 0,.slice none 0 0,.slice none 0 0]:=(hk _ h.res.lt h.offA).trans h.res
 have hlt:=h.box.lt
 have oA:V'.ownBlock≠some w.heap.size:=by
  rcases hat with e|e
  · rw[e];exact h.offA
  · rw[e];intro e';injection e' with e';omega
 have oB:V'.ownBlock≠some (w.heap.size+1):=by
  rcases hat with e|e
  · rw[e];exact h.offB
  · rw[e];intro e';injection e' with e';omega
 refine⟨by have:=h.lo;omega,h2,?_,(h.kids).trans (znJ h0 he),b0.far (by omega) _ _,b1.set 2 V',ho.store (by omega) oB 2 V',oA,oB⟩
 rw[List.length_append]
 have:=h.few
 have:=h.lo
 simp
 omega
theorem zrt {W0 wr:World} {g:Nat} {V:Value} {ks:List T} (h:NOut W0 wr g V ks):∀b,V.ownBlock=some b->b<wr.heap.size:=by
 obtain⟨_,xs,h2,_⟩:=h
 intro b e
 exact(h2.lt b e).2
theorem zi0 (zs:List Int) (k h m:Nat):((zs.drop k).drop h).take m=(zs.take (k+h+m)).drop (k+h):=by
 rw[List.drop_drop,List.drop_take]
 congr 1
 omega
def zud (w W:World):World:=((W.setCell ⟨w.heap.size,0,none⟩ (.int .i64 0)).setCell ⟨w.heap.size,1,none⟩ (.slice none 0 0)).setCell ⟨w.heap.size,2,none⟩ (.slice none 0 0)
theorem zi1 {w W:World} (h:Blk W w.heap.size 30 #[.int .i64 0,.slice none 0 0,.slice none 0 0]):Blk (zud w W) w.heap.size 30 #[.int .i64 0,.slice none 0 0,.slice none 0 0]:=
 ((h.set 0 (.int .i64 0)).set 1 (.slice none 0 0)).set 2 (.slice none 0 0)
theorem zgr {w W:World} (h:Below w.heap.size w W):Below w.heap.size w (zud w W):=((h.setCell (Nat.le_refl _) _).setCell (Nat.le_refl _) _).setCell (Nat.le_refl _) _
def zmi (w W:World) (x0:Int) (V:Value):World:=((W.setCell ⟨w.heap.size,0,none⟩ (.int .i64 x0)).setCell ⟨w.heap.size,1,none⟩ (.slice none 0 0)).setCell ⟨w.heap.size,2,none⟩ V
theorem zru {w W:World} (h:Blk W w.heap.size 30 #[.int .i64 0,.slice none 0 0,.slice none 0 0]) (x0:Int) (V:Value):Blk (zmi w W x0 V) w.heap.size 30 #[.int .i64 x0,.slice none 0 0,V]:=
 ((h.set 0 (.int .i64 x0)).set 1 (.slice none 0 0)).set 2 V
theorem zhU {w W:World} (h:Below w.heap.size w W) (x0:Int) (V:Value):Below w.heap.size w (zmi w W x0 V):=((h.setCell (Nat.le_refl _) _).setCell (Nat.le_refl _) _).setCell (Nat.le_refl _) _
theorem ztw {w W:World} {x0:Int} {V:Value} {ks:List T} (h:NOut w W (w.heap.size+1) V ks) (hA:V.ownBlock≠some w.heap.size) (hx:(Lit.int .i64 x0).wf=true):(T.node x0 [] ks).InP (w.heap.size<= ·) (zmi w W x0 V) (.agg #[.int .i64 x0,.slice none 0 0,V]):=by
 have h':NOut w (zmi w W x0 V) (w.heap.size+1) V ks:=by
  obtain⟨hb,xs,hown,hks⟩:=h
  have hne:∀b,b≠w.heap.size->(zmi w W x0 V).heap[b]?=W.heap[b]?:=fun b hb=>by
   unfold zmi
   rw[heap_setCell_other _ ⟨w.heap.size,2,none⟩ b V hb,heap_setCell_other _ ⟨w.heap.size,1,none⟩ b _ hb,heap_setCell_other _ ⟨w.heap.size,0,none⟩ b _ hb]
  refine⟨zhU hb x0 V,xs,⟨hown.1,?_⟩,fun i hi=> ?_⟩
  · rcases hown.2 with h'|⟨g',cap,cur,e,h1,h2,h3⟩
    · exact .inl h'
    · refine .inr ⟨g',cap,cur,e,h1,?_,h3⟩
      rw[<-h2]
      exact hne g' (fun he=>hA (by rw[e,he];rfl))
  · obtain⟨v0,v1,v2,e0,e1,e2,hin⟩:=hks i hi
    refine⟨v0,v1,v2,e0,e1,e2,T.InP.keep (fun b _ hp=>⟨hp,hne b (fun he=> ?_)⟩) (by simp[zmi]) _ hin⟩
    have:=hp.1
    omega
 exact h'.done (by omega) hx
theorem zu2 (N:Nat) (ih:∀(a:Option Addr) (n ca k deep:Nat) (zs:List Int) (w:World),Row w a n zs->n<=ca->n<=30000->k<=n->deep<=32->n-k<N->
 Calls Tryz.prog 99 #[.slice a n ca,.int .i64 (k:Int),.int .i64 (n:Int),.int .i64 (deep:Int)] w (zcu deep zs k n w))
 (a:Option Addr) (n ca k deep:Nat) (zs:List Int) (w:World) (hr:Row w a n zs) (hnc:n<=ca) (hn:n<=30000) (hk:k<=n) (hd:deep<=32) (hN:n-k<N+1) {h m:Nat} (hh:zbe (zs.drop k)= .ok (h,m)) (hs:¬n<k+h+m) (hdp:¬32<=deep) (hw:zav (zs[k]?.getD 0)=true):
 Calls Tryz.prog 99 #[.slice a n ca,.int .i64 (k:Int),.int .i64 (n:Int),.int .i64 (deep:Int)] w (zcu deep zs k n w):=by
 have R0:=zwd (hr.below (w':=w.alloc (.cells #[.int .i64 0,.slice none 0 0,.slice none 0 0] 30)) ((Below.refl _ _).alloc (Nat.le_refl _) _))
 have HE:=zwd hh
 have hhk:=ze9 hh
 have hlen:(zs.drop k).length=n-k:=by rw[List.length_drop,hr.1]
 rw[hlen]at hhk
 have hm:=zli (fun z hz=>hr.2.1 z (List.mem_of_mem_drop hz)) hh
 have hl2:((zs.drop k).drop h).length=n-(k+h):=by rw[List.length_drop,hlen];omega
 have hs':¬((zs.drop k).drop h).length<m:=by rw[hl2];omega
 obtain⟨b,off,rfl,hb,hcell⟩:=R0.out.2.2 (by omega)
 have c0:=hcell k (by omega)
 have z0:=hr.byte k
 have e0:at0 (zs.drop k) 0=zs[k]?.getD 0:=by rw[zcs];rfl
 have FB:=zwd (fun z=>zgq (deep:=deep) (z:=z) hh hs' hdp (by rw[e0];exact hw))
 have FO:=zwd (fun ks=>zhR (deep:=deep) (ks:=ks) hh hs' hdp (by rw[e0];exact hw))
 rw[zi0,e0,List.drop_drop,List.drop_drop,<-Nat.add_assoc]at FO
 rw[zi0]at FB
 have WI:=zwd hw
 have RZ:=zwd (hr.first (k+h+m) (by omega))
 have ZL:Hid ((zs.take (k+h+m)).length=k+h+m):=by rw[List.length_take,hr.1];exact zwd (by omega)
 have IH:=zwd ih
 clear hh hlen hl2 hs' e0 hw hcell ih
 generalize zs.take (k+h+m)=zs' at FB FO RZ ZL
 generalize zs[k]?.getD 0=x0 at c0 z0 FO WI
 have XW:(Lit.int .i64 x0).wf=true:=WalkArith.wf_i64 (by omega)
 go_enter Tryz.func99,Tryz.ntmps99
 go_wp2_with fail
 refine(zfI _ n ca k zs _ R0.out hn hk).mono ?_
 rw[HE.out]
 rintro e w2 ⟨rfl,q,rfl⟩
 go_wp2_with fail
 refine(zbZ x0 _ XW).mono ?_
 rintro e w3 ⟨rfl,rfl⟩
 rw[WI.out]
 go_wp2_with fail
 go_loopw [15] (fun i wr=>∃(j:Nat) (V:Value) (ks:List T),i= .int .i64 (j:Int)/\ Mid w wr x0 deep (k+h) (k+h+m) zs' j V ks) (fun i _=>k+h+m-(intOf i).toNat)
 case atStart=>exact⟨k+h,_,_,rfl,Mid.start w q x0 deep (k+h) (k+h+m) zs' (by omega)⟩
 case round=>
  obtain⟨j,V,ks,rfl,hmid⟩:=hrel
  have hlo:=hmid.lo
  have hhi:=hmid.hi
  have hfew:=hmid.few
  obtain⟨KA,KD,rfl⟩:=hmid.out.form
  have MD:=zwd hmid
  clear hmid
  by_cases hj:j<k+h+m
  · have RW:=zwd (RZ.out.below MD.out.out.1)
    have NE:=zwd (zrs ZL.out hj)
    have CI:Hid (∀(nl:Nat) (ki ei di:Int),nl=k+h+m->ki=(j:Int)->ei=((k+h+m:Nat):Int)->di=((deep+1:Nat):Int)->
     Calls Tryz.prog 99 #[.slice (some ⟨b,off,none⟩) nl ca,.int .i64 ki,.int .i64 ei,.int .i64 di] wr (zcu (deep+1) zs' j (k+h+m) wr)):=by
     intro nl ki ei di h0 h1 h2 h3
     subst h0
     subst h1
     subst h2
     subst h3
     exact IH.out (some ⟨b,off,none⟩) (k+h+m) ca j (deep+1) zs' wr RW.out (by omega) (by omega) (by omega) (by omega) (by omega)
    go_wp2_with fail
    refine(CI.out _ _ _ _ (by omega) (by omega) (by omega) (by omega)).mono ?_
    rintro e w2 ⟨hb2,hways⟩
    have M2:=zwd (MD.out.go hb2)
    clear CI RW
    rcases hways with⟨z,hz,rfl⟩|⟨t,nx,v,ht,h1,h2,rfl,hin⟩
    · have zr:=zhS hz
      have KB:=zwd (znI NE.out hz)
      have F:Hid (zbr deep (zs.drop k)= .error (if z=3 then 2 else z)):=FB.out z (by rw[MD.out.kids,KB.out];rfl)
      have M3:=zwd (M2.out.go (w2:=w2.alloc (.cells #[.int .i64 0,.slice none 0 0,.slice none 0 0] 30)) ((Below.refl _ _).alloc (Nat.le_refl _) _))
      obtain⟨p0,p1,p2,f0,f1,f2⟩:=M3.out.res.facts
      clear hz MD hb2 M2
      by_cases hz3:z=3
      · subst hz3
        go_wp2_with fail
        exact bodyPost_ret (zct rfl _ _ w.heap.size 30 #[.int .i64 0,.slice none 0 0,.slice none 0 0] (0,0) _ rfl (zi1 M3.out.res) Tryz.underlying30 rfl Tryz.sizeNode) rfl ⟨zgr M3.out.out.1,.inl ⟨2,F.out,rfl⟩⟩
      · have t3:(z==3)=false:=by simpa using hz3
        have t0:(z !=0)=true:=by simp;omega
        have F':Hid (zbr deep (zs.drop k)= .error z):=by rw[F.out,if_neg hz3];exact zwd rfl
        clear hz3 F
        go_wp2_with fail
        exact bodyPost_ret (zct rfl _ _ w.heap.size 30 #[.int .i64 0,.slice none 0 0,.slice none 0 0] (0,0) _ rfl (zi1 M3.out.res) Tryz.underlying30 rfl Tryz.sizeNode) rfl ⟨zgr M3.out.out.1,.inl ⟨z,F'.out,rfl⟩⟩
    · obtain⟨A,n',c',K',m',d',rfl⟩:=hin.form
      have V0:Hid (t.InP (zoe (w.heap.size+1) (.slice KA ks.length KD)) w2 (.agg #[.int .i64 t.tag,.slice A n' c',.slice K' m' d'])):=by
       refine T.InP.keep (fun b hb hp=>⟨⟨?_,fun e=> ?_⟩,rfl⟩) (Nat.le_refl _) _ hin
       · have:=MD.out.box.lt
         have hp':wr.heap.size<=b:=hp
         omega
       · have:=zrt MD.out.out b e
         have hp':wr.heap.size<=b:=hp
         omega
      have M3:=zwd (M2.out.go (w2:=w2.alloc (.cells #[.int .i64 t.tag,.slice A n' c',.slice K' m' d'] 30)) ((Below.refl _ _).alloc (Nat.le_refl _) _))
      have V3:=zwd (T.InP.below (w':=w2.alloc (.cells #[.int .i64 t.tag,.slice A n' c',.slice K' m' d'] 30)) ((Below.refl _ _).alloc (Nat.le_refl _) _) (fun _ h=>h) t V0.out)
      have HT:=zwd ht
      obtain⟨p0,p1,p2,f0,f1,f2⟩:=M3.out.box.facts
      clear ht hin V0 MD hb2 M2
      go_wp2_with (at_builtin;refine zg7 (W0:=w) (g:=w.heap.size+1) (V:= .slice KA ks.length KD) (ks:=ks) (t:=t) rfl _ _ rfl rfl M3.out.out V3.out (w2.heap.size+1) (by simp) rfl (by omega) ?_;intro V4 w4 ho4 hat4 hk4 hb4;clear hb4 p0 p1 p2 f0 f1 f2;obtain⟨K4,D4,rfl⟩:=ho4.form;rw[show(ks++[t]).length=ks.length+1 by simp]at ho4 hat4;obtain⟨p0,p1,p2,f0,f1,f2⟩:=(show Blk w4 _ _ _ from(hk4 _ M3.out.box.lt M3.out.offB).trans M3.out.box).facts;have HO4:=zwd ho4;have HA4:=zwd hat4;have HK4:=zwd hk4;clear ho4 hat4 hk4)
      go_roundw
      case rel=>exact⟨nx,_,ks++[t],rfl,M3.out.next NE.out HT.out h1 h2 HO4.out (by rw[show(w2.alloc (.cells #[.int .i64 t.tag,.slice A n' c',.slice K' m' d'] 30)).heap.size=w2.heap.size+1 by simp];simpa using HA4.out) HK4.out⟩
      case measure=>simp[intOf];omega
  · obtain rfl:j=k+h+m:=by omega
    have KN:Hid (zcZ (deep+1) (zs'.drop (k+h))= .ok ks):=by
     rw[MD.out.kids,List.drop_of_length_le (by rw[ZL.out];exact Nat.le_refl _),zfz]
     simp[app,Hid]
    have F:=zwd (FO.out ks KN.out)
    obtain⟨p0,p1,p2,f0,f1,f2⟩:=MD.out.res.facts
    obtain⟨s0,s1,s2,g0,g1,g2⟩:=MD.out.box.facts
    go_wp2_with fail
    exact bodyPost_ret (zct rfl _ _ w.heap.size 30 #[.int .i64 x0,.slice none 0 0,.slice KA ks.length KD] (0,0) _ rfl (zru MD.out.res x0 _) Tryz.underlying30 rfl Tryz.sizeNode) rfl ⟨zhU MD.out.out.1 x0 _,.inr ⟨.node x0 [] ks,k+h+m,_,F.out,by omega,by omega,rfl,ztw MD.out.out MD.out.offA XW⟩⟩
def zhV (gs lvl Bd:Nat) (zs:List Int) (w:World) (e:Ending) (w':World):Prop:=
 w.grownBy w' (some gs)/\ ((∃z:Int,zbr lvl zs= .error z/\ e= .panicked (errP (norm lvl z))) \/
  (∃(t:T) (r:List Int) (v:Value),zbr lvl zs= .ok (t,r)/\ e= .returned v/\ t.InP (w.heap.size<= ·) w' v/\ Rest w' gs lvl Bd r))
def znK (W0:World) (gs lvl:Nat) (zs:List Int) (w:World) (e:Ending) (w':World):Prop:=
 w.grownBy w' (some gs)/\ ((∃z:Int,zcZ lvl zs= .error z/\ e= .panicked (errP (norm lvl z))) \/
  (∃(ks:List T) (V:Value),zcZ lvl zs= .ok ks/\ e= .returned V/\ NOut W0 w' gs V ks))
theorem NOut.grown {W0 wr w2:World} {g:Nat} {V:Value} {ks:List T} (h:NOut W0 wr g V ks) (hg:W0.heap.size<=g) (hV:V.ownBlock≠some g) (hw:wr.grownBy w2 (some g)):NOut W0 w2 g V ks:=by
 obtain⟨h1,xs,h2,h3⟩:=h
 refine⟨Below.trans h1 (zbS hw W0.heap.size hg h1.size),xs,⟨h2.1,?_⟩,fun i hi=> ?_⟩
 · rcases h2.2 with h'|⟨g',cap,cur,e,h1,h2,h3⟩
   · exact .inl h'
   · refine .inr ⟨g',cap,cur,e,h1,?_,h3⟩
     rw[<-h2]
     exact hw.block g' (Array.getElem?_eq_some_iff.1 h2).1 (fun he=>hV (by injection he with he;rw[e,he];rfl))
 · obtain⟨v0,v1,v2,e0,e1,e2,hin⟩:=h3 i hi
   refine⟨v0,v1,v2,e0,e1,e2,T.InP.keep (fun b hb hp=>⟨hp,hw.block b hb (fun he=> ?_)⟩) hw.size _ hin⟩
   injection he with he
   have:=hp.1
   omega
def zu3 (w:World) (gs:Nat):Nat:=match w.cell? ⟨gs,0,none⟩with|some (.slice _ n _)=>n|_=>0
theorem Rest.len {w:World} {gs lvl Bd:Nat} {zs:List Int} (h:Rest w gs lvl Bd zs):zu3 w gs=zs.length:=by
 obtain⟨A,c,h1,_⟩:=h
 have:=h1.cell 0
 unfold zu3
 rw[this]
 rfl
structure zmj (W0 w wr:World) (gs lvl Bd:Nat) (zs zs':List Int) (V:Value) (ks:List T):Prop where
 rest:Rest wr gs lvl Bd zs'
 kids:zcZ lvl zs=app ks (zcZ lvl zs')
 out:NOut W0 wr gs V ks
 new:∀b,V.ownBlock=some b->w.heap.size<=b
 grown:w.grownBy wr (some gs)
 few:ks.length+zs'.length<=zs.length
theorem zmj.start {W0 w:World} {gs lvl Bd:Nat} {zs:List Int} (hr:Rest w gs lvl Bd zs) (hb:Below W0.heap.size W0 w):zmj W0 w w gs lvl Bd zs zs (.slice none 0 0) []:=
 ⟨hr,(zrr _).symm,NOut.start hb gs,fun b h=>by simp[Value.ownBlock]at h,World.grownBy.refl _ _,by simp⟩
theorem zmj.next {W0 w wr w2 w4:World} {gs lvl Bd:Nat} {zs zs' r:List Int} {V V4:Value} {ks:List T} {t:T} (h:zmj W0 w wr gs lvl Bd zs zs' V ks) (hgw:gs<w.heap.size) (hBd:Bd<=gs) (hne:zs'≠[]) (he:zbr lvl zs'= .ok (t,r)) (hg:wr.grownBy w2 (some gs)) (hr:Rest w2 gs lvl Bd r)
 (ho:NOut W0 w4 gs V4 (ks++[t])) (hat:V4.ownBlock=V.ownBlock \/V4.ownBlock=some (w2.heap.size+1)) (hk:∀b,b<w2.heap.size->V.ownBlock≠some b->w4.heap[b]?=w2.heap[b]?) (hb4:Below W0.heap.size w2 w4):zmj W0 w w4 gs lvl Bd zs r V4 (ks++[t]):=by
 have hs:w.heap.size<=w2.heap.size:=Nat.le_trans h.grown.size hg.size
 have g2:=zal h.grown hg
 have hV:∀b,b<w.heap.size->V.ownBlock≠some b:=fun b hb e=>by
  have:=h.new b e
  omega
 refine⟨hr.keep hb4.size (fun b hb hp=>hk b hb (hV b (by omega))),h.kids.trans (znJ hne he),ho,fun b e=> ?_,⟨hb4.os.trans g2.os,hb4.tape.trans g2.tape,hb4.output.trans g2.output,Nat.le_trans g2.size hb4.size,fun k hk1 hk2=>(hk k (by omega) (hV k hk1)).trans (g2.block k hk1 hk2)⟩,?_⟩
 · rcases hat with e'|e'
   · exact h.new b (e'.symm.trans e)
   · rw[e']at e
     injection e with e
     omega
 · rw[List.length_append]
   have:=h.few
   have:=zf7 he
   simp
   omega
theorem zu4 (N:Nat) (ih:∀(gs lvl Bd:Nat) (zs:List Int) (w:World),zs.length<N->lvl<=32->zs.length<=30000->Rest w gs lvl Bd zs->Calls Tryz.prog 186 #[.pointer (some ⟨gs,0,none⟩)] w (zhV gs lvl Bd zs w))
 (W0:World) (gs lvl Bd:Nat) (zs:List Int) (w:World) (hN:zs.length<N) (hl:lvl<=32) (hn:zs.length<=30000) (hr:Rest w gs lvl Bd zs) (hW:W0.heap.size<=gs) (hB:Below W0.heap.size W0 w):
 Calls Tryz.prog 212 #[.pointer (some ⟨gs,0,none⟩)] w (znK W0 gs lvl zs w):=by
 have M0:=zwd (zmj.start hr hB)
 have IH:=zwd ih
 have hgw:gs<w.heap.size:=by
  obtain⟨A,c,h,_⟩:=hr
  exact h.lt
 have hBd:Bd<=gs:=by
  obtain⟨A,c,_,_,_,_,h,_⟩:=hr
  exact h
 clear hr hB ih
 go_enter Tryz.func212,Tryz.ntmps212
 go_wp2_with fail
 go_loopw [3] (fun V wr=>∃(zs':List Int) (ks:List T),zmj W0 w wr gs lvl Bd zs zs' V ks) (fun _ wr=>zu3 wr gs)
 case atStart=>exact⟨zs,[],M0.out⟩
 case round=>
  obtain⟨zs',ks,hmid⟩:=hrel
  have MD:=zwd hmid
  have hfew:=hmid.few
  have HL:=zwd hmid.rest.len
  obtain⟨KA,KD,rfl⟩:=hmid.out.form
  obtain⟨A,c,hblk,_⟩:=hmid.rest
  have c0:=hblk.cell 0
  simp only[List.getElem?_toArray,List.getElem?_cons_zero]at c0
  clear hmid hblk M0
  by_cases h0:zs'.length=0
  · obtain rfl:zs'=[]:=List.eq_nil_of_length_eq_zero h0
    have KN:Hid (zcZ lvl zs= .ok ks):=by
     rw[MD.out.kids,zfz]
     simp[app,Hid]
    simp only[List.length_nil]at c0
    clear h0 HL hfew
    go_wp2_with fail
    go_ret
    exact⟨MD.out.grown,.inr ⟨ks,_,KN.out,rfl,MD.out.out⟩⟩
  · have NE:Hid (zs'≠[]):=fun e=>h0 (by rw[e];rfl)
    have t0:((zs'.length:Int) !=0)=true:=by simpa using h0
    have CI:=zwd (IH.out gs lvl Bd zs' wr (by omega) hl (by omega) MD.out.rest)
    go_wp2_with fail
    refine CI.out.mono ?_
    rintro e w2 ⟨hg2,hways⟩
    have G2:=zwd hg2
    clear CI
    rcases hways with⟨z,hz,rfl⟩|⟨t,r,v,ht,rfl,hin,hrest⟩
    · have F:Hid (zcZ lvl zs= .error z):=by
       rw[MD.out.kids,znI NE.out hz]
       rfl
      exact⟨rfl,zal MD.out.grown G2.out,.inl ⟨z,F.out,rfl⟩⟩
    · obtain⟨A',n',c',K',m',d',rfl⟩:=hin.form
      have hVg:∀b,(Value.slice KA ks.length KD).ownBlock=some b->w.heap.size<=b:=MD.out.new
      have O2:Hid (NOut W0 w2 gs (.slice KA ks.length KD) ks):=MD.out.out.grown hW (fun e=>Nat.not_le.2 hgw (hVg gs e)) hg2
      have V0:Hid (t.InP (zoe gs (.slice KA ks.length KD)) w2 (.agg #[.int .i64 t.tag,.slice A' n' c',.slice K' m' d'])):=by
       refine T.InP.keep (fun b hb hp=>⟨⟨?_,fun e=> ?_⟩,rfl⟩) (Nat.le_refl _) _ hin
       · have hp':wr.heap.size<=b:=hp
         have:=MD.out.grown.size
         omega
       · have:=zrt MD.out.out b e
         have hp':wr.heap.size<=b:=hp
         omega
      have HT:=zwd ht
      have HR:=zwd hrest
      clear ht hin hrest hg2 hVg
      go_wp2_with (at_builtin;refine zg7 (W0:=W0) (g:=gs) (V:= .slice KA ks.length KD) (ks:=ks) (t:=t) rfl _ _ rfl rfl O2.out V0.out w2.heap.size rfl rfl (by omega) ?_;intro V4 w4 ho4 hat4 hk4 hb4;have MN:=zwd (MD.out.next hgw hBd NE.out HT.out G2.out HR.out ho4 hat4 hk4 hb4);clear ho4 hat4 hk4 hb4)
      go_roundw
      case rel=>exact⟨r,ks++[t],MN.out⟩
      case measure=>
       rw[MN.out.rest.len,HL.out]
       exact zf7 HT.out
theorem ztx:∀(N:Nat) (a:Option Addr) (n ca k deep:Nat) (zs:List Int) (w:World),Row w a n zs->n<=ca->n<=30000->k<=n->deep<=32->n-k<N->
 Calls Tryz.prog 99 #[.slice a n ca,.int .i64 (k:Int),.int .i64 (n:Int),.int .i64 (deep:Int)] w (zcu deep zs k n w):=by
 intro N
 induction N with
 |zero=>intro a n ca k deep zs w _ _ _ _ _ h;omega
 |succ N ih=>
   intro a n ca k deep zs w hr hnc hn hk hd hN
   cases hh:zbe (zs.drop k)with
   |error z=>exact ztv a n ca k deep zs w hr hnc hn hk hd hh
   |ok p=>
     obtain⟨h,m⟩:=p
     by_cases hs:n<k+h+m
     · exact zoO a n ca k deep zs w hr hnc hn hk hd hh hs
     by_cases hdp:32<=deep
     · exact zrp a n ca k deep zs w hr hnc hn hk hd hh hs hdp
     cases hw:zav (zs[k]?.getD 0)
     · exact zrq a n ca k deep zs w hr hnc hn hk hd hh hs hdp hw
     · exact zu2 N ih a n ca k deep zs w hr hnc hn hk hd hN hh hs hdp hw
def zhW (x:Except Int T) (w:World) (e:Ending) (w':World):Prop:=
 Below w.heap.size w w'/\
 ((∃z:Int,x= .error z/\ e= .returned (.tuple #[.agg #[.int .i64 0,.slice none 0 0,.slice none 0 0],.int .i64 z])) \/
  (∃(t:T) (v:Value),x= .ok t/\ e= .returned (.tuple #[v,.int .i64 0])/\ t.InP (w.heap.size<= ·) w' v))
theorem zbT {P:Program} {fn:Func} {p u:Tmp} {ty:TypeId} (h:fn.results=#[.cell p ty,.tmp u]) (tmps:Array Value) (w:World) (g:Nat) (t:TypeId) (cs:Array Value) (fr:Nat×Nat) (d:TypeDesc)
 (hp:tmps.getD p undef= .pointer (some ⟨g,0,none⟩)) (hg:w.heap[g]?=some (.cells cs t fr))
 (hu:P.underlying ty=some d) (hd:(match d with| .struct _| .array _ _=>true|_=>false)=true) (hi:(P.info? ty).map (·.size)=some cs.size):
 (results fn tmps).run P w= .ok (.tuple #[.agg cs,tmps.getD u undef]) w:=by
 rw[results_cell_tmp h,hp]
 simp[asAddr,run_loadVar_row w g t ty cs fr d hg hu hd hi,Result.andThen]
theorem zi2 {l:List Int} (h:20000<l.length):zdq l= .error 5:=if_pos h
theorem zty {l:List Int} {z:Int} (h:¬20000<l.length) (e:zbr 0 l= .error z):zdq l= .error z:=by rw[zdq,if_neg h,e]
theorem zrv {l r:List Int} {t:T} (h:¬20000<l.length) (e:zbr 0 l= .ok (t,r)) (hr:r≠[]):zdq l= .error 2:=by
 rw[zdq,if_neg h,e]
 exact if_neg hr
theorem zu5 {l r:List Int} {t:T} (h:¬20000<l.length) (e:zbr 0 l= .ok (t,r)) (hr:r=[]):zdq l= .ok t:=by
 rw[zdq,if_neg h,e]
 exact if_pos hr
def zfd (w W:World) (a b c:Value):World:=((W.setCell ⟨w.heap.size,0,none⟩ a).setCell ⟨w.heap.size,1,none⟩ b).setCell ⟨w.heap.size,2,none⟩ c
theorem zdn {w W:World} {x y z:Value} (h:Blk W w.heap.size 30 #[x,y,z]) (a b c:Value):Blk (zfd w W a b c) w.heap.size 30 #[a,b,c]:=
 ((h.set 0 a).set 1 b).set 2 c
theorem zc5 {w W:World} (h:Below w.heap.size w W) (a b c:Value):Below w.heap.size w (zfd w W a b c):=((h.setCell (Nat.le_refl _) _).setCell (Nat.le_refl _) _).setCell (Nat.le_refl _) _
theorem zjP {w W:World} {t:T} {v:Value} (h:t.InP (w.heap.size+1<= ·) W v) (a b c:Value):t.InP (w.heap.size<= ·) (zfd w W a b c) v:=
 T.InP.keep (fun x _ hp=>⟨by have hp':w.heap.size+1<=x:=hp;show w.heap.size<=x;omega,by
  have hp':w.heap.size+1<=x:=hp
  have hx:x≠w.heap.size:=by omega
  unfold zfd
  rw[heap_setCell_other _ ⟨w.heap.size,2,none⟩ x c hx,heap_setCell_other _ ⟨w.heap.size,1,none⟩ x b hx,heap_setCell_other _ ⟨w.heap.size,0,none⟩ x a hx]⟩) (by simp[zfd]) _ h
theorem rread_any (a:Option Addr) (n ca:Nat) (zs:List Int) (w:World) (hr:Row w a n zs) (hnc:n<=ca) (hn:n<=30000):Calls Tryz.prog 59 #[.slice a n ca] w (zhW (zdq zs) w):=by
 have hlen:=hr.1
 have B0:Hid (Below w.heap.size w (w.alloc (.cells #[.int .i64 0,.slice none 0 0,.slice none 0 0] 30))):=(Below.refl _ _).alloc (Nat.le_refl _) _
 have K0:=zwd (Blk.new w 30 #[.int .i64 0,.slice none 0 0,.slice none 0 0])
 by_cases h5:20000<n
 · have F:=zwd (zi2 (l:=zs) (by omega))
   clear hlen
   go_enter Tryz.func59,Tryz.ntmps59
   go_wp2_with fail
   exact bodyPost_ret (zbT rfl _ _ w.heap.size 30 #[.int .i64 0,.slice none 0 0,.slice none 0 0] (0,0) _ rfl K0.out Tryz.underlying30 rfl Tryz.sizeNode) rfl ⟨B0.out,.inl ⟨5,F.out,rfl⟩⟩
 have N5:Hid (¬20000<zs.length):=by rw[hlen];exact zwd h5
 have R0:=zwd (hr.below (w':=w.alloc (.cells #[.int .i64 0,.slice none 0 0,.slice none 0 0] 30)) ((Below.refl _ _).alloc (Nat.le_refl _) _))
 have CI:Hid (∀(ki ei di:Int),ki=((0:Nat):Int)->ei=(n:Int)->di=((0:Nat):Int)->
  Calls Tryz.prog 99 #[.slice a n ca,.int .i64 ki,.int .i64 ei,.int .i64 di] (w.alloc (.cells #[.int .i64 0,.slice none 0 0,.slice none 0 0] 30)) (zcu 0 zs 0 n (w.alloc (.cells #[.int .i64 0,.slice none 0 0,.slice none 0 0] 30)))):=by
  intro ki ei di h1 h2 h3
  subst h1
  subst h2
  subst h3
  exact ztx (n+1) a n ca 0 0 zs _ R0.out hnc hn (Nat.zero_le _) (by omega) (by omega)
 have HL:=zwd hlen
 clear hlen
 go_enter Tryz.func59,Tryz.ntmps59
 go_wp2_with fail
 refine(CI.out _ _ _ (by omega) (by omega) (by omega)).mono ?_
 rintro e w2 ⟨hb2,hways⟩
 have B2:=zwd (Below.step B0.out hb2)
 have K2:=zwd (K0.out.below hb2 (by simp))
 rcases hways with⟨z,hz,rfl⟩|⟨t,nx,v,ht,h1,h2,rfl,hin⟩
 · rw[List.drop_zero]at hz
   have zr:=zhS hz
   have F:=zwd (zty N5.out hz)
   have t0:(z !=0)=true:=by simp;omega
   have K3:=zwd (K2.out.alloc (.cells #[.int .i64 0,.slice none 0 0,.slice none 0 0] 30))
   have B3:Hid (Below w.heap.size w (w2.alloc (.cells #[.int .i64 0,.slice none 0 0,.slice none 0 0] 30))):=Below.step B2.out ((Below.refl _ _).alloc (Nat.le_refl _) _)
   obtain⟨p0,p1,p2,f0,f1,f2⟩:=K3.out.facts
   clear hz hb2 CI K2 B2 K0
   go_wp2_with fail
   exact bodyPost_ret (zbT rfl _ _ w.heap.size 30 #[.int .i64 0,.slice none 0 0,.slice none 0 0] (0,0) _ rfl (zdn K3.out _ _ _) Tryz.underlying30 rfl Tryz.sizeNode) rfl ⟨zc5 B3.out _ _ _,.inl ⟨z,F.out,rfl⟩⟩
 · rw[List.drop_zero]at ht
   obtain⟨A,n',c',K',m',d',rfl⟩:=hin.form
   have K3:=zwd (K2.out.alloc (.cells #[.int .i64 t.tag,.slice A n' c',.slice K' m' d'] 30))
   have B3:Hid (Below w.heap.size w (w2.alloc (.cells #[.int .i64 t.tag,.slice A n' c',.slice K' m' d'] 30))):=Below.step B2.out ((Below.refl _ _).alloc (Nat.le_refl _) _)
   have V3:Hid (t.InP (w.heap.size+1<= ·) (w2.alloc (.cells #[.int .i64 t.tag,.slice A n' c',.slice K' m' d'] 30)) (.agg #[.int .i64 t.tag,.slice A n' c',.slice K' m' d'])):=
    T.InP.below ((Below.refl _ _).alloc (Nat.le_refl _) _) (fun b hb=>by simpa using hb) t hin
   obtain⟨p0,p1,p2,f0,f1,f2⟩:=K3.out.facts
   by_cases hnx:nx<n
   · have F:=zwd (zrv N5.out ht (zrs HL.out hnx))
     clear ht hin hb2 CI K2 B2 K0
     go_wp2_with fail
     exact bodyPost_ret (zbT rfl _ _ w.heap.size 30 #[.int .i64 0,.slice none 0 0,.slice none 0 0] (0,0) _ rfl (zdn K3.out _ _ _) Tryz.underlying30 rfl Tryz.sizeNode) rfl ⟨zc5 B3.out _ _ _,.inl ⟨2,F.out,rfl⟩⟩
   · have F:=zwd (zu5 N5.out ht (List.drop_of_length_le (by rw[HL.out];omega)))
     clear ht hin hb2 CI K2 B2 K0
     go_wp2_with fail
     exact bodyPost_ret (zbT rfl _ _ w.heap.size 30 #[.int .i64 t.tag,.slice A n' c',.slice K' m' d'] (0,0) _ rfl (zdn K3.out _ _ _) Tryz.underlying30 rfl Tryz.sizeNode) rfl ⟨zc5 B3.out _ _ _,.inr ⟨t,_,F.out,rfl,zjP V3.out _ _ _⟩⟩
structure ES (w W:World) (gs lvl Bd:Nat) (l:List Int):Prop where
 rest:Rest W gs lvl Bd l
 box:Blk W w.heap.size 30 #[.int .i64 0,.slice none 0 0,.slice none 0 0]
 grown:w.grownBy W (some gs)
 lt:gs<w.heap.size
theorem ES.start {w:World} {gs lvl Bd:Nat} {l:List Int} (h:Rest w gs lvl Bd l):ES w (w.alloc (.cells #[.int .i64 0,.slice none 0 0,.slice none 0 0] 30)) gs lvl Bd l:=
 ⟨h.below ((Below.refl _ _).alloc (Nat.le_refl _) _),Blk.new _ _ _,World.grownBy_alloc _ _ _,by obtain⟨A,c,h1,_⟩:=h;exact h1.lt⟩
theorem ES.go {w W W':World} {gs lvl Bd:Nat} {l l':List Int} (h:ES w W gs lvl Bd l) (hg:W.grownBy W' (some gs)) (hr:Rest W' gs lvl Bd l'):ES w W' gs lvl Bd l':=
 ⟨hr,h.box.grown hg (by have:=h.lt;omega),zal h.grown hg,h.lt⟩
theorem ES.below {w W W':World} {gs lvl Bd:Nat} {l:List Int} (h:ES w W gs lvl Bd l) (hb:Below W.heap.size W W'):ES w W' gs lvl Bd l:=h.go (zgU hb) (h.rest.below hb)
theorem Rest.level {w:World} {gs lvl Bd:Nat} {zs:List Int} (h:Rest w gs lvl Bd zs):w.cell? ⟨gs,1,none⟩=some (.int .i64 (lvl:Int)):=by
 obtain⟨A,c,h1,_⟩:=h
 exact h1.cell 1
theorem Rest.low {w:World} {gs lvl Bd:Nat} {zs:List Int} (h:Rest w gs lvl Bd zs):Bd<=gs:=by
 obtain⟨A,c,_,_,_,_,h,_⟩:=h
 exact h
theorem zi3 {w W:World} {g:Nat} (h:w.grownBy W (some g)) (a b c:Value):w.grownBy (zfd w W a b c) (some g):=by
 refine⟨h.os,h.tape,h.output,by simpa[zfd]using h.size,fun k hk hne=> ?_⟩
 have hx:k≠w.heap.size:=by omega
 unfold zfd
 rw[heap_setCell_other _ ⟨w.heap.size,2,none⟩ k c hx,heap_setCell_other _ ⟨w.heap.size,1,none⟩ k b hx,heap_setCell_other _ ⟨w.heap.size,0,none⟩ k a hx]
 exact h.block k hk hne
theorem zlk {w W:World} {gs lvl Bd:Nat} {l:List Int} (h:Rest W gs lvl Bd l) (hl:gs<w.heap.size) (a b c:Value):Rest (zfd w W a b c) gs lvl Bd l:=by
 have hB:Bd<=gs:=by
  obtain⟨A,cc,_,_,_,_,h,_⟩:=h
  exact h
 refine h.keep (by simp[zfd]) (fun k _ hk=> ?_)
 have hx:k≠w.heap.size:=by omega
 unfold zfd
 rw[heap_setCell_other _ ⟨w.heap.size,2,none⟩ k c hx,heap_setCell_other _ ⟨w.heap.size,1,none⟩ k b hx,heap_setCell_other _ ⟨w.heap.size,0,none⟩ k a hx]
theorem zu6 (lvl:Nat) (z:Int):norm (lvl+1) z=norm lvl (if z=3 then 2 else z):=by
 unfold norm
 by_cases h:z=3
 · simp[h]
 · simp[h]
theorem zwa (lvl:Nat):norm lvl 4=4:=by simp[norm]
theorem zu7 {W0 W:World} {V:Value} {zs:List Int} {z:Int} (h:Out W0 W V zs) (hz:(Lit.int .i64 z).wf=true) (hb:∀x∈zs,0<=x/\ x<=255) (hn:zs.length<=1000000):∃a c,V= .slice a zs.length c/\ (T.node z zs []).InP (W0.heap.size<= ·) W (.agg #[.int .i64 z,.slice a zs.length c,.slice none 0 0]):=by
 obtain⟨a,c,rfl,hr⟩:=h.row hb
 refine⟨a,c,rfl,?_⟩
 unfold T.InP
 refine⟨a,zs.length,c,none,0,0,rfl,hz,hr,by unfold maxLen;omega,h.nilc,rfl,⟨Nat.zero_le _,zaJ h.1,Nat.le_refl _⟩,fun h0=> ?_,fun h0=>absurd h0 (by omega)⟩
 obtain⟨g,cap,e,hg⟩:=h.form h0
 injection e with e1 e2 e3
 exact⟨g,0,e1,hg⟩
theorem zoP (N:Nat) (ih:∀(gs lvl Bd:Nat) (zs:List Int) (w:World),zs.length<N->lvl<=32->zs.length<=30000->Rest w gs lvl Bd zs->Calls Tryz.prog 186 #[.pointer (some ⟨gs,0,none⟩)] w (zhV gs lvl Bd zs w))
 (gs lvl Bd:Nat) (zs:List Int) (w:World) (hN:zs.length<N+1) (hl:lvl<=32) (hn:zs.length<=30000) (hr:Rest w gs lvl Bd zs):
 Calls Tryz.prog 186 #[.pointer (some ⟨gs,0,none⟩)] w (zhV gs lvl Bd zs w):=by
 have hby:∀z∈zs,0<=z/\ z<=255:=by
  obtain⟨A,c,_,h,_⟩:=hr
  exact h.2.1
 have z0:=zdk hby 0
 have E0:=zwd (ES.start hr)
 have HH:=zwd (zts zs)
 clear hr
 by_cases h1:zs.length<1
 · have F:Hid (zbr lvl zs= .error 3):=zfK (HH.out.trans (if_pos h1))
   have CI:=zwd (show Calls Tryz.prog 210 #[.pointer (some ⟨gs,0,none⟩),.int .i64 1] _ _ from zdB gs lvl Bd 1 zs _ (by omega) E0.out.rest hn h1 (by omega))
   clear HH
   go_enter Tryz.func186,Tryz.ntmps186
   go_wp2_with fail
   refine CI.out.mono ?_
   rintro e w2 ⟨rfl,rfl⟩
   exact⟨rfl,E0.out.grown,.inl ⟨3,F.out,rfl⟩⟩
 have CI:=zwd (show Calls Tryz.prog 210 #[.pointer (some ⟨gs,0,none⟩),.int .i64 1] _ _ from zhO gs lvl Bd 1 zs _ E0.out.rest hn (by omega))
 have el:(zs.drop 1).length=zs.length-1:=List.length_drop
 have HH2:Hid (zbe zs=if at0 zs 0%32=31 then .error 2 else(match lenL (zs.drop 1)with| .error z=> .error z| .ok (h,m)=> .ok (h+1,m))):=HH.out.trans (if_neg h1)
 clear HH
 by_cases c1:at0 zs 0%32=31
 · have F:Hid (zbr lvl zs= .error 2):=zfK (HH2.out.trans (if_pos c1))
   have TB:Hid (tagB (at0 zs 0)=false):=by simp[tagB,c1,Hid]
   clear HH2 el
   go_enter Tryz.func186,Tryz.ntmps186
   go_wp2_with fail
   refine CI.out.mono ?_
   intro e w2 h2
   obtain⟨b,off,c,rfl,hcell,hrest,hg⟩:=zc0 h2 (by omega)
   have E2:=zwd (E0.out.go hg hrest)
   clear h2 hg hrest CI E0
   generalize at0 zs 0=x0 at hcell z0 TB c1
   clear c1
   go_wp2_with fail
   refine(zeN x0 _ (WalkArith.wf_i64 (by omega))).mono ?_
   rintro e w3 ⟨rfl,rfl⟩
   rw[TB.out]
   go_wp2_with fail
   exact⟨rfl,E2.out.grown,.inl ⟨2,F.out,by rw[ztu];rfl⟩⟩
 have HH3:Hid (zbe zs=(match lenL (zs.drop 1)with| .error z=> .error z| .ok (h,m)=> .ok (h+1,m))):=HH2.out.trans (if_neg c1)
 have TB:Hid (tagB (at0 zs 0)=true):=by
  have h2:at0 zs 0<256:=by omega
  simp[tagB,c1,h2,z0.1,Hid]
 have EB:=zwd (fun(w2:World) (hr2:Rest w2 gs lvl Bd (zs.drop 1))=>zu0 gs lvl Bd (zs.drop 1) w2 (by omega) hr2 (by omega))
 have EL:=zwd el
 clear HH2 c1 el
 go_enter Tryz.func186,Tryz.ntmps186
 go_wp2_with fail
 refine CI.out.mono ?_
 intro e w2 h2
 obtain⟨b,off,c,rfl,hcell,hrest,hg⟩:=zc0 h2 (by omega)
 have E2:=zwd (E0.out.go hg hrest)
 have C3:=zwd (EB.out w2 hrest)
 obtain⟨x0,hx0⟩:∃x0,x0=at0 zs 0:=⟨_,rfl⟩
 rw[<-hx0]at hcell z0 TB
 have X0:=zwd hx0
 clear h2 hg hrest CI E0 EB hx0
 have XW:(Lit.int .i64 x0).wf=true:=WalkArith.wf_i64 (by omega)
 go_wp2_with fail
 refine(zeN x0 _ XW).mono ?_
 rintro e w3 ⟨rfl,rfl⟩
 rw[TB.out]
 clear TB
 go_wp2_with fail
 refine C3.out.mono ?_
 rintro e w3 ⟨hg3,hways⟩
 clear C3 hcell
 rcases hways with⟨z,hz,rfl⟩|⟨h,m,hz,rfl,hr3⟩
 · have F:Hid (zbr lvl zs= .error z):=zfK (by rw[HH3.out,hz])
   exact⟨rfl,zal E2.out.grown hg3,.inl ⟨z,F.out,rfl⟩⟩
 have HD:Hid (zbe zs= .ok (h+1,m)):=by rw[HH3.out,hz];exact zwd rfl
 have hhk:=ze9 HD.out
 have hmm:=zli hby HD.out
 rw[List.drop_drop,Nat.add_comm 1 h]at hr3
 have E3:=zwd (E2.out.go hg3 hr3)
 have hl3:(zs.drop (h+1)).length=zs.length-(h+1):=List.length_drop
 clear HH3 E2 hg3 hr3 hz EL
 by_cases hs:(zs.drop (h+1)).length<m
 · have F:Hid (zbr lvl zs= .error 3):=zhQ HD.out hs
   have CI:=zwd (zdB gs lvl Bd m (zs.drop (h+1)) w3 (by omega) E3.out.rest (by omega) hs (by omega))
   go_wp2_with fail
   refine CI.out.mono ?_
   rintro e w4 ⟨rfl,rfl⟩
   exact⟨rfl,E3.out.grown,.inl ⟨3,F.out,rfl⟩⟩
 have CI:=zwd (zhO gs lvl Bd m (zs.drop (h+1)) w3 E3.out.rest (by omega) (by omega))
 go_wp2_with fail
 refine CI.out.mono ?_
 rintro e w4 ⟨A,c4,rfl,hrow,hmc,hAb,hA0,hrest,hg⟩
 have E4:=zwd (E3.out.go hg hrest)
 have RW:=zwd hrow
 have AB:=zwd hAb
 have A0:=zwd hA0
 have cl:=hrest.level
 have hzl:((zs.drop (h+1)).take m).length=m:=by rw[List.length_take];omega
 clear hrest hrow hAb hA0 hg CI E3
 by_cases hd:32<=lvl
 · have F:Hid (zbr lvl zs= .error 4):=ziX HD.out hs hd
   have t0:decide ((32:Int)<=(lvl:Int))=true:=by simp;omega
   go_wp2_with fail
   exact⟨rfl,E4.out.grown,.inl ⟨4,F.out,by rw[zwa];rfl⟩⟩
 cases hw:zav x0
 · have F:=zwd (ziY HD.out hs hd (by rw[<-X0.out];exact hw))
   rw[<-X0.out]at F
   have WI:=zwd hw
   clear hw
   go_wp2_with fail
   refine(zcj x0 _ XW).mono ?_
   rintro e w5 ⟨rfl,rfl⟩
   rw[WI.out]
   have HZ:=zwd hzl
   have O0:Hid (Out w4 w4 (.slice none 0 0) []):=⟨World.ownsRow_nil _ _ _ _,Below.refl _ _⟩
   have HB:=zwd (fun x (hx:x∈(zs.drop (h+1)).take m)=>hby x (List.mem_of_mem_drop (List.mem_of_mem_take hx)))
   clear hby hzl
   generalize(zs.drop (h+1)).take m=zm at F RW HZ HB
   go_wp2_with (at_builtin;go_must (refine zag (W0:=w4) (L:=[]) (zs:=zm) rfl _ _ rfl rfl O0.out rfl RW.out A0.out (by simp;omega) ?_;intro V5 w5 ho5;rw[List.nil_append]at ho5;obtain⟨a5,cc5,rfl,hin5⟩:=zu7 ho5 XW HB.out (by rw[HZ.out];omega);have E5:=zwd (E4.out.below ho5.2);have I5:=zwd (T.InP.keep (Q:=(w.heap.size+1<= ·)) (fun b _ hp=>⟨by have hp':w4.heap.size<=b:=hp;have:=E4.out.box.lt;show w.heap.size+1<=b;omega,rfl⟩) (Nat.le_refl _) _ hin5);clear ho5 hin5;obtain⟨p0,p1,p2,f0,f1,f2⟩:=E5.out.box.facts))
   exact bodyPost_ret (results_cell_row rfl _ _ w.heap.size 30 #[.int .i64 x0,.slice a5 zm.length cc5,.slice none 0 0] (0,0) _ rfl (zdn E5.out.box _ _ _) Tryz.underlying30 rfl Tryz.sizeNode) rfl ⟨zi3 E5.out.grown _ _ _,.inr ⟨_,_,_,F.out,rfl,zjP I5.out _ _ _,zlk E5.out.rest E5.out.lt _ _ _⟩⟩
 · have FB:=zwd (fun z=>zgq (z:=z) HD.out hs hd (by rw[<-X0.out];exact hw))
   have FO:=zwd (fun ks=>zhR (ks:=ks) HD.out hs hd (by rw[<-X0.out];exact hw))
   rw[<-X0.out]at FO
   have WI:=zwd hw
   have HZ:=zwd hzl
   clear hw hby hzl
   generalize(zs.drop (h+1)).take m=zm at FB FO RW HZ
   have C5:Hid (∀ii:Int,ii=((lvl+1:Nat):Int)->Calls Tryz.prog 212 #[.pointer (some ⟨w4.heap.size,0,none⟩)] (w4.alloc (.cells #[.slice A m c4,.int .i64 ii] 197)) (znK w4 w4.heap.size (lvl+1) zm (w4.alloc (.cells #[.slice A m c4,.int .i64 ii] 197)))):=by
    intro ii hii
    subst hii
    have hbl:Below w4.heap.size w4 (w4.alloc (.cells #[.slice A m c4,.int .i64 ((lvl+1:Nat):Int)] 197)):=(Below.refl _ _).alloc (Nat.le_refl _) _
    refine zu4 N ih w4 w4.heap.size (lvl+1) Bd zm _ (by rw[HZ.out];omega) (by omega) (by rw[HZ.out];omega) ⟨A,c4,by rw[HZ.out];exact Blk.new _ _ _,by rw[HZ.out];exact RW.out.below hbl,by rw[HZ.out];exact hmc,by rw[HZ.out];exact AB.out,?_,A0.out⟩ (Nat.le_refl _) hbl
    have h1:=E4.out.rest.low
    have h2:=E4.out.lt
    have h3:=E4.out.grown.size
    omega
   clear ih
   go_wp2_with fail
   refine(zcj x0 _ XW).mono ?_
   rintro e w5 ⟨rfl,rfl⟩
   rw[WI.out]
   go_wp2_with fail
   refine(C5.out _ (by omega)).mono ?_
   rintro e w6 ⟨hg6,hways⟩
   have E6:=zwd (E4.out.below (Below.trans ((Below.refl _ _).alloc (Nat.le_refl _) _) (zbS hg6 w4.heap.size (Nat.le_refl _) (by simp))))
   clear hg6 C5
   rcases hways with⟨z,hz,rfl⟩|⟨ks,V,hks,rfl,hout⟩
   · exact⟨rfl,E6.out.grown,.inl ⟨_,FB.out z hz,by rw[zu6]⟩⟩
   · have F:=zwd (FO.out ks hks)
     have I6:=zwd (T.InP.keep (Q:=(w.heap.size+1<= ·)) (fun b _ hp=>⟨by have hp':w4.heap.size<=b:=hp;have:=E4.out.box.lt;show w.heap.size+1<=b;omega,rfl⟩) (Nat.le_refl _) _ (hout.done (Nat.le_refl _) XW))
     obtain⟨K6,d6,rfl⟩:=hout.form
     clear hks hout FB FO
     obtain⟨p0,p1,p2,f0,f1,f2⟩:=E6.out.box.facts
     go_wp2_with fail
     exact bodyPost_ret (results_cell_row rfl _ _ w.heap.size 30 #[.int .i64 x0,.slice none 0 0,.slice K6 ks.length d6] (0,0) _ rfl (zdn E6.out.box _ _ _) Tryz.underlying30 rfl Tryz.sizeNode) rfl ⟨zi3 E6.out.grown _ _ _,.inr ⟨_,_,_,F.out,rfl,zjP I6.out _ _ _,zlk E6.out.rest E6.out.lt _ _ _⟩⟩
theorem zrw:∀(N gs lvl Bd:Nat) (zs:List Int) (w:World),zs.length<N->lvl<=32->zs.length<=30000->Rest w gs lvl Bd zs->Calls Tryz.prog 186 #[.pointer (some ⟨gs,0,none⟩)] w (zhV gs lvl Bd zs w):=by
 intro N
 induction N with
 |zero=>intro gs lvl Bd zs w h;omega
 |succ N ih=>exact fun gs lvl Bd zs w hN hl hn hr=>zoP N ih gs lvl Bd zs w hN hl hn hr
def caught (w:World) (p q:Nat) (z:Int):World:=(((w.setCell ⟨p,0,none⟩ (.int .i64 0)).setCell ⟨p,1,none⟩ (.slice none 0 0)).setCell ⟨p,2,none⟩ (.slice none 0 0)).setCell ⟨q,0,none⟩ (.int .i64 z)
theorem zll (z:Int) (w:World):(Instr.typeAssert (.iface 31 (.int .i64 z)) 20 31 true).run Tryz.prog w= .ok (.tuple #[.int .i64 z,.bool true]) w:=by
 simp[Instr.typeAssert,run_underlying Tryz.underlying31,Result.andThen]
theorem zeo (p q:Nat) (z y:Int) (a b c:Value) (w:World) (hp:Blk w p 30 #[a,b,c]) (hq:Blk w q 31 #[.int .i64 y]) (hne:q≠p):
 CallsD Tryz.prog 185 #[.pointer (some ⟨p,0,none⟩),.pointer (some ⟨q,0,none⟩)] (.panicking (errP z)) w fun e u' w'=>
  e= .returned (.tuple #[])/\ u'= .panicking [{v:= .iface 31 (.int .i64 z),recovered:=true}]/\ w'=caught w p q z:=by
 obtain⟨p0,p1,p2,f0,f1,f2⟩:=hp.facts
 have q0:=hq.cell 0
 have g0:=hq.free 0
 simp only[List.getElem?_toArray,List.getElem?_cons_zero]at q0
 refine callsD_of_wpS Tryz.func185 rfl fun c₀ cs hu=> ?_
 unfold errP at hu
 apply wpS_seq
 apply wpS_region
 simp[wpOpsS,go_sem,recoverD,hu,Tryz.ntmps185,Exit.thenS]
 refine wpS_of_wp ?_
 change Code.wp Tryz.prog _ _ ⟨#[.pointer (some ⟨p,0,none⟩),.pointer (some ⟨q,0,none⟩),undef,undef,undef,.iface 31 (.int .i64 z),undef,undef,undef,undef,undef,undef,undef],[]⟩ w
 have ta:=zll z w
 go_wp2_with fail
 exact⟨rfl,_,rfl,.tuple #[],by simp[results,Tryz.results185],rfl,rfl,rfl⟩
theorem zoQ (p q:Nat) (w:World):
 CallsD Tryz.prog 185 #[.pointer (some ⟨p,0,none⟩),.pointer (some ⟨q,0,none⟩)] .returning w fun e u' w'=>e= .returned (.tuple #[])/\ u'= .returning/\ w'=w:=by
 refine callsD_of_wpS Tryz.func185 rfl fun c₀ cs hu=> ?_
 apply wpS_seq
 apply wpS_region
 simp[wpOpsS,go_sem,recoverD,hu,Tryz.ntmps185,Exit.thenS]
 refine wpS_of_wp ?_
 change Code.wp Tryz.prog _ _ ⟨#[.pointer (some ⟨p,0,none⟩),.pointer (some ⟨q,0,none⟩),undef,undef,undef,.nilIface,undef,undef,undef,undef,undef,undef,undef],[]⟩ w
 go_wp2_with fail
 refine⟨rfl,.returning,?_,.tuple #[],by simp[results,Tryz.results185],rfl,rfl,rfl⟩
 cases c₀
 simp_all
theorem zgs {P:Program} {fn:Func} {p q:Tmp} {ty t2:TypeId} (h:fn.results=#[.cell p ty,.cell q t2]) (tmps:Array Value) (w:World) (g g2:Nat) (t:TypeId) (cs:Array Value) (fr:Nat×Nat) (d:TypeDesc) (z:Int)
 (hp:tmps.getD p undef= .pointer (some ⟨g,0,none⟩)) (hg:w.heap[g]?=some (.cells cs t fr)) (hq:tmps.getD q undef= .pointer (some ⟨g2,0,none⟩)) (hg2:w.cell? ⟨g2,0,none⟩=some (.int .i64 z))
 (hu:P.underlying ty=some d) (hd:(match d with| .struct _| .array _ _=>true|_=>false)=true) (hi:(P.info? ty).map (·.size)=some cs.size) (hu2:P.underlying t2=some (.int .i64)):
 (results fn tmps).run P w= .ok (.tuple #[.agg cs,.int .i64 z]) w:=by
 have hp':tmps[p]?.getD undef= .pointer (some ⟨g,0,none⟩):=by simpa using hp
 have hq':tmps[q]?.getD undef= .pointer (some ⟨g2,0,none⟩):=by simpa using hq
 simp[results,h,hp',hq',asAddr,run_loadVar_row w g t ty cs fr d hg hu hd hi]
 simp[loadVar,isAgg,run_underlying hu2,go_sem,hg2,Result.andThen]
def zfN (l:List Int):Except Int T:=
 match zbr 0 l with
 | .error z=> .error z
 | .ok (t,r)=>if r=[]then .ok t else .error 2
theorem zmk {l:List Int} (h:¬20000<l.length):zdq l=zfN l:=if_neg h
def zhX (w:World) (a:Option Addr) (n ca:Nat):World:=((w.alloc (.cells #[.int .i64 0,.slice none 0 0,.slice none 0 0] 30)).alloc (.cells #[.int .i64 0] 31)).alloc (.cells #[.slice a n ca,.int .i64 0] 197)
theorem zgt (w:World) (a:Option Addr) (n ca:Nat):Below w.heap.size w (zhX w a n ca):=
 Below.step (Below.step ((Below.refl _ _).alloc (Nat.le_refl _) _) ((Below.refl _ _).alloc (Nat.le_refl _) _)) ((Below.refl _ _).alloc (Nat.le_refl _) _)
structure WS (w W:World) (x y z:Value) (e:Int):Prop where
 below:Below w.heap.size w W
 box:Blk W w.heap.size 30 #[x,y,z]
 err:Blk W (w.heap.size+1) 31 #[.int .i64 e]
theorem WS.start (w:World) (a:Option Addr) (n ca:Nat):WS w (zhX w a n ca) (.int .i64 0) (.slice none 0 0) (.slice none 0 0) 0:=by
 refine⟨zgt w a n ca,((Blk.new w _ _).alloc _).alloc _,?_⟩
 have h:=(Blk.new (w.alloc (.cells #[.int .i64 0,.slice none 0 0,.slice none 0 0] 30)) 31 #[.int .i64 0]).alloc (.cells #[.slice a n ca,.int .i64 0] 197)
 rw[show(w.alloc (.cells #[.int .i64 0,.slice none 0 0,.slice none 0 0] 30)).heap.size=w.heap.size+1 by simp]at h
 exact h
theorem WS.go {w W W':World} {x y z:Value} {e:Int} {gs:Nat} (h:WS w W x y z e) (hg:W.grownBy W' (some gs)) (hs:w.heap.size+1<gs):WS w W' x y z e:=
 ⟨Below.trans h.below (zbS hg w.heap.size (by omega) h.below.size),h.box.grown hg (by omega),h.err.grown hg (by omega)⟩
theorem WS.laid {w W:World} {x y z:Value} {e:Int} (h:WS w W x y z e) (a b c:Value):WS w (zfd w W a b c) a b c e:=
 ⟨zc5 h.below a b c,zdn h.box a b c,((h.err.far (by omega) 0 a).far (by omega) 1 b).far (by omega) 2 c⟩
theorem WS.caught {w W:World} {x y z:Value} {e:Int} (h:WS w W x y z e) (k:Int):WS w (caught W w.heap.size (w.heap.size+1) k) (.int .i64 0) (.slice none 0 0) (.slice none 0 0) k:=
 ⟨(h.laid _ _ _).below.setCell (by show w.heap.size<=w.heap.size+1;omega) _,(h.laid _ _ _).box.far (by omega) _ _,(h.laid _ _ _).err.set 0 _⟩
theorem WS.set {w W:World} {x y z:Value} {e:Int} (h:WS w W x y z e) (k:Int):WS w (W.setCell ⟨w.heap.size+1,0,none⟩ (.int .i64 k)) x y z k:=
 ⟨h.below.setCell (by show w.heap.size<=w.heap.size+1;omega) _,h.box.far (by omega) _ _,h.err.set 0 _⟩
theorem WS.results {w W:World} {x y z:Value} {e:Int} (h:WS w W x y z e) {tmps:Array Value} (hp:tmps.getD 2 undef= .pointer (some ⟨w.heap.size,0,none⟩)) (hq:tmps.getD 3 undef= .pointer (some ⟨w.heap.size+1,0,none⟩)):
 (results Tryz.f140 tmps).run Tryz.prog W= .ok (.tuple #[.agg #[x,y,z],.int .i64 e]) W:=
 zgs rfl tmps W w.heap.size (w.heap.size+1) 30 #[x,y,z] (0,0) _ e hp h.box hq (h.err.cell 0) Tryz.underlying30 rfl Tryz.sizeNode Tryz.underlying31
theorem znL {w W:World} {t:T} {v:Value} (h:t.InP (w.heap.size+2<= ·) W v) (a b c:Value):t.InP (w.heap.size+2<= ·) (zfd w W a b c) v:=
 T.InP.keep (fun x _ hp=>⟨hp,by
  have hp':w.heap.size+2<=x:=hp
  have hx:x≠w.heap.size:=by omega
  unfold zfd
  rw[heap_setCell_other _ ⟨w.heap.size,2,none⟩ x c hx,heap_setCell_other _ ⟨w.heap.size,1,none⟩ x b hx,heap_setCell_other _ ⟨w.heap.size,0,none⟩ x a hx]⟩) (by simp[zfd]) _ h
theorem zu8 {w W:World} {t:T} {v:Value} (h:t.InP (w.heap.size+2<= ·) W v) (a:Value):t.InP (w.heap.size<= ·) (W.setCell ⟨w.heap.size+1,0,none⟩ a) v:=
 T.InP.keep (fun x _ hp=>⟨by have hp':w.heap.size+2<=x:=hp;show w.heap.size<=x;omega,by
  have hp':w.heap.size+2<=x:=hp
  exact heap_setCell_other _ ⟨w.heap.size+1,0,none⟩ x a (by show x≠w.heap.size+1;omega)⟩) (by simp) _ h
theorem zrx (a:Option Addr) (n ca:Nat) (zs:List Int) (w:World) (hr:Row w a n zs) (hnc:n<=ca) (hn:n<=30000) (hnil:a=none->ca=0):Calls Tryz.prog 140 #[.slice a n ca] w (zhW (zfN zs) w):=by
 have hmf:∀(fn:Fn) (first cap:Array Value) (w:World),(Instr.makeFunc fn first cap).run Tryz.prog w= .ok (.func fn first cap) w:=fun _ _ _ _=>rfl
 have hlen:=hr.1
 subst hlen
 have S0:=zwd (WS.start w a zs.length ca)
 have CI:Hid (Calls Tryz.prog 186 #[.pointer (some ⟨w.heap.size+1+1,0,none⟩)] (zhX w a zs.length ca) (zhV (w.heap.size+1+1) 0 w.heap.size zs (zhX w a zs.length ca))):=by
  refine zrw (zs.length+1) (w.heap.size+1+1) 0 w.heap.size zs _ (by omega) (by omega) hn ⟨a,ca,?_,hr.below (zgt w a zs.length ca),hnc,fun h0=> ?_,by omega,hnil⟩
  · have h:=Blk.new ((w.alloc (.cells #[.int .i64 0,.slice none 0 0,.slice none 0 0] 30)).alloc (.cells #[.int .i64 0] 31)) 197 #[.slice a zs.length ca,.int .i64 0]
    rw[show((w.alloc (.cells #[.int .i64 0,.slice none 0 0,.slice none 0 0] 30)).alloc (.cells #[.int .i64 0] 31)).heap.size=w.heap.size+1+1 by simp]at h
    exact h
  · obtain⟨b,off,e,hb,_⟩:=hr.2.2 h0
    exact⟨b,off,e,hb⟩
 have SZ:Hid (w.heap.size+1+1<(zhX w a zs.length ca).heap.size):=by simp[zhX,Hid]
 unfold zhX at CI S0 SZ
 clear hr hnil
 go_enter_defers Tryz.func140,Tryz.ntmps140
 go_wp2_with fail
 refine CI.out.mono ?_
 rintro e w3 ⟨hg3,hways⟩
 have S3:=zwd (S0.out.go hg3 (by omega))
 have Z3:Hid (w.heap.size+1+1<w3.heap.size):=Nat.lt_of_lt_of_le SZ.out hg3.size
 clear CI hg3 SZ
 rcases hways with⟨z,hz,rfl⟩|⟨t,r,v,ht,rfl,hin,hrest⟩
 · have zr:=zhS hz
   have F:Hid (zfN zs= .error z):=by rw[zfN,hz];exact zwd rfl
   have nz:norm 0 z=z:=by simp[norm]
   rw[nz]
   refine leaves_cons (f:=185) (args:=#[.pointer (some ⟨w.heap.size,0,none⟩),.pointer (some ⟨w.heap.size+1,0,none⟩)]) (by simp) (by simp[go_sem]) ?_
   refine(zeo w.heap.size (w.heap.size+1) z 0 _ _ _ _ S3.out.box S3.out.err (by omega)).mono ?_
   rintro e u' w5 ⟨rfl,rfl,rfl⟩
   exact⟨_,(S3.out.caught z).results rfl rfl,(S3.out.caught z).below,.inl ⟨z,F.out,rfl⟩⟩
 · obtain⟨A',n',c',K',m',d',rfl⟩:=hin.form
   obtain⟨A9,c9,hblk,_⟩:=hrest
   have c0:=hblk.cell 0
   simp only[List.getElem?_toArray,List.getElem?_cons_zero]at c0
   obtain⟨p0,p1,p2,f0,f1,f2⟩:=S3.out.box.facts
   have q0:=S3.out.err.cell 0
   have g0:=S3.out.err.free 0
   simp only[List.getElem?_toArray,List.getElem?_cons_zero]at q0
   have I3:Hid (t.InP (w.heap.size+2<= ·) w3 (.agg #[.int .i64 t.tag,.slice A' n' c',.slice K' m' d'])):=T.InP.keep (fun x _ hp=>⟨by have hp':=hp;simp at hp';show w.heap.size+2<=x;omega,rfl⟩) (Nat.le_refl _) _ hin
   have S4:=zwd (S3.out.laid (.int .i64 t.tag) (.slice A' n' c') (.slice K' m' d'))
   clear hblk hin S0
   by_cases h0:r=[]
   · have F:Hid (zfN zs= .ok t):=by rw[zfN,ht];exact if_pos h0
     subst h0
     simp only[List.length_nil]at c0
     clear ht
     go_wp2_with fail
     have S5:=zwd ((S4.out.laid (.int .i64 t.tag) (.slice A' n' c') (.slice K' m' d')).set 0)
     have I5:=zwd (zu8 (znL (znL I3.out (.int .i64 t.tag) (.slice A' n' c') (.slice K' m' d')) (.int .i64 t.tag) (.slice A' n' c') (.slice K' m' d')) (.int .i64 0))
     refine leaves_cons (f:=185) (args:=#[.pointer (some ⟨w.heap.size,0,none⟩),.pointer (some ⟨w.heap.size+1,0,none⟩)]) (by simp) (by simp[go_sem]) ?_
     refine(zoQ w.heap.size (w.heap.size+1) _).mono ?_
     rintro e u' w5 ⟨rfl,rfl,rfl⟩
     exact⟨_,S5.out.results rfl rfl,S5.out.below,.inr ⟨t,_,F.out,rfl,I5.out⟩⟩
   · have F:Hid (zfN zs= .error 2):=by rw[zfN,ht];exact if_neg h0
     have t0:((r.length:Int) !=0)=true:=by simpa using h0
     clear ht h0
     go_wp2_with fail
     refine leaves_cons (f:=185) (args:=#[.pointer (some ⟨w.heap.size,0,none⟩),.pointer (some ⟨w.heap.size+1,0,none⟩)]) (by simp) (by simp[go_sem]) ?_
     refine(zeo w.heap.size (w.heap.size+1) 2 0 _ _ _ _ S4.out.box S4.out.err (by omega)).mono ?_
     rintro e u' w5 ⟨rfl,rfl,rfl⟩
     exact⟨_,(S4.out.caught 2).results rfl rfl,(S4.out.caught 2).below,.inl ⟨2,F.out,rfl⟩⟩
theorem zry (a:Option Addr) (n ca:Nat) (zs:List Int) (w:World) (hr:Row w a n zs) (hnc:n<=ca) (hn:n<=30000) (hnil:a=none->ca=0):Calls Tryz.prog 92 #[.slice a n ca] w (zhW (zdq zs) w):=by
 have hlen:=hr.1
 have B0:Hid (Below w.heap.size w (w.alloc (.cells #[.int .i64 0,.slice none 0 0,.slice none 0 0] 30))):=(Below.refl _ _).alloc (Nat.le_refl _) _
 have K0:=zwd (Blk.new w 30 #[.int .i64 0,.slice none 0 0,.slice none 0 0])
 by_cases h5:20000<n
 · have F:=zwd (zi2 (l:=zs) (by omega))
   clear hlen
   go_enter Tryz.func92,Tryz.ntmps92
   go_wp2_with fail
   exact bodyPost_ret (zbT rfl _ _ w.heap.size 30 #[.int .i64 0,.slice none 0 0,.slice none 0 0] (0,0) _ rfl K0.out Tryz.underlying30 rfl Tryz.sizeNode) rfl ⟨B0.out,.inl ⟨5,F.out,rfl⟩⟩
 have F:Hid (zdq zs=zfN zs):=zmk (by rw[hlen];exact h5)
 rw[F.out]
 have CI:=zwd (zrx a n ca zs _ (hr.below B0.out) hnc hn hnil)
 clear hlen F hr
 go_enter Tryz.func92,Tryz.ntmps92
 go_wp2_with fail
 refine CI.out.mono ?_
 rintro e w2 ⟨hb2,hways⟩
 have B2:=zwd (Below.step B0.out hb2)
 have K2:=zwd (K0.out.below hb2 (by simp))
 obtain⟨p0,p1,p2,f0,f1,f2⟩:=K2.out.facts
 clear hb2 CI
 rcases hways with⟨z,hz,rfl⟩|⟨t,v,ht,rfl,hin⟩
 · go_wp2_with fail
   exact bodyPost_ret (zbT rfl _ _ w.heap.size 30 #[.int .i64 0,.slice none 0 0,.slice none 0 0] (0,0) _ rfl (zdn K2.out _ _ _) Tryz.underlying30 rfl Tryz.sizeNode) rfl ⟨zc5 B2.out _ _ _,.inl ⟨z,hz,rfl⟩⟩
 · obtain⟨A',n',c',K',m',d',rfl⟩:=hin.form
   have I2:Hid (t.InP (w.heap.size+1<= ·) w2 (.agg #[.int .i64 t.tag,.slice A' n' c',.slice K' m' d'])):=T.InP.keep (fun x _ hp=>⟨by have hp':=hp;simp at hp';show w.heap.size+1<=x;omega,rfl⟩) (Nat.le_refl _) _ hin
   clear hin
   go_wp2_with fail
   exact bodyPost_ret (zbT rfl _ _ w.heap.size 30 #[.int .i64 t.tag,.slice A' n' c',.slice K' m' d'] (0,0) _ rfl (zdn K2.out _ _ _) Tryz.underlying30 rfl Tryz.sizeNode) rfl ⟨zc5 B2.out _ _ _,.inr ⟨t,_,ht,rfl,zjP I2.out _ _ _⟩⟩
def zcM (P:Nat->Prop) (w:World) (K:Option Addr) (m d:Nat) (ks:List T):Prop:=
 ks.length=m/\ (m<=maxLen/\ m<=d)/\ (0<m->∃b off,K=some ⟨b,off,none⟩/\ b<w.heap.size/\ P b/\ T.InPAll P w ks b off)
theorem zcM.node {P:Nat->Prop} {w:World} {K:Option Addr} {m d:Nat} {ks:List T} (h:zcM P w K m d ks) {z:Int} (hz:(Lit.int .i64 z).wf=true):(T.node z [] ks).InP P w (.agg #[.int .i64 z,.slice none 0 0,.slice K m d]):=by
 obtain⟨h1,h2,h3⟩:=h
 unfold T.InP
 exact⟨none,0,0,K,m,d,rfl,hz,Row.nil _ _,Nat.zero_le _,fun _=>rfl,h1,⟨h2.1,Nat.le_refl _,h2.2⟩,fun h=>absurd h (by omega),h3⟩
theorem zgh (w:World):Calls Tryz.prog 144 #[.bool true] w fun e w'=>e= .returned (.tuple #[])/\ w'=w:=by
 go_enter Tryz.func144,Tryz.ntmps144
 go_wp2_with fail
 exact bodyPost_end (results_none rfl _ _ _) rfl ⟨rfl,rfl⟩
theorem zhY (w:World):Calls Tryz.prog 144 #[.bool false] w fun e w'=>e= .panicked (errP 2)/\ w'=w:=by
 go_enter Tryz.func144,Tryz.ntmps144
 go_wp2_with fail
 exact⟨rfl,rfl,rfl⟩
theorem zoR (b:Bool) (w:World):Calls Tryz.prog 144 #[.bool b] w fun e w'=>w'=w/\ ((b=true/\ e= .returned (.tuple #[])) \/(b=false/\ e= .panicked (errP 2))):=by
 cases b
 · exact(zhY w).mono (fun e w' h=>⟨h.2,.inr ⟨rfl,h.1⟩⟩)
 · exact(zgh w).mono (fun e w' h=>⟨h.2,.inl ⟨rfl,h.1⟩⟩)
theorem zi4 (A:Option Addr) (n c:Nat) (w:World):Calls Tryz.prog 146 #[.slice A n c,.int .i64 0] w fun e w'=>e= .returned (.slice A n c)/\ w'=w:=by
 go_enter Tryz.func146,Tryz.ntmps146
 go_wp2_with fail
 refine(zgh _).mono ?_
 rintro e w2 ⟨rfl,rfl⟩
 go_wp2_with fail
 go_ret
 exact⟨rfl,rfl⟩
theorem zjQ (A:Option Addr) (n c:Nat) (z:Int) (h:¬z=0) (w:World):Calls Tryz.prog 146 #[.slice A n c,.int .i64 z] w fun e w'=>e= .panicked (errP 2)/\ w'=w:=by
 have F:Hid ((z==0)=false):=by simpa[Hid]using h
 clear h
 go_enter Tryz.func146,Tryz.ntmps146
 go_wp2_with fail
 rw[F.out]
 refine(zhY _).mono ?_
 rintro e w2 ⟨rfl,rfl⟩
 exact⟨rfl,rfl,rfl⟩
theorem Tryz.resNode:(Tryz.prog.info? 30).map (·.size)=some 3:=by kernel_rfl
theorem zgu (K:Option Addr) (m d:Nat) (w:World):Calls Tryz.prog 85 #[.slice K m d] w fun e w'=>e= .returned (.agg #[.int .i64 48,.slice none 0 0,.slice K m d])/\ Below w.heap.size w w':=by
 have G:=zwd (Blk.new w 30 #[.int .i64 48,.slice none 0 0,.slice K m d])
 have B:=zwd ((Below.refl w.heap.size w).alloc (Nat.le_refl _) (.cells #[.int .i64 48,.slice none 0 0,.slice K m d] 30))
 go_enter Tryz.func85,Tryz.ntmps85
 go_wp2_with fail
 exact bodyPost_ret (results_cell_row rfl _ _ w.heap.size 30 #[.int .i64 48,.slice none 0 0,.slice K m d] (0,0) _ rfl G.out Tryz.underlying30 rfl Tryz.resNode) rfl ⟨rfl,B.out⟩
theorem zi5 (last:Int) (h0:0<=last) (h1:last<=1000):∀x∈zeT last,0<=x/\ x<=4294967295:=by
 intro x hx
 unfold zeT at hx
 simp only[List.mem_cons,List.mem_nil_iff,or_false]at hx
 omega
theorem zjR {P:Nat->Prop} {W:World} {g:Nat} {ty:TypeId} {t0 t1:T} {a0 a1 a2 b0 b1 b2:Value} (hb:Blk W g ty #[a0,a1,a2,b0,b1,b2]) (hg:P g) (h0:t0.InP P W (.agg #[a0,a1,a2])) (h1:t1.InP P W (.agg #[b0,b1,b2])):zcM P W (some ⟨g,0,none⟩) 2 2 [t0,t1]:=by
 refine⟨rfl,⟨by unfold maxLen;omega,Nat.le_refl _⟩,fun _=>⟨g,0,rfl,hb.lt,hg,?_⟩⟩
 unfold T.InPAll T.InPAll T.InPAll
 exact⟨⟨a0,a1,a2,hb.cell 0,hb.cell 1,hb.cell 2,h0⟩,⟨b0,b1,b2,hb.cell 3,hb.cell 4,hb.cell 5,h1⟩,trivial⟩
theorem zi6 {P:Nat->Prop} {W:World} {g:Nat} {ty:TypeId} {t0 t1 t2:T} {a0 a1 a2 b0 b1 b2 c0 c1 c2:Value} (hb:Blk W g ty #[a0,a1,a2,b0,b1,b2,c0,c1,c2]) (hg:P g) (h0:t0.InP P W (.agg #[a0,a1,a2])) (h1:t1.InP P W (.agg #[b0,b1,b2])) (h2:t2.InP P W (.agg #[c0,c1,c2])):zcM P W (some ⟨g,0,none⟩) 3 3 [t0,t1,t2]:=by
 refine⟨rfl,⟨by unfold maxLen;omega,Nat.le_refl _⟩,fun _=>⟨g,0,rfl,hb.lt,hg,?_⟩⟩
 unfold T.InPAll T.InPAll T.InPAll T.InPAll
 exact⟨⟨a0,a1,a2,hb.cell 0,hb.cell 1,hb.cell 2,h0⟩,⟨b0,b1,b2,hb.cell 3,hb.cell 4,hb.cell 5,h1⟩,⟨c0,c1,c2,hb.cell 6,hb.cell 7,hb.cell 8,h2⟩,trivial⟩
theorem zcM.below {P Q:Nat->Prop} {w w':World} {K:Option Addr} {m d:Nat} {ks:List T} (h:zcM P w K m d ks) (hb:Below w.heap.size w w') (hq:∀b,P b->Q b):zcM Q w' K m d ks:=by
 obtain⟨h1,h2,h3⟩:=h
 refine⟨h1,h2,fun h0=> ?_⟩
 obtain⟨b,off,e,hlt,hp,hall⟩:=h3 h0
 refine⟨b,off,e,Nat.lt_of_lt_of_le hlt hb.size,hq b hp,T.InPAll.of fun i hi=> ?_⟩
 obtain⟨v0,v1,v2,c0,c1,c2,hin⟩:=hall.at i hi
 exact⟨v0,v1,v2,(hb.cell (p:=⟨b,off+i*3,none⟩) hlt).trans c0,(hb.cell (p:=⟨b,off+i*3+1,none⟩) hlt).trans c1,(hb.cell (p:=⟨b,off+i*3+2,none⟩) hlt).trans c2,T.InP.below hb hq _ hin⟩
theorem znM (P:Nat->Prop) (w:World):(T.node 5 [] []).InP P w (.agg #[.int .i64 5,.slice none 0 0,.slice none 0 0]):=
 zeF rfl (Row.nil _ _) (by simp) ⟨fun _=>rfl,Nat.le_refl _⟩ (fun h=>absurd h (by simp))
theorem zlm {w W:World} {tmps:Array Value} {fn:Func} {p:Tmp} {ks:List T} {K:Option Addr} {m d:Nat} (hf:fn.results=#[.cell p 30]) (hp:tmps.getD p undef= .pointer (some ⟨w.heap.size,0,none⟩)) (hrb:RB w W) (hk:zcM (w.heap.size< ·) W K m d ks):
 bodyPost Tryz.prog fn (zb2 (.node 48 [] ks) w) .ret {tmps:=tmps,defers:=[]} (boxed w W (.int .i64 48) (.slice none 0 0) (.slice K m d)):=by
 obtain⟨h1,h2⟩:=hrb.boxed (.int .i64 48) (.slice none 0 0) (.slice K m d)
 exact bodyPost_ret (results_cell_row hf _ _ w.heap.size 30 #[.int .i64 48,.slice none 0 0,.slice K m d] (0,0) _ hp h1 Tryz.underlying30 rfl Tryz.sizeNode3) rfl ⟨none,0,0,K,m,d,rfl,T.InP.keep (fun x _ hp=>⟨by have hp':w.heap.size<x:=hp;show w.heap.size<=x;omega,by
  have hp':w.heap.size<x:=hp
  have hx:x≠w.heap.size:=by omega
  unfold boxed
  rw[heap_setCell_other _ ⟨w.heap.size,2,none⟩ x _ hx,heap_setCell_other _ ⟨w.heap.size,1,none⟩ x _ hx,heap_setCell_other _ ⟨w.heap.size,0,none⟩ x _ hx]⟩) (by simp[boxed]) _ (hk.node (by decide)),h2⟩
theorem zjS (last:Int) (h0:0<=last) (h1:last<=1000) (w:World):Calls Tryz.prog 86 #[.int .u32 last] w (zb2 (algT last) w):=by
 have S0:=zwd (RB.start w)
 have R1:=zbs (w.alloc (.cells #[.int .i64 0,.slice none 0 0,.slice none 0 0] 30)) (zeT last) (zi5 last h0 h1)
 have CO:=zuV _ _ 7 _ _ R1 (by simp[zeT])
 rw[zt9]at CO
 have S1:=zwd (S0.out.go ((Below.refl _ _).alloc (Nat.le_refl _) (.cells ((zeT last).map (Value.int .u32)).toArray 22)))
 unfold zeT at CO S1
 simp only[World.size_alloc,List.length_cons,List.length_nil,List.map_cons,List.map_nil]at CO S1
 have CI:=zwd CO
 clear R1 CO
 go_enter Tryz.func86,Tryz.ntmps86
 go_wp2_with fail
 refine CI.out.mono ?_
 rintro e w3 ⟨A,n,c,K,m,d,rfl,hin,hb⟩
 have S3:=zwd (S1.out.go hb)
 have I3:Hid ((oidT last).InP (w.heap.size< ·) w3 (.agg #[.int .i64 6,.slice A n c,.slice K m d])):=T.InP.keep (fun x _ hp=>⟨by have hp':=hp;simp at hp';show w.heap.size<x;omega,rfl⟩) (Nat.le_refl _) _ hin
 clear CI S1 S0 hin hb
 have B4:Below w3.heap.size w3 ((w3.alloc (.cells #[.int .i64 (oidT last).tag,.slice A n c,.slice K m d] 30)).alloc (.cells #[.int .i64 (oidT last).tag,.slice A n c,.slice K m d,.int .i64 5,.slice none 0 0,.slice none 0 0] 30)):=((Below.refl _ _).alloc (Nat.le_refl _) _).alloc (by simp) _
 have S4:=zwd (S3.out.go B4)
 have K4:Hid (zcM (w.heap.size< ·) ((w3.alloc (.cells #[.int .i64 (oidT last).tag,.slice A n c,.slice K m d] 30)).alloc (.cells #[.int .i64 (oidT last).tag,.slice A n c,.slice K m d,.int .i64 5,.slice none 0 0,.slice none 0 0] 30)) (some ⟨w3.heap.size+1,0,none⟩) 2 2 [oidT last,.node 5 [] []]):=by
  have hb:=Blk.new (w3.alloc (.cells #[.int .i64 (oidT last).tag,.slice A n c,.slice K m d] 30)) 30 #[.int .i64 (oidT last).tag,.slice A n c,.slice K m d,.int .i64 5,.slice none 0 0,.slice none 0 0]
  rw[show(w3.alloc (.cells #[.int .i64 (oidT last).tag,.slice A n c,.slice K m d] 30)).heap.size=w3.heap.size+1 by simp]at hb
  exact zjR hb (by have:=S3.out.below.size;have:=S3.out.box.lt;show w.heap.size<w3.heap.size+1;omega) (T.InP.below B4 (fun _ h=>h) _ I3.out) (znM _ _)
 clear B4 S3 I3
 go_wp2_with fail
 generalize(w3.alloc (.cells #[.int .i64 (oidT last).tag,.slice A n c,.slice K m d] 30)).alloc (.cells #[.int .i64 (oidT last).tag,.slice A n c,.slice K m d,.int .i64 5,.slice none 0 0,.slice none 0 0] 30)=w4 at*
 refine(zgu _ 2 2 w4).mono ?_
 rintro e w5 ⟨rfl,hb5⟩
 have S5:=zwd (S4.out.go hb5)
 have K5:=zwd (K4.out.below hb5 (fun _ h=>h))
 obtain⟨c0,c1,c2,f0,f1,f2⟩:=S5.out.box.facts
 clear hb5 S4 K4
 go_wp2_with fail
 exact zlm rfl rfl S5.out K5.out
theorem zml (a:Option Addr) (n ca:Nat) (zs:List Int) (w:World) (hr:Row w a n zs) (hn:n<=100000) (hnil:a=none->ca=0):Calls Tryz.prog 87 #[.slice a n ca] w (zb2 (zb0 zs) w):=by
 have S0:=zwd (RB.start w)
 have hlen:=hr.1
 have CO:=znE a n ca zs (8*(n:Int)) (w.alloc (.cells #[.int .i64 0,.slice none 0 0,.slice none 0 0] 30)) (hr.below ((Below.refl _ _).alloc (Nat.le_refl _) _)) hn hnil (WalkArith.wf_i64 (by omega))
 have e:zaG zs (8*(n:Int))=(zb0 zs,0):=by rw[<-hlen];exact zf5 zs
 rw[e]at CO
 have CI:=zwd CO
 clear CO e hr hlen hnil
 go_enter Tryz.func87,Tryz.ntmps87
 go_wp2_with fail
 refine CI.out.mono ?_
 rintro e w3 ⟨A,n3,c3,K,m,d,rfl,hin,hb⟩
 have S3:=zwd ((S0.out.go hb).go ((Below.refl _ _).alloc (Nat.le_refl _) (.cells #[.int .i64 (zb0 zs).tag,.slice A n3 c3,.slice K m d] 30)))
 have I3:=zwd (T.InP.below ((Below.refl w3.heap.size w3).alloc (Nat.le_refl _) (.cells #[.int .i64 (zb0 zs).tag,.slice A n3 c3,.slice K m d] 30)) (fun _ h=>h) _ hin)
 obtain⟨c0,c1,c2,f0,f1,f2⟩:=S3.out.box.facts
 clear CI S0 hin hb
 go_wp2_with fail
 exact zf2 (W0:=w.alloc (.cells #[.int .i64 0,.slice none 0 0,.slice none 0 0] 30)) rfl rfl S3.out I3.out (by simp)
end Go.Proofs.YtpgahclpbdpbnaaGreatDoor
