/-
  Proved: for every revocation list and every two slices of bytes the law CrlReads returns true, and its arguments read afterwards as they read before. The condition is the card's own: the listed variables of package sha and of unicode/utf8 hold what the program's text lays. (The frame is the guide's; the walk is by hand.)
-/
import Derived.Test.YtpgahclpbdpbnaaGreatDoorCards
import Derived.Test.YtpgahclpbdpbnaaGreatDoorTie
import Derived.Test.YtpgahclpbdpbnaaGreatDoorGAB
import Derived.SevenTiedAt
import Derived.Test.YtpgahclpbdpbnaaGreatDoorGBD
import Derived.Test.YtpgahclpbdpbnaaGreatDoorGBF
import Derived.Test.YtpgahclpbdpbnaaGreatDoorGAC
import Derived.Test.YtpgahclpbdpbnaaGreatDoorGAA
import Derived.WalkKit
import Derived.ProofKit
import Derived.OpenShut
import Derived.ShutString
import Derived.ChangeOld
import Derived.Below
set_option maxHeartbeats 1000000
set_option maxRecDepth 100000
namespace Go.Proofs.YtpgahclpbdpbnaaGreatDoor.crlReads
open Go.ChangeShapes Go.WideShapes Go.ChangeAt Go.RowKit
open Go.ChangeMaps (open_string shut_string)
set_option linter.unusedVariables false
def zir (k:IntKind) (w:World) (a:Option Addr) (len cap:Nat) (zs:List Int):Prop:=
 (a=none/\ len=0/\ cap=0/\ zs=[]) \/
 ∃x,a=some x/\ len<=cap/\ cap<=maxLen/\ zs.length=cap/\ (∀i,i<zs.length->w.cell? (x.add i)=some (.int k (zs.getD i 0)))/\ ∀n∈zs,(Lit.int k n).wf=true
theorem walk (cz0:CrlZ) (a0:Option Addr) (ca0:Nat) (a1:Option Addr) (len1 cap1:Nat) (z1:List Int) (a2:Option Addr) (len2 cap2:Nat) (z2:List Int) (w:World) (ht:Tab w) (w0:zbj w cz0 a0 ca0/\ cz0.ser.length<=maxLen/\ cz0.iss.size<=maxLen) (w1:zir .u8 w a1 len1 cap1 z1) (w2:zir .u8 w a2 len2 cap2 z2):
 Calls Tryz.prog 3 #[.agg (crlC cz0 a0 cz0.ser.length ca0),.slice a1 len1 cap1,.slice a2 len2 cap2] w fun e w'=>e= .returned (.bool true)/\ Below w.heap.size w w':=by
 have hnil:a1=none->cap1=0:=fun e=>by
  rcases w1 with⟨_,_,h,_⟩|⟨x,h,_⟩
  · exact h
  · rw[e]at h
    cases h
 have hnil2:a2=none->cap2=0:=fun e=>by
  rcases w2 with⟨_,_,h,_⟩|⟨x,h,_⟩
  · exact h
  · rw[e]at h
    cases h
 have hnc:len2<=cap2:=by
  rcases w2 with⟨_,h,_,_⟩|⟨x,_,h,_⟩
  · omega
  · exact h
 obtain⟨hr,_⟩:=zkf w1
 obtain⟨hz,_⟩:=zkf w2
 exact zis cz0 a0 ca0 a1 len1 cap1 _ a2 len2 cap2 _ w ht w0.1 w0.2.1 w0.2.2 hr hnil hz hnc hnil2
theorem zlF (os:Os) (started:os.Started) (H:Type) (enc:TypeId×Value->H):
 ReturnsInHanded {} Tryz.checked os 3 .any (fun w args=>(Rows.crlReadsSpec.pre enc Tryz.prog Tryz.f3 Rows.crlReadsRow.domain false w args/\ laidMetH Tryz.prog zgB w)/\ sizedMet enc Tryz.prog Tryz.f3 (OpenSpec.ofChange Rows.crlReadsSpec) false w args)
  (Rows.crlReadsSpec.post enc Tryz.prog Tryz.f3 false true false false):=by
 refine zlO started (by kernel_rfl) Tryz.func3
  (ChangeSpec.witness_shaped (enc:=enc) (C:=Tryz.checked) (os:=os) (X:=fun w _=>laidMetH Tryz.prog zgB w) false (World.laidAll Tryz.prog os zgB) #[.agg #[.string ByteArray.empty,.int .u32 0,.int .i64 0,.int .i64 0,.slice none 0 0],.slice none 0 0,.slice none 0 0] 8 (World.laidAll_os _ _ _)
    (World.shaped_of_ZipB (by kernel_rfl) (by kernel_rfl)) (by kernel_rfl) (by kernel_rfl) (by kernel_rfl)
    (by rw[MakeChecks.laidMetH_plain _ _ _ (by kernel_rfl)];exact laidMet_laidAll _ (by kernel_rfl) (by kernel_rfl))) ?_
 intro W base args ds gs before hval0 hW hsh
 have hval:∀(j:Nat) t v,Tryz.f3.params[j]?=some t->args[j]?=some v->Value.okWide Tryz.prog W .any base t v:=hval0
 have hW':=hW
 obtain⟨p,q,hA0,hV,rfl,hfz,hnd⟩:=hW
 have hA:DataW.TrodAll enc Tryz.prog W 0 (fun _=>true) true Tryz.f3.params.toList args.toList ds p:=hA0
 rw[Tryz.params3]at hA hval
 obtain⟨v0,vs0,d0,ds0,p0,q0,hargs,rfl,rfl,h0,r0⟩:=trodAll_cons hA
 obtain⟨v1,vs1,d1,ds1,p1,q1,rfl,rfl,rfl,h1,r1⟩:=trodAll_cons r0
 obtain⟨v2,vs2,d2,ds2,p2,q2,rfl,rfl,rfl,h2,r2⟩:=trodAll_cons r1
 obtain⟨rfl,rfl,rfl⟩:=trodAll_nil r2
 obtain rfl:args=#[v0,v1,v2]:=by cases args;simp_all
 obtain⟨rfl,rfl⟩:=trodVars_none hV
 have k0:=h0
 have lt0:∀x∈p0,x.block<W.heap.size:=by obtain⟨m,hm⟩:=k0;exact DataW.trod_lt m _ _ _ hm
 obtain⟨cz0,a0,ca0,rfl,w0⟩:=zn4 (hval 0 25 v0 rfl rfl) h0
 obtain⟨a1,len1,cap1,rfl⟩:=okWide_slice Tryz.underlying26 (hval 1 26 v1 rfl rfl)
 have k1:=h1
 have lt1:∀x∈p1,x.block<W.heap.size:=by obtain⟨m,hm⟩:=k1;exact DataW.trod_lt m _ _ _ hm
 obtain⟨z1,w1⟩:∃zs,zir .u8 W a1 len1 cap1 zs:=by
  obtain⟨fuel,hf⟩:=h1
  rcases open_ints Tryz.underlying26 Tryz.underlying5 (by kernel_rfl) hf with⟨hcs,_⟩|⟨x,l,c,zs,hcs,_,hl,hm,hz,_,hcell,hwz⟩
  · simp[Value.cells]at hcs
    obtain⟨rfl,rfl,rfl⟩:=hcs
    exact⟨[],.inl ⟨rfl,rfl,rfl,rfl⟩⟩
  · simp[Value.cells]at hcs
    obtain⟨rfl,rfl,rfl⟩:=hcs
    exact⟨zs,.inr ⟨_,rfl,hl,hm,by simpa using hz,hcell,hwz⟩⟩
 obtain⟨a2,len2,cap2,rfl⟩:=okWide_slice Tryz.underlying26 (hval 2 26 v2 rfl rfl)
 have k2:=h2
 have lt2:∀x∈p2,x.block<W.heap.size:=by obtain⟨m,hm⟩:=k2;exact DataW.trod_lt m _ _ _ hm
 obtain⟨z2,w2⟩:∃zs,zir .u8 W a2 len2 cap2 zs:=by
  obtain⟨fuel,hf⟩:=h2
  rcases open_ints Tryz.underlying26 Tryz.underlying5 (by kernel_rfl) hf with⟨hcs,_⟩|⟨x,l,c,zs,hcs,_,hl,hm,hz,_,hcell,hwz⟩
  · simp[Value.cells]at hcs
    obtain⟨rfl,rfl,rfl⟩:=hcs
    exact⟨[],.inl ⟨rfl,rfl,rfl,rfl⟩⟩
  · simp[Value.cells]at hcs
    obtain⟨rfl,rfl,rfl⟩:=hcs
    exact⟨zs,.inr ⟨_,rfl,hl,hm,by simpa using hz,hcell,hwz⟩⟩
 clear hA0 hval0
 refine(walk cz0 a0 ca0 a1 len1 cap1 z1 a2 len2 cap2 z2 W hsh w0 w1 w2).mono fun e W' ⟨he,bel⟩=> ?_
 subst he
 exact⟨_,rfl,_,_,_,[],_,[],hW',trodAll_mk1 (shut_bool Tryz.underlying4 _),(trodAll_cons_mk (Below.trod ze0 (by kernel_rfl) (of_decide_eq_true (by kernel_rfl)) k0 bel lt0) (trodAll_cons_mk (Below.trod ze0 (by kernel_rfl) (of_decide_eq_true (by kernel_rfl)) k1 bel lt1) (trodAll_cons_mk (Below.trod ze0 (by kernel_rfl) (of_decide_eq_true (by kernel_rfl)) k2 bel lt2) trodAll_mk0))),rfl,bel.frame _,fun h=>by cases h⟩
theorem over:Rows.crlReadsRow.holds Tryz.pinned (OpenSpec.ofChange Rows.crlReadsSpec):=
 OpenClaim.holds_of_wide 3 Tryz.f3 rfl rfl rfl rfl rfl rfl rfl ⟨rfl,rfl,rfl,rfl,rfl⟩ rfl rfl rfl rfl rfl (by kernel_rfl) Tryz.func3 (by kernel_rfl)
  (of_decide_eq_true (by kernel_rfl)) (by unfold Func.isWrapper;first|(rw[if_pos (by decide+kernel)];kernel_rfl)|(rw[if_neg (by decide+kernel)];exact⟨rfl,rfl⟩))
  (fun os started H enc _=>zlF os started H enc)
theorem zdG:Rows.CrlReadsSaid:=over
theorem proved:Rows.CrlReadsCardSaid:=
 Claim7.holds_tied_plain_at .later [] [.data,.data,.data,.pinned] true (true,"877527c3a8a7d41d5702c00193c5ab63cf1c0df3b73fb8fd2fb4e60a3039e97b") true
  zdG (fun _ h=>by cases h) (by kernel_rfl) (fun _ h=>by cases h) crlReads_row_tie rfl ⟨rfl,rfl⟩ (by kernel_rfl) rfl
  (fun f fn hf hfn=>by
    obtain rfl:f=3:=Option.some.inj ((show Tryz.prog.funcNamed "lanyard/lanyardlaw16.CrlReads" =some 3 by kernel_rfl).symm.trans hf)|>.symm
    obtain rfl:fn=Tryz.f3:=(Option.some.inj (Tryz.func3.symm.trans hfn)).symm
    exact⟨by kernel_rfl,fun j t ht=>by
     rw[Tryz.params3]at ht
     have hm:t∈[25,26,26]:=by simpa using Array.mem_of_getElem? ht
     have hall:([25,26,26].all fun u=> !Tryz.prog.wantsStandIn u)=true:=by kernel_rfl
     exact(show Tryz.prog.wantsStandIn t=false by simpa using List.all_eq_true.1 hall t hm)⟩)
  (by kernel_rfl)
#print axioms proved
end Go.Proofs.YtpgahclpbdpbnaaGreatDoor.crlReads
