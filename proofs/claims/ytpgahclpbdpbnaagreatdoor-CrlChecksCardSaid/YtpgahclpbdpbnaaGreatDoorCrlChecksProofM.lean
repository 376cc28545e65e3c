/-
  Proved: for every slice of bytes, every certificate and every moment the law CrlChecks returns true, and its arguments read afterwards as they read before. The condition is the card's own: the listed variables of package sha and of unicode/utf8 hold what the program's text lays. (The frame is the guide's; the walk is by hand.)
-/
import Derived.Test.YtpgahclpbdpbnaaGreatDoorCards
import Derived.Test.YtpgahclpbdpbnaaGreatDoorTie
import Derived.Test.YtpgahclpbdpbnaaGreatDoorGAB
import Derived.SevenTiedAt
import Derived.Test.YtpgahclpbdpbnaaGreatDoorGBE
import Derived.Test.YtpgahclpbdpbnaaGreatDoorGAC
import Derived.Test.YtpgahclpbdpbnaaGreatDoorGAA
import Derived.WalkKit
import Derived.ProofKit
import Derived.OpenShut
import Derived.ShutString
import Derived.ChangeOld
import Derived.Below
set_option maxHeartbeats 1000000
set_option maxRecDepth 100000
namespace Go.Proofs.YtpgahclpbdpbnaaGreatDoor.crlChecks
open Go.ChangeShapes Go.WideShapes Go.ChangeAt Go.RowKit
open Go.ChangeMaps (open_string shut_string)
set_option linter.unusedVariables false
def zir (k:IntKind) (w:World) (a:Option Addr) (len cap:Nat) (zs:List Int):Prop:=
 (a=none/\ len=0/\ cap=0/\ zs=[]) \/
 ∃x,a=some x/\ len<=cap/\ cap<=maxLen/\ zs.length=cap/\ (∀i,i<zs.length->w.cell? (x.add i)=some (.int k (zs.getD i 0)))/\ ∀n∈zs,(Lit.int k n).wf=true
theorem walk (a0:Option Addr) (len0 cap0:Nat) (z0:List Int) (cv1:ziq) (a2:Int) (w:World) (ht:Tab w) (w0:zir .u8 w a0 len0 cap0 z0) (w1:zeu w cv1) (w2:(Lit.int .i64 a2).wf=true):
 Calls Tryz.prog 4 #[.slice a0 len0 cap0,.agg (zcF cv1),.int .i64 a2] w fun e w'=>e= .returned (.bool true)/\ Below w.heap.size w w':=by
 have hnil:a0=none->cap0=0:=fun e=>by
  rcases w0 with⟨_,_,h,_⟩|⟨x,h,_⟩
  · exact h
  · rw[e]at h
    cases h
 have hnc:len0<=cap0:=by
  rcases w0 with⟨_,h,_,_⟩|⟨x,_,h,_⟩
  · omega
  · exact h
 obtain⟨hr,_⟩:=zkf w0
 exact zii a0 len0 cap0 _ cv1 a2 w ht hr hnc hnil w1
theorem zlF (os:Os) (started:os.Started) (H:Type) (enc:TypeId×Value->H):
 ReturnsInHanded {} Tryz.checked os 4 .any (fun w args=>(Rows.crlChecksSpec.pre enc Tryz.prog Tryz.f4 Rows.crlChecksRow.domain false w args/\ laidMetH Tryz.prog zgB w)/\ sizedMet enc Tryz.prog Tryz.f4 (OpenSpec.ofChange Rows.crlChecksSpec) false w args)
  (Rows.crlChecksSpec.post enc Tryz.prog Tryz.f4 false true false false):=by
 refine zlO started (by kernel_rfl) Tryz.func4
  (ChangeSpec.witness_shaped (enc:=enc) (C:=Tryz.checked) (os:=os) (X:=fun w _=>laidMetH Tryz.prog zgB w) false (World.laidAll Tryz.prog os zgB) #[.slice none 0 0,.agg #[.int .u32 0,.string ByteArray.empty,.string ByteArray.empty,.int .i64 0,.int .i64 0,.slice none 0 0,.int .u32 0,.bool false,.bool false,.slice none 0 0,.slice none 0 0,.string ByteArray.empty,.string ByteArray.empty],.int .i64 0] 8 (World.laidAll_os _ _ _)
    (World.shaped_of_ZipB (by kernel_rfl) (by kernel_rfl)) (by kernel_rfl) (by kernel_rfl) (by kernel_rfl)
    (by rw[MakeChecks.laidMetH_plain _ _ _ (by kernel_rfl)];exact laidMet_laidAll _ (by kernel_rfl) (by kernel_rfl))) ?_
 intro W base args ds gs before hval0 hW hsh
 have hval:∀(j:Nat) t v,Tryz.f4.params[j]?=some t->args[j]?=some v->Value.okWide Tryz.prog W .any base t v:=hval0
 have hW':=hW
 obtain⟨p,q,hA0,hV,rfl,hfz,hnd⟩:=hW
 have hA:DataW.TrodAll enc Tryz.prog W 0 (fun _=>true) true Tryz.f4.params.toList args.toList ds p:=hA0
 rw[Tryz.params4]at hA hval
 obtain⟨v0,vs0,d0,ds0,p0,q0,hargs,rfl,rfl,h0,r0⟩:=trodAll_cons hA
 obtain⟨v1,vs1,d1,ds1,p1,q1,rfl,rfl,rfl,h1,r1⟩:=trodAll_cons r0
 obtain⟨v2,vs2,d2,ds2,p2,q2,rfl,rfl,rfl,h2,r2⟩:=trodAll_cons r1
 obtain⟨rfl,rfl,rfl⟩:=trodAll_nil r2
 obtain rfl:args=#[v0,v1,v2]:=by cases args;simp_all
 obtain⟨rfl,rfl⟩:=trodVars_none hV
 obtain⟨a0,len0,cap0,rfl⟩:=okWide_slice Tryz.underlying26 (hval 0 26 v0 rfl rfl)
 have k0:=h0
 have lt0:∀x∈p0,x.block<W.heap.size:=by obtain⟨m,hm⟩:=k0;exact DataW.trod_lt m _ _ _ hm
 obtain⟨z0,w0⟩:∃zs,zir .u8 W a0 len0 cap0 zs:=by
  obtain⟨fuel,hf⟩:=h0
  rcases open_ints Tryz.underlying26 Tryz.underlying5 (by kernel_rfl) hf with⟨hcs,_⟩|⟨x,l,c,zs,hcs,_,hl,hm,hz,_,hcell,hwz⟩
  · simp[Value.cells]at hcs
    obtain⟨rfl,rfl,rfl⟩:=hcs
    exact⟨[],.inl ⟨rfl,rfl,rfl,rfl⟩⟩
  · simp[Value.cells]at hcs
    obtain⟨rfl,rfl,rfl⟩:=hcs
    exact⟨zs,.inr ⟨_,rfl,hl,hm,by simpa using hz,hcell,hwz⟩⟩
 have k1:=h1
 have lt1:∀x∈p1,x.block<W.heap.size:=by obtain⟨m,hm⟩:=k1;exact DataW.trod_lt m _ _ _ hm
 obtain⟨cv1,rfl,w1⟩:=zr8 (hval 1 49 v1 rfl rfl) h1
 obtain⟨a2,rfl,rfl,rfl,w2⟩:=open_int Tryz.underlying2 (hval 2 2 v2 rfl rfl) h2
 clear hA0 hval0
 refine(walk a0 len0 cap0 z0 cv1 a2 W hsh w0 w1 w2).mono fun e W' ⟨he,bel⟩=> ?_
 subst he
 exact⟨_,rfl,_,_,_,[],_,[],hW',trodAll_mk1 (shut_bool Tryz.underlying4 _),(trodAll_cons_mk (Below.trod ze0 (by kernel_rfl) (of_decide_eq_true (by kernel_rfl)) k0 bel lt0) (trodAll_cons_mk (Below.trod ze0 (by kernel_rfl) (of_decide_eq_true (by kernel_rfl)) k1 bel lt1) (trodAll_cons_mk (shut_int Tryz.underlying2 w2) trodAll_mk0))),rfl,bel.frame _,fun h=>by cases h⟩
theorem over:Rows.crlChecksRow.holds Tryz.pinned (OpenSpec.ofChange Rows.crlChecksSpec):=
 OpenClaim.holds_of_wide 4 Tryz.f4 rfl rfl rfl rfl rfl rfl rfl ⟨rfl,rfl,rfl,rfl,rfl⟩ rfl rfl rfl rfl rfl (by kernel_rfl) Tryz.func4 (by kernel_rfl)
  (of_decide_eq_true (by kernel_rfl)) (by unfold Func.isWrapper;first|(rw[if_pos (by decide+kernel)];kernel_rfl)|(rw[if_neg (by decide+kernel)];exact⟨rfl,rfl⟩))
  (fun os started H enc _=>zlF os started H enc)
theorem zdG:Rows.CrlChecksSaid:=over
theorem proved:Rows.CrlChecksCardSaid:=
 Claim7.holds_tied_plain_at .later [] [.data,.data,.data,.pinned] true (true,"877527c3a8a7d41d5702c00193c5ab63cf1c0df3b73fb8fd2fb4e60a3039e97b") true
  zdG (fun _ h=>by cases h) (by kernel_rfl) (fun _ h=>by cases h) crlChecks_row_tie rfl ⟨rfl,rfl⟩ (by kernel_rfl) rfl
  (fun f fn hf hfn=>by
    obtain rfl:f=4:=Option.some.inj ((show Tryz.prog.funcNamed "lanyard/lanyardlaw16.CrlChecks" =some 4 by kernel_rfl).symm.trans hf)|>.symm
    obtain rfl:fn=Tryz.f4:=(Option.some.inj (Tryz.func4.symm.trans hfn)).symm
    exact⟨by kernel_rfl,fun j t ht=>by
     rw[Tryz.params4]at ht
     have hm:t∈[26,49,2]:=by simpa using Array.mem_of_getElem? ht
     have hall:([26,49,2].all fun u=> !Tryz.prog.wantsStandIn u)=true:=by kernel_rfl
     exact(show Tryz.prog.wantsStandIn t=false by simpa using List.all_eq_true.1 hall t hm)⟩)
  (by kernel_rfl)
#print axioms proved
end Go.Proofs.YtpgahclpbdpbnaaGreatDoor.crlChecks
