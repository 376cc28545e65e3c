/-
  Proved: for any two keys the law SpkiUnlike returns true, and its arguments read afterwards as they read before. The condition is the card's own: the two listed variables of package sha hold what the program's text lays. (The frame is the guide's; the walk is by hand.)
-/
import Derived.Test.YtgmefdmeeihgoaaDoorCards
import Derived.Test.YtgmefdmeeihgoaaDoorTie
import Derived.Test.YtgmefdmeeihgoaaDoorGrL
import Derived.SevenTiedAt
import Derived.Test.YtgmefdmeeihgoaaDoorGrJ
import Derived.Test.YtgmefdmeeihgoaaDoorGrA
import Derived.WalkKit
import Derived.ProofKit
import Derived.OpenShut
import Derived.ShutString
import Derived.ChangeOld
import Derived.Below
namespace Go.Proofs.YtgmefdmeeihgoaaDoor.spkiUnlike
open Go.ChangeShapes Go.WideShapes Go.ChangeAt Go.RowKit
open Go.ChangeMaps (open_string shut_string)
set_option linter.unusedVariables false

/-! ### STEP 1: THE WALK -/
set_option maxHeartbeats 1000000 in
theorem walk (a0 : Option Addr) (kn0 kc0 : Nat) (ke0 : Int) (ns0 : List Int) (a1 : Option Addr) (kn1 kc1 : Nat) (ke1 : Int) (ns1 : List Int) (w : World) (ht : Tab w) (w0 : KeyAt w a0 kn0 kc0 ke0 ns0 ∧ kn0 ≤ maxLen) (w1 : KeyAt w a1 kn1 kc1 ke1 ns1 ∧ kn1 ≤ maxLen) :
    Calls Tryd.prog 4 #[.agg #[.slice a0 kn0 kc0, .int .u32 ke0], .agg #[.slice a1 kn1 kc1, .int .u32 ke1]] w fun e w' => e = .returned (.bool true) ∧ Below w.heap.size w w' := by
  exact unlike_walk a0 kn0 kc0 ke0 ns0 a1 kn1 kc1 ke1 ns1 w ht w0.1 w0.2 w1.1 w1.2

/-! ### THE ROW's STEP -/
set_option maxRecDepth 100000 in
theorem lifted (os : Os) (started : os.Started) (H : Type) (enc : TypeId × Value → H) :
    ReturnsInHanded {} Tryd.checked os 4 .any (fun w args => (Rows.spkiUnlikeSpec.pre enc Tryd.prog Tryd.f4 Rows.spkiUnlikeRow.domain false w args ∧ laidMetH Tryd.prog laids w) ∧ sizedMet enc Tryd.prog Tryd.f4 (OpenSpec.ofChange Rows.spkiUnlikeSpec) false w args)
      (Rows.spkiUnlikeSpec.post enc Tryd.prog Tryd.f4 false true false false) := by
  refine wrapped started (by kernel_rfl) Tryd.func4
    (ChangeSpec.witness_shaped (enc := enc) (C := Tryd.checked) (os := os) (X := fun w _ => laidMetH Tryd.prog laids w) false (World.laidAll Tryd.prog os laids) #[.agg #[.slice none 0 0, .int .u32 0], .agg #[.slice none 0 0, .int .u32 0]] 8 (World.laidAll_os _ _ _)
      (World.shaped_of_ZipB (by kernel_rfl) (by kernel_rfl)) (by kernel_rfl) (by kernel_rfl) (by kernel_rfl)
      (by rw [MakeChecks.laidMetH_plain _ _ _ (by kernel_rfl)]; exact laidMet_laidAll _ (by kernel_rfl) (by kernel_rfl))) ?_
  intro W base args ds gs before hval0 hW hsh
  have hval : ∀ (j : Nat) t v, Tryd.f4.params[j]? = some t → args[j]? = some v → Value.okWide Tryd.prog W .any base t v := hval0
  have hW' := hW
  obtain ⟨p, q, hA0, hV, rfl, hfz, hnd⟩ := hW
  have hA : DataW.TrodAll enc Tryd.prog W 0 (fun _ => true) true Tryd.f4.params.toList args.toList ds p := hA0
  rw [Tryd.params4] at hA hval
  obtain ⟨v0, vs0, d0, ds0, p0, q0, hargs, rfl, rfl, h0, r0⟩ := trodAll_cons hA
  obtain ⟨v1, vs1, d1, ds1, p1, q1, rfl, rfl, rfl, h1, r1⟩ := trodAll_cons r0
  obtain ⟨rfl, rfl, rfl⟩ := trodAll_nil r1
  obtain rfl : args = #[v0, v1] := by cases args; simp_all
  obtain ⟨rfl, rfl⟩ := trodVars_none hV
  have k0 := h0
  have lt0 : ∀ x ∈ p0, x.block < W.heap.size := by obtain ⟨m, hm⟩ := k0; exact DataW.trod_lt m _ _ _ hm
  obtain ⟨a0, kn0, kc0, ke0, ns0, rfl, w0⟩ := open_key (hval 0 25 v0 rfl rfl) h0
  have k1 := h1
  have lt1 : ∀ x ∈ p1, x.block < W.heap.size := by obtain ⟨m, hm⟩ := k1; exact DataW.trod_lt m _ _ _ hm
  obtain ⟨a1, kn1, kc1, ke1, ns1, rfl, w1⟩ := open_key (hval 1 25 v1 rfl rfl) h1
  clear hA0 hval0
  refine (walk a0 kn0 kc0 ke0 ns0 a1 kn1 kc1 ke1 ns1 W hsh w0 w1).mono fun e W' ⟨he, bel⟩ => ?_
  subst he
  exact ⟨_, rfl, _, _, _, [], _, [], hW', trodAll_mk1 (shut_bool Tryd.underlying4 _), (trodAll_cons_mk (Below.trod laidOut (by kernel_rfl) (of_decide_eq_true (by kernel_rfl)) k0 bel lt0) (trodAll_cons_mk (Below.trod laidOut (by kernel_rfl) (of_decide_eq_true (by kernel_rfl)) k1 bel lt1) trodAll_mk0)), rfl, bel.frame _, fun h => by cases h⟩

theorem over : Rows.spkiUnlikeRow.holds Tryd.pinned (OpenSpec.ofChange Rows.spkiUnlikeSpec) :=
  OpenClaim.holds_of_wide 4 Tryd.f4 rfl rfl rfl rfl rfl rfl rfl ⟨rfl, rfl, rfl, rfl, rfl⟩ rfl rfl rfl rfl rfl (by kernel_rfl) Tryd.func4 (by kernel_rfl)
    (of_decide_eq_true (by kernel_rfl)) (by unfold Func.isWrapper; first | (rw [if_pos (by decide +kernel)]; kernel_rfl) | (rw [if_neg (by decide +kernel)]; exact ⟨rfl, rfl⟩))
    (fun os started H enc _ => lifted os started H enc)

theorem row_proved : Rows.SpkiUnlikeSaid := over

theorem proved : Rows.SpkiUnlikeCardSaid :=
  Claim7.holds_tied_plain_at .later [] [.data, .data, .data, .pinned] true (true, "703fcef75224c8ab36746c85af9482184577c7d50fa01127c51b0e18539076a6") true
    row_proved (fun _ h => by cases h) (by kernel_rfl) (fun _ h => by cases h) spkiUnlike_row_tie rfl ⟨rfl, rfl⟩ (by kernel_rfl) rfl
    (fun f fn hf hfn => by
      obtain rfl : f = 4 := Option.some.inj ((show Tryd.prog.funcNamed "lanyard/lanyardlaw14.SpkiUnlike" = some 4 by kernel_rfl).symm.trans hf) |>.symm
      obtain rfl : fn = Tryd.f4 := (Option.some.inj (Tryd.func4.symm.trans hfn)).symm
      exact ⟨by kernel_rfl, fun j t ht => by
        rw [Tryd.params4] at ht
        have hm : t ∈ [25, 25] := by simpa using Array.mem_of_getElem? ht
        have hall : ([25, 25].all fun u => !Tryd.prog.wantsStandIn u) = true := by kernel_rfl
        exact (show Tryd.prog.wantsStandIn t = false by simpa using List.all_eq_true.1 hall t hm)⟩)
    (by kernel_rfl)
#print axioms proved
end Go.Proofs.YtgmefdmeeihgoaaDoor.spkiUnlike
