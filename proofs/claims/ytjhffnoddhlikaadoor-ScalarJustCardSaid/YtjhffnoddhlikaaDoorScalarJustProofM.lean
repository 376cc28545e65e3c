/-
  Proved: for every element the law ScalarJust returns true, and its argument reads afterwards as it read before. The condition is the card's own: the two listed variables of package unicode/utf8 hold what the program's text lays. (The frame is the guide's; the walk is by hand.)
-/
import Derived.Test.YtjhffnoddhlikaaDoorCards
import Derived.Test.YtjhffnoddhlikaaDoorTie
import Derived.Test.YtjhffnoddhlikaaDoorWrap
import Derived.SevenTiedAt
import Derived.Test.YtjhffnoddhlikaaDoorGrpK
import Derived.Test.YtjhffnoddhlikaaDoorGrpA
import Derived.WalkKit
import Derived.ProofKit
import Derived.OpenShut
import Derived.ShutString
import Derived.ChangeOld
import Derived.Below
namespace Go.Proofs.YtjhffnoddhlikaaDoor.scalarJust
open Go.ChangeShapes Go.WideShapes Go.ChangeAt Go.RowKit
open Go.ChangeMaps (open_string shut_string)
set_option linter.unusedVariables false

/-! ### STEP 1: THE WALK -/
set_option maxHeartbeats 1000000 in
theorem walk (u0 : Value) (t0 : T) (w : World) (w0 : t0.In w u0 ∧ Capped u0) :
    Calls Tryd.prog 8 #[u0] w fun e w' => e = .returned (.bool true) ∧ Below w.heap.size w w' := by
  exact just_walk up_said (fun x W h0 h1 => (int_any x W h0 h1).mono fun e w' h => h.has) (fun t v W hin hcap hn => uint_any t v W hin (by omega))
    (fun a n ca zs W hr hnc hn hnil => (oid_any a n ca zs W hr hnc).mono fun e w' h => h.has) (fun t v W hin hn => arcs_any t v W hin hn)
    (fun a n ca zs many W hr hnc hn hnil hwf => (bits_any a n ca zs many W hr (by omega) hnil hwf).mono fun e w' h => h.has) (fun t v W hin hcap hn => of_any t v W hin hcap hn)
    (fun s W hs => (text_any s W (by omega)).mono fun e w' h => h.has) (fun t v W hin hn => words_any t v W hin hn) (fun s W hwf => time_any s W hwf) (fun t v W hin hn => when_any t v W hin hn)
    u0 t0 w w0.1 w0.2

/-! ### THE ROW's STEP -/
set_option maxRecDepth 100000 in
theorem lifted (os : Os) (started : os.Started) (H : Type) (enc : TypeId × Value → H) :
    ReturnsInHanded {} Tryd.checked os 8 .any (fun w args => (Rows.scalarJustSpec.pre enc Tryd.prog Tryd.f8 Rows.scalarJustRow.domain false w args ∧ laidMetH Tryd.prog laids w) ∧ sizedMet enc Tryd.prog Tryd.f8 (OpenSpec.ofChange Rows.scalarJustSpec) false w args)
      (Rows.scalarJustSpec.post enc Tryd.prog Tryd.f8 false true false false) := by
  refine wrapped started (by kernel_rfl) Tryd.func8
    (ChangeSpec.witness_shaped (enc := enc) (C := Tryd.checked) (os := os) (X := fun w _ => laidMetH Tryd.prog laids w) false (World.laidAll Tryd.prog os laids) #[.agg #[.int .i64 0, .slice none 0 0, .slice none 0 0]] 8 (World.laidAll_os _ _ _)
      (World.shaped_of_ZipB (by kernel_rfl) (by kernel_rfl)) (by kernel_rfl) (by kernel_rfl) (by kernel_rfl)
      (by rw [MakeChecks.laidMetH_plain _ _ _ (by kernel_rfl)]; exact laidMet_laidAll _ (by kernel_rfl) (by kernel_rfl))) ?_
  intro W base args ds gs before hval0 hW hsh
  have hval : ∀ (j : Nat) t v, Tryd.f8.params[j]? = some t → args[j]? = some v → Value.okWide Tryd.prog W .any base t v := hval0
  have hW' := hW
  obtain ⟨p, q, hA0, hV, rfl, hfz, hnd⟩ := hW
  have hA : DataW.TrodAll enc Tryd.prog W 0 (fun _ => true) true Tryd.f8.params.toList args.toList ds p := hA0
  rw [Tryd.params8] at hA hval
  obtain ⟨v0, vs0, d0, ds0, p0, q0, hargs, rfl, rfl, h0, r0⟩ := trodAll_cons hA
  obtain ⟨rfl, rfl, rfl⟩ := trodAll_nil r0
  obtain rfl : args = #[v0] := by cases args; simp_all
  obtain ⟨rfl, rfl⟩ := trodVars_none hV
  have k0 := h0
  have lt0 : ∀ x ∈ p0, x.block < W.heap.size := by obtain ⟨m, hm⟩ := k0; exact DataW.trod_lt m _ _ _ hm
  obtain ⟨t0, w0⟩ : ∃ t : T, t.In W v0 ∧ Capped v0 := by
    obtain ⟨t, h⟩ := open_arg (hval 0 26 v0 rfl rfl) h0
    exact ⟨t, h, open_arg_cap (hval 0 26 v0 rfl rfl) h0⟩
  clear hA0 hval0
  refine (walk v0 t0 W w0).mono fun e W' ⟨he, bel⟩ => ?_
  subst he
  exact ⟨_, rfl, _, _, _, [], _, [], hW', trodAll_mk1 (shut_bool Tryd.underlying4 _), (trodAll_cons_mk (Below.trod laidOut (by kernel_rfl) (of_decide_eq_true (by kernel_rfl)) k0 bel lt0) trodAll_mk0), rfl, bel.frame _, fun h => by cases h⟩

theorem over : Rows.scalarJustRow.holds Tryd.pinned (OpenSpec.ofChange Rows.scalarJustSpec) :=
  OpenClaim.holds_of_wide 8 Tryd.f8 rfl rfl rfl rfl rfl rfl rfl ⟨rfl, rfl, rfl, rfl, rfl⟩ rfl rfl rfl rfl rfl (by kernel_rfl) Tryd.func8 (by kernel_rfl)
    (of_decide_eq_true (by kernel_rfl)) (by unfold Func.isWrapper; first | (rw [if_pos (by decide +kernel)]; kernel_rfl) | (rw [if_neg (by decide +kernel)]; exact ⟨rfl, rfl⟩))
    (fun os started H enc _ => lifted os started H enc)

theorem row_proved : Rows.ScalarJustSaid := over

theorem proved : Rows.ScalarJustCardSaid :=
  Claim7.holds_tied_plain_at .later [] [.data, .pinned] true (true, "93117c31de0d379499f361dadeb96f9beb5a78202465cee48440d2281189e0f6") false
    row_proved (fun _ h => by cases h) (by kernel_rfl) (fun _ h => by cases h) scalarJust_row_tie rfl ⟨rfl, rfl⟩ (by kernel_rfl) rfl
    (fun f fn hf hfn => by
      obtain rfl : f = 8 := Option.some.inj ((show Tryd.prog.funcNamed "lanyard/lanyardlaw05.ScalarJust" = some 8 by kernel_rfl).symm.trans hf) |>.symm
      obtain rfl : fn = Tryd.f8 := (Option.some.inj (Tryd.func8.symm.trans hfn)).symm
      exact ⟨by kernel_rfl, fun j t ht => by
        rw [Tryd.params8] at ht
        have hm : t ∈ [26] := by simpa using Array.mem_of_getElem? ht
        have hall : ([26].all fun u => !Tryd.prog.wantsStandIn u) = true := by kernel_rfl
        exact (show Tryd.prog.wantsStandIn t = false by simpa using List.all_eq_true.1 hall t hm)⟩)
    (by kernel_rfl)
#print axioms proved
end Go.Proofs.YtjhffnoddhlikaaDoor.scalarJust
