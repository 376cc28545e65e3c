/-
  Proved: for every string the law RadixLines returns true, and the argument reads afterwards as it read before. The condition is the card's own: the two listed variables of package unicode/utf8 hold what the program's text lays.
-/
import Derived.Test.YtmmcmiljnmbfcaaDoorCards
import Derived.Test.YtmmcmiljnmbfcaaDoorTie
import Derived.Test.YtmmcmiljnmbfcaaDoorWrap
import Derived.Test.YtmmcmiljnmbfcaaDoorLines
import Derived.Test.YtmmcmiljnmbfcaaDoorRBare
import Derived.WalkKit
import Derived.ProofKit
import Derived.OpenShut
import Derived.ShutString
import Derived.ChangeOld
import Derived.Below
import Derived.SevenTiedAt
namespace Go.Proofs.YtmmcmiljnmbfcaaDoor.radixLines
open Go.ChangeShapes Go.WideShapes Go.ChangeAt Go.RowKit
open Go.ChangeMaps (open_string shut_string)
set_option linter.unusedVariables false

theorem lines_len (s : ByteArray) : (linesL s.data.toList).length ≤ s.size + 1 := by
  have h1 := cutG_len s.data.toList []
  have h2 := Lib.size_eq s
  have h3 : (linesL s.data.toList).length ≤ (cutG [] s.data.toList).length := by
    unfold linesL lopE
    split
    · rw [List.length_dropLast, List.length_map]
      omega
    · rw [List.length_map]
      exact Nat.le_refl _
  omega
theorem drewN_below (w : World) (n : Nat) : Below w.heap.size w (w.drewN n) := ⟨rfl, rfl, rfl, Nat.le_refl _, fun _ _ => rfl⟩

set_option maxHeartbeats 1000000 in
theorem walk (a0 : ByteArray) (m : Int) (w : World) (w0 : a0.size ≤ maxLen) (hm : w.cell? ⟨0, 0, none⟩ = some (.int .i64 m)) :
    Calls Tryd.prog 3 #[.string a0] w fun e w' => e = .returned (.bool true) ∧ Below w.heap.size w w' := by
  have hw0 : 0 < w.heap.size := by
    rcases Nat.eq_zero_or_pos w.heap.size with h | h
    · simp [World.cell?, Array.getElem?_eq_none (show w.heap.size ≤ 0 by omega)] at hm
    · exact h
  unfold maxLen at w0
  by_cases hs : a0.size ≤ 2000
  · have hn := lines_len a0
    go_enter Tryd.func3, Tryd.ntmps3
    go_wp2_with fail
    refine (awake_any w).mono ?_
    rintro e w1 ⟨rfl, hb1⟩
    have HM := Lib.hid ((hb1.cell (p := ⟨0, 0, none⟩) hw0).trans hm)
    have B1 := Lib.hid hb1
    clear hb1 hm
    go_wp2_with fail
    refine (lines_any a0 m _ (by omega) HM.out).mono ?_
    rintro e w2 ⟨a, c, rfl, hr2, hb2⟩
    have R2 := Lib.hid hr2
    have B2 := Lib.hid (Below.step B1.out hb2)
    clear hr2 hb2 HM B1
    go_wp2_with fail
    refine (rlines_any a0 _ (by omega)).mono ?_
    rintro e w3 ⟨a', c', rfl, hr3, hb3⟩
    have R3 := Lib.hid (R2.out.below hb3)
    have R4 := Lib.hid hr3
    have B3 := Lib.hid (Below.step B2.out hb3)
    clear hr3 hb3 B2 R2
    go_wp2_with fail
    refine (same_any _ _ _ _ _ _ _ _ _ R3.out R4.out (by omega) (by omega)).mono ?_
    rintro e w4 ⟨rfl, q, rfl⟩
    rw [decide_eq_true rfl]
    have B4 := Lib.hid (Below.step B3.out (drewN_below w3 q))
    clear R3 R4 B3
    go_wp2_with fail
    refine (bare_any a0 _ hs).mono ?_
    rintro e w5 ⟨rfl, hb5⟩
    have B5 := Lib.hid (Below.step B4.out hb5)
    clear hb5 B4
    go_wp2_with fail
    refine (rbare_any a0 _ hs).mono ?_
    rintro e w6 ⟨rfl, hb6⟩
    have B6 := Lib.hid (Below.step B5.out hb6)
    clear hb6 B5
    go_wp2
    go_ret
    exact ⟨rfl, B6.out⟩
  · go_enter Tryd.func3, Tryd.ntmps3
    go_wp2_with fail
    refine (awake_any w).mono ?_
    rintro e w1 ⟨rfl, hb1⟩
    have B1 := Lib.hid hb1
    clear hb1
    go_wp2
    go_ret
    exact ⟨rfl, B1.out⟩

/-! ### THE ROW's STEP -/
set_option maxRecDepth 100000 in
theorem lifted (os : Os) (started : os.Started) (H : Type) (enc : TypeId × Value → H) :
    ReturnsInHanded {} Tryd.checked os 3 .any (fun w args => (Rows.radixLinesSpec.pre enc Tryd.prog Tryd.f3 Rows.radixLinesRow.domain false w args ∧ laidMetH Tryd.prog laids w) ∧ sizedMet enc Tryd.prog Tryd.f3 (OpenSpec.ofChange Rows.radixLinesSpec) false w args)
      (Rows.radixLinesSpec.post enc Tryd.prog Tryd.f3 false true false false) := by
  refine wrapped started (by kernel_rfl) Tryd.func3
    (ChangeSpec.witness_shaped (enc := enc) (C := Tryd.checked) (os := os) (X := fun w _ => laidMetH Tryd.prog laids w) false (World.laidAll Tryd.prog os laids) #[.string ByteArray.empty] 8 (World.laidAll_os _ _ _)
      (World.shaped_of_ZipB (by kernel_rfl) (by kernel_rfl)) (by kernel_rfl) (by kernel_rfl) (by kernel_rfl)
      (by rw [MakeChecks.laidMetH_plain _ _ _ (by kernel_rfl)]; exact laidMet_laidAll _ (by kernel_rfl) (by kernel_rfl))) ?_
  intro W base args ds gs before hval0 hW hsh
  have hval : ∀ (j : Nat) t v, Tryd.f3.params[j]? = some t → args[j]? = some v → Value.okWide Tryd.prog W .any base t v := hval0
  have hW' := hW
  obtain ⟨p, q, hA0, hV, rfl, hfz, hnd⟩ := hW
  have hA : DataW.TrodAll enc Tryd.prog W 0 (fun _ => true) true Tryd.f3.params.toList args.toList ds p := hA0
  rw [Tryd.params3] at hA hval
  obtain ⟨v0, vs0, d0, ds0, p0, q0, hargs, rfl, rfl, h0, r0⟩ := trodAll_cons hA
  obtain ⟨rfl, rfl, rfl⟩ := trodAll_nil r0
  obtain rfl : args = #[v0] := by cases args; simp_all
  obtain ⟨rfl, rfl⟩ := trodVars_none hV
  obtain ⟨a0, rfl, rfl, rfl, w0⟩ := open_string Tryd.underlying9 (hval 0 9 v0 rfl rfl) h0
  clear hA0 hval0
  obtain ⟨m, hm⟩ := most_len hsh
  refine (walk a0 m W w0 hm).mono fun e W' ⟨he, bel⟩ => ?_
  subst he
  exact ⟨_, rfl, _, _, _, [], _, [], hW', trodAll_mk1 (shut_bool Tryd.underlying4 _), (trodAll_cons_mk (shut_string Tryd.underlying9 w0) trodAll_mk0), rfl, bel.frame _, fun h => by cases h⟩

theorem over : Rows.radixLinesRow.holds Tryd.pinned (OpenSpec.ofChange Rows.radixLinesSpec) :=
  OpenClaim.holds_of_wide 3 Tryd.f3 rfl rfl rfl rfl rfl rfl rfl ⟨rfl, rfl, rfl, rfl, rfl⟩ rfl rfl rfl rfl rfl (by kernel_rfl) Tryd.func3 (by kernel_rfl)
    (of_decide_eq_true (by kernel_rfl)) (by unfold Func.isWrapper; first | (rw [if_pos (by decide +kernel)]; kernel_rfl) | (rw [if_neg (by decide +kernel)]; exact ⟨rfl, rfl⟩))
    (fun os started H enc _ => lifted os started H enc)

theorem row_proved : Rows.RadixLinesSaid := over

theorem proved : Rows.RadixLinesCardSaid :=
  Claim7.holds_tied_plain_at .later [] [.data, .pinned] true (true, "7a19b0be02ae1ae00d8c708cca88237deed5637b75f053ed5a1b09a7c63425d0") false
    row_proved (fun _ h => by cases h) (by kernel_rfl) (fun _ h => by cases h) radixLines_row_tie rfl ⟨rfl, rfl⟩ (by kernel_rfl) rfl
    (fun f fn hf hfn => by
      obtain rfl : f = 3 := Option.some.inj ((show Tryd.prog.funcNamed "lanyard/lanyardlaw02.RadixLines" = some 3 by kernel_rfl).symm.trans hf) |>.symm
      obtain rfl : fn = Tryd.f3 := (Option.some.inj (Tryd.func3.symm.trans hfn)).symm
      exact ⟨by kernel_rfl, fun j t ht => by
        rw [Tryd.params3] at ht
        have hm : t ∈ [9] := by simpa using Array.mem_of_getElem? ht
        have hall : ([9].all fun u => !Tryd.prog.wantsStandIn u) = true := by kernel_rfl
        exact (show Tryd.prog.wantsStandIn t = false by simpa using List.all_eq_true.1 hall t hm)⟩)
    (by kernel_rfl)
#print axioms proved
end Go.Proofs.YtmmcmiljnmbfcaaDoor.radixLines
