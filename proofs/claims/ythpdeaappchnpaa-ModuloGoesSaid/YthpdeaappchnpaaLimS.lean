/-
  What the reference's Cmp, Same, Add and Sub answer, for stage 7 (limb).
-/
import Derived.Test.YthpdeaappchnpaaLimR
namespace Go.Proofs.Ythpdeaappchnpaa
open Go.RowKit
set_option linter.unusedVariables false

set_option maxHeartbeats 500000 in
set_option maxRecDepth 10000 in
/-- Two slices that read as the same limbs are the same. -/
theorem same_any (a b : Option Addr) (n ca cb : Nat) (zs : List Int) (w : World) (hr : Row32 w a n zs) (hs : Row32 w b n zs) (hn : n ≤ 1000000) : Calls Try.prog 11 #[.slice a n ca, .slice b n cb] w fun e w' => e = .returned (.bool true) ∧ ∃ q, w' = w.drewN q := by
  have HR := Lib.hid hr
  have HS := Lib.hid hs
  clear hr hs
  go_enter Try.func11, Try.ntmps11
  go_wp2_with fail
  go_loopw [5] (fun i wr => ∃ k q : Nat, k ≤ n ∧ i = .int .i64 (k : Int) ∧ wr = w.drewN q) (fun i _ => (1000001 - intOf i).toNat)
  case atStart => exact ⟨0, 0, by omega, rfl, rfl⟩
  case round =>
    obtain ⟨k, q, hk, rfl, hw⟩ := hrel
    by_cases h : k < n
    · obtain ⟨b1, o1, rfl, hb1, hc1⟩ := HR.out.2.2 (by omega)
      obtain ⟨b2, o2, rfl, hb2, hc2⟩ := HS.out.2.2 (by omega)
      have t0 : decide ((k : Int) < (n : Int)) = true := decide_eq_true (by omega)
      have kI : (k : Int) < (n : Int) := by omega
      have kN : (0 : Int) ≤ (k : Int) := by omega
      have c1 : wr.cell? ⟨b1, o1 + k, none⟩ = some (.int .u32 (zs[k]?.getD 0)) := by rw [hw]; exact hc1 k h
      have c2 : wr.cell? ⟨b2, o2 + k, none⟩ = some (.int .u32 (zs[k]?.getD 0)) := by rw [hw]; exact hc2 k h
      have HW := Lib.hid hw
      generalize zs[k]?.getD 0 = x at *
      clear hc1 hc2 hw
      go_wp2_with fail
      go_quiet (fail)
      have N2 : Hid (wr.drewN nq = w.drewN (q + nq)) := by rw [HW.out]; exact Lib.hid (World.drewN_drewN _ _ _)
      generalize wr.drewN nq = w2 at *
      go_wp2_with fail
      go_roundw
      case rel => exact ⟨k + 1, _, by omega, by first | rfl | go_num, N2.out⟩
      case measure => simp only [intOf]; omega
    · have t0 : decide ((k : Int) < (n : Int)) = false := decide_eq_false (by omega)
      have HW := Lib.hid hw
      clear hw
      go_wp2_with fail
      go_ret
      exact ⟨rfl, q, HW.out⟩

end Go.Proofs.Ythpdeaappchnpaa
