/-
  The package's small functions of one or two ranges, for stage 12 (asn).
-/
import Derived.Test.YtppdnejkbdnlcaaAnU
import Derived.Test.YtppdnejkbdnlcaaAnB
namespace Go.Proofs.Ytppdnejkbdnlcaa
open Go.RowKit
set_option linter.unusedVariables false

set_option maxHeartbeats 500000 in
/-- Has a range no numbers? -/
theorem wrongR_any (s : Nat × Nat) (w : World) : Calls Try.prog 22 #[.agg (rcells s)] w fun e w' => e = .returned (.bool (!validP s)) ∧ Below w.heap.size w w' := by
  have BX := rbox w s
  have c1 : (w.alloc (.cells (rcells s) 33)).cell? ⟨w.heap.size, 0, none⟩ = some (.int .u32 (s.1 : Int)) := Blk.cell BX 0
  have c2 : (w.alloc (.cells (rcells s) 33)).cell? ⟨w.heap.size, 1, none⟩ = some (.int .u32 (s.2 : Int)) := Blk.cell BX 1
  have BW := Lib.hid (boxR_below w (.cells (rcells s) 33))
  have EV : Hid (decide (s.2 < s.1) = !validP s) := Lib.hid (by
    unfold validP
    by_cases h : s.1 ≤ s.2
    · rw [decide_eq_true h, decide_eq_false (by omega)]; rfl
    · rw [decide_eq_false h, decide_eq_true (by omega)]; rfl)
  clear BX
  go_enter Try.func22, Try.ntmps22
  generalize validP s = v at *
  generalize s.1 = x at *
  generalize s.2 = y at *
  generalize hw2 : w.alloc (.cells (rcells s) 33) = w2 at *
  cases v with
  | true =>
    have e := EV.out
    have t0' : decide (y < x) = false := e
    have t0 : decide ((y : Int) < (x : Int)) = false := decide_eq_false (by have := of_decide_eq_false t0'; omega)
    clear e EV
    go_wp2_with fail
    go_ret
    exact ⟨rfl, BW.out⟩
  | false =>
    have e := EV.out
    have t0' : decide (y < x) = true := e
    have t0 : decide ((y : Int) < (x : Int)) = true := decide_eq_true (by have := of_decide_eq_true t0'; omega)
    clear e EV
    go_wp2_with fail
    go_ret
    exact ⟨rfl, BW.out⟩

set_option maxHeartbeats 500000 in
/-- Is the number of the box g one of a range's? -/
theorem hasC_any (s : Nat × Nat) (q g : Nat) (w : World) (hc : w.cell? ⟨g, 0, none⟩ = some (.int .u32 (q : Int))) (hg : g < w.heap.size) : Calls Try.prog 19 #[.agg (rcells s), .pointer (some ⟨g, 0, none⟩)] w fun e w' => e = .returned (.bool (decide (s.1 ≤ q) && decide (q ≤ s.2))) ∧ Below w.heap.size w w' := by
  have BX := rbox w s
  have c1 : (w.alloc (.cells (rcells s) 33)).cell? ⟨w.heap.size, 0, none⟩ = some (.int .u32 (s.1 : Int)) := Blk.cell BX 0
  have c2 : (w.alloc (.cells (rcells s) 33)).cell? ⟨w.heap.size, 1, none⟩ = some (.int .u32 (s.2 : Int)) := Blk.cell BX 1
  have c3 : (w.alloc (.cells (rcells s) 33)).cell? ⟨g, 0, none⟩ = some (.int .u32 (q : Int)) := ((boxR_below w (.cells (rcells s) 33)).cell (p := ⟨g, 0, none⟩) hg).trans hc
  have BW := Lib.hid (boxR_below w (.cells (rcells s) 33))
  clear BX hc hg
  go_enter Try.func19, Try.ntmps19
  generalize s.1 = x at *
  generalize s.2 = y at *
  generalize hw2 : w.alloc (.cells (rcells s) 33) = w2 at *
  generalize hg2 : w.heap.size = g2 at *
  by_cases h1 : x ≤ q
  · have t1 : decide ((x : Int) ≤ (q : Int)) = true := decide_eq_true (by omega)
    have t1' : decide (x ≤ q) = true := decide_eq_true h1
    by_cases h2 : q ≤ y
    · have t2 : decide ((q : Int) ≤ (y : Int)) = true := decide_eq_true (by omega)
      have t2' : decide (q ≤ y) = true := decide_eq_true h2
      go_wp2_with fail
      go_ret
      exact ⟨by rw [t1', t2']; rfl, BW.out⟩
    · have t2 : decide ((q : Int) ≤ (y : Int)) = false := decide_eq_false (by omega)
      have t2' : decide (q ≤ y) = false := decide_eq_false h2
      go_wp2_with fail
      go_ret
      exact ⟨by rw [t1', t2']; rfl, BW.out⟩
  · have t1 : decide ((x : Int) ≤ (q : Int)) = false := decide_eq_false (by omega)
    have t1' : decide (x ≤ q) = false := decide_eq_false h1
    go_wp2_with fail
    go_ret
    exact ⟨by rw [t1']; rfl, BW.out⟩

end Go.Proofs.Ytppdnejkbdnlcaa
