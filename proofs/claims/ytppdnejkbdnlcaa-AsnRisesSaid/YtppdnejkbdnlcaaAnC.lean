/-
  cmp.Compare at uint32; how draws grow, for stage 12 (asn).
-/
import Derived.Test.YtppdnejkbdnlcaaAnG
import Derived.Lib.Small
namespace Go.Proofs.Ytppdnejkbdnlcaa
open Go.RowKit
set_option linter.unusedVariables false

/-- The world goes on: nothing that was there has turned, and draws are counted on. -/
def BDR (w w' : World) : Prop := Below w.heap.size w w' ∧ w.drawn ≤ w'.drawn
theorem BDR.refl (w : World) : BDR w w := ⟨Below.refl _ _, Nat.le_refl _⟩
theorem BDR.step {a b c : World} (h : BDR a b) (k : BDR b c) : BDR a c := ⟨Below.step h.1 k.1, Nat.le_trans h.2 k.2⟩
theorem bdr_box (w : World) (o : Obj) : BDR w (w.alloc o) := ⟨boxR_below w o, Nat.le_refl _⟩
theorem BDR.grow {w w' : World} (h : BDR w w') : ∃ (q : Nat) (os : Array Obj), w' = Sort.grow (w.drewN q) os := by
  obtain ⟨⟨h1, h2, h3, h4, h5⟩, h6⟩ := h
  refine ⟨w'.drawn - w.drawn, w'.heap.extract w.heap.size w'.heap.size, ?_⟩
  obtain ⟨hp, tp, dr, os, ou⟩ := w'
  simp only at h1 h2 h3 h4 h5 h6
  subst h1 h2 h3
  unfold Sort.grow World.drewN
  have e : w.drawn + (dr - w.drawn) = dr := by omega
  simp only [e]
  congr 1
  apply Array.ext_getElem?
  intro k
  rw [Array.getElem?_append]
  split
  · exact h5 k (by assumption)
  · rw [Array.getElem?_extract]
    split
    · rw [show w.heap.size + (k - w.heap.size) = k by omega]
    · exact Array.getElem?_eq_none (by omega)
def cmpU (x y : Nat) : Int := if x < y then -1 else if y < x then 1 else 0
theorem cmpU_less {x y : Nat} : cmpU x y < 0 ↔ x < y := by
  unfold cmpU
  split
  · omega
  · split <;> omega
theorem nanU_any (x : Nat) (w : World) : Calls Try.prog 29 #[.int .u32 (x : Int)] w fun e w' => e = .returned (.bool false) ∧ w' = w := by
  go_enter Try.func29, Try.ntmps29
  go_wp2_with fail
  go_ret
  exact ⟨by simp, rfl⟩
set_option maxHeartbeats 500000 in
theorem cmpU_any (x y : Nat) (w : World) : Calls Try.prog 25 #[.int .u32 (x : Int), .int .u32 (y : Int)] w fun e w' => e = .returned (.int .i64 (cmpU x y)) ∧ w' = w := by
  have CX := Lib.hid (fun W => nanU_any x W)
  have CY := Lib.hid (fun W => nanU_any y W)
  have E1 : x < y → Hid (cmpU x y = -1) := fun h => Lib.hid (if_pos h)
  have E2 : ¬ x < y → y < x → Hid (cmpU x y = 1) := fun h k => Lib.hid (by unfold cmpU; rw [if_neg h, if_pos k])
  have E3 : ¬ x < y → ¬ y < x → Hid (cmpU x y = 0) := fun h k => Lib.hid (by unfold cmpU; rw [if_neg h, if_neg k])
  generalize cmpU x y = c at *
  go_enter Try.func25, Try.ntmps25
  by_cases h1 : x < y
  · have F := E1 h1
    have t1 : decide ((x : Int) < (y : Int)) = true := decide_eq_true (by omega)
    have t1' : decide (x < y) = true := decide_eq_true h1
    clear E1 E2 E3
    go_wp2_with (first | (refine (CX.out _).mono ?_; rintro e w' ⟨rfl, rfl⟩; clear CX) | (refine (CY.out _).mono ?_; rintro e w' ⟨rfl, rfl⟩))
    go_ret
    exact ⟨by rw [F.out]; rfl, rfl⟩
  · have t1 : decide ((x : Int) < (y : Int)) = false := decide_eq_false (by omega)
    have t1' : decide (x < y) = false := decide_eq_false h1
    by_cases h2 : y < x
    · have F := E2 h1 h2
      have t2 : decide ((y : Int) < (x : Int)) = true := decide_eq_true (by omega)
      have t2' : decide (y < x) = true := decide_eq_true h2
      clear E1 E2 E3
      go_wp2_with (first | (refine (CX.out _).mono ?_; rintro e w' ⟨rfl, rfl⟩; clear CX) | (refine (CY.out _).mono ?_; rintro e w' ⟨rfl, rfl⟩))
      go_ret
      exact ⟨by rw [F.out]; rfl, rfl⟩
    · have F := E3 h1 h2
      have t2 : decide ((y : Int) < (x : Int)) = false := decide_eq_false (by omega)
      have t2' : decide (y < x) = false := decide_eq_false h2
      clear E1 E2 E3
      go_wp2_with (first | (refine (CX.out _).mono ?_; rintro e w' ⟨rfl, rfl⟩; clear CX) | (refine (CY.out _).mono ?_; rintro e w' ⟨rfl, rfl⟩))
      go_ret
      exact ⟨by rw [F.out]; rfl, rfl⟩

end Go.Proofs.Ytppdnejkbdnlcaa
