/-
  Plain facts of stage 9 (rsa): keys that may be, frames. Nothing of the program is named here.
-/
import Derived.Test.YtdhablbfblkagaaBlk
namespace Go.Proofs.Ytdhablbfblkagaa
open Go.RowKit
set_option linter.unusedVariables false

/-- May the key be? -/
def rightZ (ns : List Int) (e : Int) : Bool := decide (62 ≤ ns.length) && decide (ns.length ≤ 512) && !(ns[0]?.getD 0 == 0) && (ns[ns.length - 1]?.getD 0 % 2 == 1) && (e % 2 == 1) && decide (3 ≤ e)
def HEAD : List Int := [48, 49, 48, 13, 6, 9, 96, 134, 72, 1, 101, 3, 4, 2, 1, 5, 0, 4, 32]
/-- A hash's frame of so many bytes. -/
def frameZ (hz : List Int) (k : Nat) : List Int := 0 :: 1 :: (List.replicate (k - 54) 255 ++ 0 :: (HEAD ++ hz))
theorem frame_len {hz : List Int} (h : hz.length = 32) {k : Nat} (hk : 62 ≤ k) : (frameZ hz k).length = k := by
  simp [frameZ, HEAD, h]
  omega
theorem frame_byte {hz : List Int} (h : ∀ x ∈ hz, 0 ≤ x ∧ x ≤ 255) (k : Nat) : ∀ x ∈ frameZ hz k, 0 ≤ x ∧ x ≤ 255 := by
  intro x hx
  simp only [frameZ, HEAD, List.mem_cons, List.mem_append, List.not_mem_nil, or_false, List.mem_replicate] at hx
  rcases hx with rfl | rfl | ⟨_, rfl⟩ | rfl | hx | hx
  · omega
  · omega
  · omega
  · omega
  · omega
  · exact h x hx
/-- Frames of as many bytes are the same just if the hashes are. -/
theorem frame_inj {xs ys : List Int} {k : Nat} (h : frameZ xs k = frameZ ys k) : xs = ys := by
  simpa [frameZ] using h

theorem right_len {ns : List Int} {e : Int} (h : rightZ ns e = true) : 62 ≤ ns.length ∧ ns.length ≤ 512 := by
  simp only [rightZ, Bool.and_eq_true, decide_eq_true_eq] at h
  omega
theorem right_head {ns : List Int} {e : Int} (h : rightZ ns e = true) : ns[0]?.getD 0 ≠ 0 := by
  simp only [rightZ, Bool.and_eq_true, decide_eq_true_eq, Bool.not_eq_true', beq_eq_false_iff_ne] at h
  exact h.1.1.1.2

end Go.Proofs.Ytdhablbfblkagaa
