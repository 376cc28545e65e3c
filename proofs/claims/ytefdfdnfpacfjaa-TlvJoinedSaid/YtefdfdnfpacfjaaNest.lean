/-
  Elements one within the other, and elements one behind the other within one, for stage 4 (tlv). Nothing of the program is named here.
-/
import Derived.Test.YtefdfdnfpacfjaaTrip
namespace Go.Proofs.Ytefdfdnfpacfjaa
open Go.RowKit

/-- Elements one within the other: a null within n sequences. -/
def nest : Nat → T
  | 0 => .node 5 [] []
  | n + 1 => .node 48 [] [nest n]
theorem nest_right (n : Nat) : rightT (nest n) = true := by
  induction n with
  | zero => simp [nest, rightT, rightAll, tagB]
  | succ n ih =>
    have h1 : tagB 48 = true := rfl
    have h2 : withinB 48 = true := rfl
    simp [nest, rightT, rightAll, ih, h1, h2]
theorem nest_deep (n : Nat) : deepT (nest n) = (n : Int) + 1 := by
  induction n with
  | zero =>
    have h2 : withinB 5 = false := rfl
    simp [nest, deepT, h2]
  | succ n ih =>
    have h2 : withinB 48 = true := rfl
    rw [nest, deepT, if_pos h2, deepAll, deepAll, ih]
    split <;> omega
theorem nest_wt (n : Nat) : wt (nest n) = (n : Int) + 1 := by
  induction n with
  | zero => simp [nest, wt, wtAll]
  | succ n ih =>
    rw [nest, wt, wtAll, wtAll, ih, List.length_nil]
    omega
theorem nest_write {n : Nat} (h : n ≤ 31) : writeZ (nest n) = (layT (nest n), 0) := by
  have h1 := nest_deep n
  have h2 := (size_le (nest n)).2.1
  have h3 := nest_wt n
  exact write_ok (nest_right n) (by omega) (by omega)
theorem nest_write_deep {n : Nat} (h : 31 < n) : writeZ (nest n) = ([], 4) := by
  have h1 := nest_deep n
  exact write_deep (nest_right n) (by omega)

theorem write_sound {t : T} (h : (writeZ t).2 = 0) : rightT t = true ∧ deepT t ≤ 32 ∧ bytesT t ≤ 20000 ∧ writeZ t = (layT t, 0) := by
  unfold writeZ at h
  split at h
  · simp at h
  rename_i h1
  split at h
  · simp at h
  rename_i h2
  split at h
  · simp at h
  rename_i h3
  have hr : rightT t = true := by simpa using h1
  exact ⟨hr, by omega, by omega, write_ok hr h2 h3⟩
theorem rightAll_sound {ks : List T} (h : ∀ k ∈ ks, rightT k = true) : rightAll ks = true := by
  induction ks with
  | nil => rfl
  | cons x r ih => rw [rightAll, h x (by simp), ih (fun k hk => h k (by simp [hk])), Bool.and_self]
theorem deepAll_le {ks : List T} {d : Int} (h0 : 0 ≤ d) (h : ∀ k ∈ ks, deepT k ≤ d) : deepAll ks ≤ d := by
  induction ks with
  | nil => simpa [deepAll] using h0
  | cons x r ih =>
    rw [deepAll]
    have := h x (by simp)
    have := ih (fun k hk => h k (by simp [hk]))
    split <;> omega
/-- Elements within a set: it is written, behind its tag and its length in their order, or too large. -/
theorem set_write {ks : List T} (h : ∀ k ∈ ks, (writeZ k).2 = 0 ∧ deepT k ≤ 31) :
    writeZ (.node 49 [] ks) = ([], 5) ∨ (∃ pre : List Int, 0 < pre.length ∧ writeZ (.node 49 [] ks) = (pre ++ layAll ks, 0)) := by
  have h2 : withinB 49 = true := rfl
  have hr : rightT (.node 49 [] ks) = true := by
    rw [rightT, h2, rightAll_sound (fun k hk => (write_sound (h k hk).1).1)]
    rfl
  have hd : deepT (.node 49 [] ks) ≤ 32 := by
    have := deepAll_le (d := 31) (by omega) (fun k hk => (h k hk).2)
    rw [deepT, if_pos h2]
    omega
  by_cases hb : 20000 < bytesT (.node 49 [] ks)
  · exact .inl (write_large hr (by omega) hb)
  · refine .inr ⟨49 :: lenB ((([] : List Int).length + (layAll ks).length : Nat) : Int), by simp, ?_⟩
    rw [write_ok hr (by omega) hb, layT, List.nil_append, List.cons_append]

end Go.Proofs.Ytefdfdnfpacfjaa
