/-
  A beginning of an element's bytes is too short; with a byte behind there is none: on lists, for stage 4 (tlv). Nothing of the program is named here.
-/
import Derived.Test.YtefdfdnfpacfjaaTrip
namespace Go.Proofs.Ytefdfdnfpacfjaa
open Go.RowKit

theorem head_cut {tag c : Int} (x : List Int) (ht : tag % 32 ≠ 31) (k : Nat) (hk : k < 1 + (lenB c).length) : headL ((tag :: (lenB c ++ x)).take k) = .error 3 := by
  have zero : headL [] = .error 3 := rfl
  have one : headL [tag] = .error 3 := by
    unfold headL
    rw [if_neg (by simp), if_neg (by simpa [at0] using ht), if_pos (by simp)]
  by_cases a : c < 128
  · have e : lenB c = [c] := by unfold lenB; rw [if_pos a]
    rw [e] at hk ⊢
    match k, hk with
    | 0, _ => exact zero
    | 1, _ => exact one
    | k + 2, hk => exact absurd hk (by simp)
  by_cases b : c < 256
  · have e : lenB c = [129, c] := by unfold lenB; rw [if_neg a, if_pos b]
    rw [e] at hk ⊢
    match k, hk with
    | 0, _ => exact zero
    | 1, _ => exact one
    | 2, _ =>
      show headL [tag, 129] = .error 3
      unfold headL
      rw [if_neg (by simp), if_neg (by simpa [at0] using ht), if_neg (by simp), if_neg (by simp [at0]), if_pos (by simp [at0]), if_pos (by simp)]
    | k + 3, hk => exact absurd hk (by simp)
  · have e : lenB c = [130, c / 256 % 256, c % 256] := by unfold lenB; rw [if_neg a, if_neg b]
    rw [e] at hk ⊢
    match k, hk with
    | 0, _ => exact zero
    | 1, _ => exact one
    | 2, _ =>
      show headL [tag, 130] = .error 3
      unfold headL
      rw [if_neg (by simp), if_neg (by simpa [at0] using ht), if_neg (by simp), if_neg (by simp [at0]), if_neg (by simp [at0]), if_pos (by simp [at0]), if_pos (by simp)]
    | 3, _ =>
      show headL [tag, 130, c / 256 % 256] = .error 3
      unfold headL
      rw [if_neg (by simp), if_neg (by simpa [at0] using ht), if_neg (by simp), if_neg (by simp [at0]), if_neg (by simp [at0]), if_pos (by simp [at0]), if_pos (by simp)]
    | k + 4, hk => exact absurd hk (by simp)

theorem elem_cut {t : T} (hr : rightT t = true) (hb : bytesT t < 65536) (deep k : Nat) (hk : k < (layT t).length) : elemC deep ((layT t).take k) = .error 3 := by
  have htag := (right_parts hr).1
  have hil := in_len hr
  have hbe := bytesT_eq t
  have hll := lenLen_range (inT t)
  have h31 : t.tag % 32 ≠ 31 := by
    unfold tagB at htag
    simp only [Bool.and_eq_true, bne_iff_ne, ne_eq] at htag
    exact htag.2.2
  rw [layT_eq] at hk ⊢
  unfold elemC elemW
  rw [List.length_cons, List.length_append, List.length_append] at hk
  rcases Nat.lt_or_ge k (1 + (lenB ((t.body.length + (layAll t.kids).length : Nat) : Int)).length) with h | h
  · rw [head_cut _ h31 k h]
  · have e : (t.tag :: (lenB ((t.body.length + (layAll t.kids).length : Nat) : Int) ++ (t.body ++ layAll t.kids))).take k =
        t.tag :: (lenB ((t.body.length + (layAll t.kids).length : Nat) : Int) ++ (t.body ++ layAll t.kids).take (k - (1 + (lenB ((t.body.length + (layAll t.kids).length : Nat) : Int)).length))) := by
      obtain ⟨j, rfl⟩ : ∃ j, k = (lenB ((t.body.length + (layAll t.kids).length : Nat) : Int)).length + j + 1 := ⟨k - (1 + (lenB ((t.body.length + (layAll t.kids).length : Nat) : Int)).length), by omega⟩
      generalize (lenB ((t.body.length + (layAll t.kids).length : Nat) : Int)) = q
      rw [List.take_succ_cons, List.take_length_add_append, show q.length + j + 1 - (1 + q.length) = j by omega]
    rw [e, head_lay _ (by omega) (by omega) h31]
    simp only []
    rw [if_pos (by rw [Nat.add_comm 1, List.drop_succ_cons, List.drop_left, List.length_take, List.length_append, Int.toNat_natCast]; omega)]

/-- A beginning of what Write answers. -/
theorem read_cut {t : T} (h : (writeZ t).2 = 0) (k : Nat) (hk : k < (writeZ t).1.length) : readZ ((writeZ t).1.take k) = .error 3 := by
  have hw : rightT t = true ∧ ¬ 32 < deepT t ∧ ¬ 20000 < bytesT t := by
    unfold writeZ at h
    split at h
    · simp at h
    rename_i h1
    split at h
    · simp at h
    rename_i h2
    split at h
    · simp at h
    rename_i h3
    exact ⟨by simpa using h1, h2, h3⟩
  obtain ⟨hr, h2, h3⟩ := hw
  rw [write_ok hr h2 h3] at hk ⊢
  have hl := lay_len t hr
  simp only [] at hk ⊢
  unfold readZ
  rw [if_neg (by rw [List.length_take]; omega), elem_cut hr (by omega) 0 k hk]
/-- What Write answers, with a byte behind. -/
theorem read_more {t : T} (h : (writeZ t).2 = 0) (hl : (writeZ t).1.length ≠ 20000) (z : Int) : readZ ((writeZ t).1 ++ [z]) = .error 2 := by
  have hw : rightT t = true ∧ ¬ 32 < deepT t ∧ ¬ 20000 < bytesT t := by
    unfold writeZ at h
    split at h
    · simp at h
    rename_i h1
    split at h
    · simp at h
    rename_i h2
    split at h
    · simp at h
    rename_i h3
    exact ⟨by simpa using h1, h2, h3⟩
  obtain ⟨hr, h2, h3⟩ := hw
  rw [write_ok hr h2 h3] at hl ⊢
  have hll := lay_len t hr
  simp only [] at hl ⊢
  unfold readZ
  rw [if_neg (by rw [List.length_append, List.length_singleton]; omega), elem_trip t 0 [z] hr (by omega) (by omega)]
  simp

end Go.Proofs.Ytefdfdnfpacfjaa
