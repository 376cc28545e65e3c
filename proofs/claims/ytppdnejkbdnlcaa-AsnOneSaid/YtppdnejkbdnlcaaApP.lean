/-
  What the package's Within has left of the other list, plain, for stage 12 (asn).
-/
import Derived.Test.YtppdnejkbdnlcaaAnW
namespace Go.Proofs.Ytppdnejkbdnlcaa
set_option linter.unusedVariables false

theorem norm_split : ∀ {l m : List (Nat × Nat)}, NormZ (l ++ m) → ∀ p ∈ l, ∀ q ∈ m, p.2 < q.1
  | [], _, _, p, hp, _, _ => by cases hp
  | s :: r, m, h, p, hp, q, hq => by
    rcases List.mem_cons.1 hp with rfl | hp
    · have := h.2.1 q (List.mem_append.2 (.inr hq))
      omega
    · exact norm_split (l := r) h.2.2 p hp q hq
/-- R is what is left of Y when the first i of X have been found: what is gone holds none of those that follow. -/
def RestY (X Y : List (Nat × Nat)) (i : Nat) (R : List (Nat × Nat)) : Prop := ∃ d, R = Y.drop d ∧ ∀ q ∈ Y.take d, ∀ p ∈ X.drop i, ¬ (q.1 ≤ p.1 ∧ p.2 ≤ q.2)
theorem restY_start (X Y : List (Nat × Nat)) : RestY X Y 0 Y := ⟨0, rfl, fun q hq => by simp at hq⟩
theorem restY_none {X Y R : List (Nat × Nat)} {i : Nat} (h : RestY X Y i R) (hi : i < X.length) (hn : heldZ R X[i] = false) : heldZ Y X[i] = false := by
  obtain ⟨d, rfl, hd⟩ := h
  unfold heldZ at hn ⊢
  rw [Bool.eq_false_iff] at hn ⊢
  intro hy
  obtain ⟨q, hq, hb⟩ := List.any_eq_true.1 hy
  rw [Bool.and_eq_true, decide_eq_true_iff, decide_eq_true_iff] at hb
  rw [← List.take_append_drop d Y] at hq
  rcases List.mem_append.1 hq with hq | hq
  · exact hd q hq _ (by rw [List.drop_eq_getElem_cons hi]; exact List.mem_cons_self) hb
  · exact hn (List.any_eq_true.2 ⟨q, hq, by rw [decide_eq_true hb.1, decide_eq_true hb.2]; rfl⟩)
theorem restY_step {X Y R : List (Nat × Nat)} {i k : Nat} (nx : NormZ X) (ny : NormZ Y) (h : RestY X Y i R) (hi : i < X.length) (hk : k < R.length) (h1 : (R[k]).1 ≤ (X[i]).1) (h2 : (X[i]).2 ≤ (R[k]).2) : RestY X Y (i + 1) (R.drop k) ∧ heldZ Y X[i] = true := by
  obtain ⟨d, rfl, hd⟩ := h
  have hm : (Y.drop d)[k] ∈ Y.drop d := List.getElem_mem hk
  refine ⟨⟨d + k, by rw [List.drop_drop], fun q hq p hp hb => ?_⟩, ?_⟩
  · have hky : d + k < Y.length := by rw [List.length_drop] at hk; omega
    have e : Y.drop (d + k) = (Y.drop d)[k] :: Y.drop (d + k + 1) := by
      rw [List.drop_eq_getElem_cons hky]
      congr 1
      rw [List.getElem_drop]
    have ha : (Y.drop d)[k] ∈ Y.drop (d + k) := by rw [e]; exact List.mem_cons_self
    have f1 := norm_split (l := Y.take (d + k)) (m := Y.drop (d + k)) (by rw [List.take_append_drop]; exact ny) q hq _ ha
    have hx : X.take (i + 1) ++ X.drop (i + 1) = X := List.take_append_drop _ _
    have f2 := norm_split (l := X.take (i + 1)) (m := X.drop (i + 1)) (by rw [hx]; exact nx) X[i] (by rw [List.take_succ_eq_append_getElem hi]; exact List.mem_append.2 (.inr (List.mem_singleton.2 rfl))) p hp
    have vx := norm_valid nx X[i] (List.getElem_mem hi)
    have vp := norm_valid nx p (List.mem_of_mem_drop hp)
    omega
  · unfold heldZ
    exact List.any_eq_true.2 ⟨_, List.mem_of_mem_drop hm, by rw [decide_eq_true h1, decide_eq_true h2]; rfl⟩

end Go.Proofs.Ytppdnejkbdnlcaa
