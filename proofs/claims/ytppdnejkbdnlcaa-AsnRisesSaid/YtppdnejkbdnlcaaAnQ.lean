/-
  How the reference joins ranges, plain, for stage 12 (asn).
-/
import Derived.Test.YtppdnejkbdnlcaaAnP
namespace Go.Proofs.Ytppdnejkbdnlcaa
set_option linter.unusedVariables false

/-- The least number from at on, where there is one below m. -/
def leastL (at' : Nat) (m : Nat) : List (Nat × Nat) → Nat
  | [] => m
  | p :: r => leastL at' (if p.1 ≤ p.2 ∧ at' ≤ p.2 then min m (max p.1 at') else m) r
theorem least_spec (at' : Nat) : ∀ (l : List (Nat × Nat)) (m : Nat), (leastL at' m l = m ∨ (InZ (leastL at' m l) l ∧ at' ≤ leastL at' m l)) ∧ (∀ x, at' ≤ x → InZ x l → leastL at' m l ≤ x) ∧ leastL at' m l ≤ m
  | [], m => ⟨.inl rfl, fun x _ h => absurd h inZ_nil, Nat.le_refl _⟩
  | p :: r, m => by
    unfold leastL
    by_cases hp : p.1 ≤ p.2 ∧ at' ≤ p.2
    · rw [if_pos hp]
      obtain ⟨h1, h2, h3⟩ := least_spec at' r (min m (max p.1 at'))
      refine ⟨?_, fun x hx hi => ?_, by omega⟩
      · rcases h1 with h1 | ⟨h1, h4⟩
        · rcases Nat.le_total m (max p.1 at') with h | h
          · exact .inl (by omega)
          · rw [Nat.min_eq_right h] at h1 ⊢
            exact .inr ⟨inZ_cons.2 (.inl ⟨by omega, by omega⟩), by omega⟩
        · exact .inr ⟨inZ_cons.2 (.inr h1), h4⟩
      · rcases inZ_cons.1 hi with ⟨k1, k2⟩ | k
        · omega
        · exact h2 x hx k
    · rw [if_neg hp]
      obtain ⟨h1, h2, h3⟩ := least_spec at' r m
      refine ⟨?_, fun x hx hi => ?_, h3⟩
      · rcases h1 with h1 | ⟨h1, h4⟩
        · exact .inl h1
        · exact .inr ⟨inZ_cons.2 (.inr h1), h4⟩
      · rcases inZ_cons.1 hi with ⟨k1, k2⟩ | k
        · exact absurd ⟨by omega, by omega⟩ hp
        · exact h2 x hx k
theorem least_step {at' m i : Nat} {l : List (Nat × Nat)} (hi : i < l.length) : leastL at' m (l.drop i) = leastL at' (if (l[i]).1 ≤ (l[i]).2 ∧ at' ≤ (l[i]).2 then min m (max (l[i]).1 at') else m) (l.drop (i + 1)) := by
  rw [List.drop_eq_getElem_cons hi]
  rfl
/-- What is still to come. -/
def RestAt (l : List (Nat × Nat)) (at' : Nat) (D r : List (Nat × Nat)) : Prop := joinZ l = D ++ r ∧ (∀ x, at' ≤ x → (InZ x l ↔ InZ x r)) ∧ (∀ p ∈ r, at' ≤ p.1) ∧ NormZ r
theorem rest_start (l : List (Nat × Nat)) : RestAt l 0 [] (joinZ l) := ⟨rfl, fun x _ => in_join.symm, fun p _ => Nat.zero_le _, norm_join l⟩
theorem rest_none {l D : List (Nat × Nat)} {at' : Nat} (h : RestAt l at' D []) : D = joinZ l := by
  have := h.1
  rw [List.append_nil] at this
  exact this.symm
theorem rest_end {l D : List (Nat × Nat)} {at' N : Nat} (hu : Under N l) (h : RestAt l at' D []) : leastL at' N l = N := by
  rcases (least_spec at' l N).1 with e | ⟨e, k⟩
  · exact e
  · exact absurd ((h.2.1 _ k).1 e) inZ_nil
theorem rest_head {l D r : List (Nat × Nat)} {p : Nat × Nat} {at' N : Nat} (hu : Under N l) (h : RestAt l at' D (p :: r)) : leastL at' N l = p.1 ∧ p.1 < N ∧ p.2 < N ∧ p.1 ≤ p.2 ∧ at' ≤ p.1 := by
  have hp := h.2.2.1 p List.mem_cons_self
  have hv := h.2.2.2.1
  have i1 : InZ p.1 l := (h.2.1 p.1 hp).2 (inZ_cons.2 (.inl ⟨Nat.le_refl _, hv⟩))
  have i2 : InZ p.2 l := (h.2.1 p.2 (by omega)).2 (inZ_cons.2 (.inl ⟨hv, Nat.le_refl _⟩))
  have l1 := (least_spec at' l N).2.1 p.1 hp i1
  have b1 := in_under hu i1
  have b2 := in_under hu i2
  refine ⟨?_, b1, b2, hv, hp⟩
  rcases (least_spec at' l N).1 with e | ⟨e, k⟩
  · omega
  · have := norm_least h.2.2.2 ((h.2.1 _ k).1 e)
    omega
/-- A range that touches goes no further than the first one to come. -/
theorem rest_grow {l D r : List (Nat × Nat)} {p q : Nat × Nat} {at' hi : Nat} (h : RestAt l at' D (p :: r)) (h1 : p.1 ≤ hi) (h2 : hi ≤ p.2) (hq : q ∈ l) (k1 : q.1 ≤ hi + 1) (k2 : hi < q.2) : q.2 ≤ p.2 := by
  rcases Nat.lt_or_ge p.2 q.2 with c | c
  · exfalso
    have i : InZ (p.2 + 1) l := ⟨q, hq, by omega, by omega⟩
    have hp := h.2.2.1 p List.mem_cons_self
    rcases inZ_cons.1 ((h.2.1 (p.2 + 1) (by omega)).1 i) with ⟨_, k⟩ | k
    · omega
    · have := norm_behind h.2.2.2 k
      omega
  · exact c
theorem rest_stop {l D r : List (Nat × Nat)} {p : Nat × Nat} {at' hi : Nat} (h : RestAt l at' D (p :: r)) (h1 : p.1 ≤ hi) (h2 : hi ≤ p.2) (hn : ∀ q ∈ l, q.1 ≤ q.2 → q.1 ≤ hi + 1 → ¬ hi < q.2) : hi = p.2 := by
  rcases Nat.lt_or_ge hi p.2 with c | c
  · exfalso
    have hp := h.2.2.1 p List.mem_cons_self
    obtain ⟨q, hq, k1, k2⟩ := (h.2.1 (hi + 1) (by omega)).2 (inZ_cons.2 (.inl ⟨by omega, by omega⟩))
    exact hn q hq (by omega) k1 (by omega)
  · omega
theorem rest_next {l D r : List (Nat × Nat)} {p : Nat × Nat} {at' : Nat} (h : RestAt l at' D (p :: r)) : RestAt l (p.2 + 1) (D ++ [p]) r := by
  have hp := h.2.2.1 p List.mem_cons_self
  have hv := h.2.2.2.1
  refine ⟨by rw [h.1, List.append_assoc]; rfl, fun x hx => ?_, fun q hq => ?_, h.2.2.2.2.2⟩
  · rw [h.2.1 x (by omega), inZ_cons]
    exact ⟨fun k => k.elim (fun h => absurd h.2 (by omega)) id, fun k => .inr k⟩
  · have := h.2.2.2.2.1 q hq
    omega

/-- Sums, from the front. -/
theorem sum_take : ∀ {l : List (Nat × Nat)} (i : Nat) (hi : i < l.length), sumZ (l.take (i + 1)) = sumZ (l.take i) + ((l[i]).2 - (l[i]).1 + 1)
  | [], i, hi => absurd hi (by simp)
  | p :: r, 0, _ => by simp [sumZ]
  | p :: r, i + 1, hi => by
    rw [List.take_succ_cons, List.take_succ_cons]
    unfold sumZ
    rw [sum_take i (by simpa using hi)]
    simp only [List.getElem_cons_succ]
    omega
theorem sum_le : ∀ {l : List (Nat × Nat)} (i : Nat), sumZ (l.take i) ≤ sumZ l
  | [], i => by simp [sumZ]
  | p :: r, 0 => by simp [sumZ]
  | p :: r, i + 1 => by
    rw [List.take_succ_cons]
    unfold sumZ
    have := sum_le (l := r) i
    omega

end Go.Proofs.Ytppdnejkbdnlcaa
