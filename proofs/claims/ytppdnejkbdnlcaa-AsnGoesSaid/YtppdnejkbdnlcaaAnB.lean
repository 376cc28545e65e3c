/-
  A sorted list, joined in one pass, plain, for stage 12 (asn).
-/
import Derived.Test.YtppdnejkbdnlcaaAnP
namespace Go.Proofs.Ytppdnejkbdnlcaa
set_option linter.unusedVariables false

def validP (p : Nat × Nat) : Bool := decide (p.1 ≤ p.2)
def mergeAllZ : List (Nat × Nat) → List (Nat × Nat)
  | [] => []
  | c :: r => mergeZ c r
theorem sortZ_of : ∀ {S : List (Nat × Nat)}, S.Pairwise (fun a b => a.1 ≤ b.1) → SortZ S
  | [], _ => trivial
  | p :: r, h => ⟨(List.pairwise_cons.1 h).1, sortZ_of (List.pairwise_cons.1 h).2⟩
theorem in_filter {L : List (Nat × Nat)} {x : Nat} : InZ x (L.filter validP) ↔ InZ x L := by
  constructor
  · rintro ⟨p, hp, h⟩
    exact ⟨p, (List.mem_filter.1 hp).1, h⟩
  · rintro ⟨p, hp, h1, h2⟩
    exact ⟨p, List.mem_filter.2 ⟨hp, decide_eq_true (by omega)⟩, h1, h2⟩
theorem in_perm {L M : List (Nat × Nat)} (h : L.Perm M) {x : Nat} : InZ x L ↔ InZ x M := by
  unfold InZ
  constructor
  · rintro ⟨p, hp, k⟩
    exact ⟨p, h.mem_iff.1 hp, k⟩
  · rintro ⟨p, hp, k⟩
    exact ⟨p, h.mem_iff.2 hp, k⟩
/-- One pass over a sorted list gives what Join asks. -/
theorem merge_all {L S : List (Nat × Nat)} (hp : S.Perm L) (hs : S.Pairwise (fun a b => a.1 ≤ b.1)) : mergeAllZ (S.filter validP) = joinZ L := by
  have s := sortZ_of (hs.filter validP)
  have v : ∀ q ∈ S.filter validP, q.1 ≤ q.2 := fun q hq => of_decide_eq_true (List.mem_filter.1 hq).2
  have i : ∀ x, InZ x (mergeAllZ (S.filter validP)) ↔ InZ x (S.filter validP) := fun x => by
    cases h : S.filter validP with
    | nil => exact Iff.rfl
    | cons c r =>
      rw [h] at s v
      exact in_merge s v
  have n : NormZ (mergeAllZ (S.filter validP)) := by
    cases h : S.filter validP with
    | nil => trivial
    | cons c r =>
      rw [h] at s v
      exact norm_merge s v
  exact norm_one n (norm_join L) (fun x => by rw [i, in_filter, in_perm hp, in_join])
/-- What has come out when the first k have been looked at. -/
def RunAt (S T : List (Nat × Nat)) (k : Nat) (O : List (Nat × Nat)) : Prop := (O = [] ∧ mergeAllZ ((S.drop k).filter validP) = T) ∨ ∃ D c, O = D ++ [c] ∧ D ++ mergeZ c ((S.drop k).filter validP) = T
theorem run_start (S : List (Nat × Nat)) : RunAt S (mergeAllZ (S.filter validP)) 0 [] := .inl ⟨rfl, rfl⟩
theorem run_skip {S T O : List (Nat × Nat)} {k : Nat} (h : RunAt S T k O) (hk : k < S.length) (hv : ¬ (S[k]).1 ≤ (S[k]).2) : RunAt S T (k + 1) O := by
  have e : (S.drop k).filter validP = (S.drop (k + 1)).filter validP := by
    rw [List.drop_eq_getElem_cons hk, List.filter_cons, if_neg (by unfold validP; simpa using hv)]
  unfold RunAt at h ⊢
  rwa [e] at h
theorem run_first {S T : List (Nat × Nat)} {k : Nat} (h : RunAt S T k []) (hk : k < S.length) (hv : (S[k]).1 ≤ (S[k]).2) : RunAt S T (k + 1) ([] ++ [S[k]]) := by
  have e : (S.drop k).filter validP = S[k] :: (S.drop (k + 1)).filter validP := by
    rw [List.drop_eq_getElem_cons hk, List.filter_cons, if_pos (by unfold validP; simpa using hv)]
  rcases h with ⟨_, h⟩ | ⟨D, c, h, _⟩
  · rw [e] at h
    exact .inr ⟨[], S[k], rfl, h⟩
  · simp at h
theorem run_step {S T O : List (Nat × Nat)} {k e : Nat} (h : RunAt S T k O) (hk : k < S.length) (he : O.length = e + 1) (hv : (S[k]).1 ≤ (S[k]).2) :
    (¬ (S[k]).1 ≤ (O[e]'(by omega)).2 + 1 → RunAt S T (k + 1) (O ++ [S[k]])) ∧ ((S[k]).1 ≤ (O[e]'(by omega)).2 + 1 → RunAt S T (k + 1) (O.set e ((O[e]'(by omega)).1, max (O[e]'(by omega)).2 (S[k]).2))) := by
  have ef : (S.drop k).filter validP = S[k] :: (S.drop (k + 1)).filter validP := by
    rw [List.drop_eq_getElem_cons hk, List.filter_cons, if_pos (by unfold validP; simpa using hv)]
  rcases h with ⟨rfl, _⟩ | ⟨D, c, rfl, hj⟩
  · simp at he
  have hD : D.length = e := by simpa using he
  subst hD
  have ec : (D ++ [c])[D.length]'(by simp) = c := by simp
  rw [ef] at hj
  unfold mergeZ at hj
  simp only [ec]
  refine ⟨fun t => ?_, fun t => ?_⟩
  · rw [if_neg t] at hj
    exact .inr ⟨D ++ [c], S[k], rfl, by rw [← hj]; simp⟩
  · rw [if_pos t] at hj
    refine .inr ⟨D, (c.1, max c.2 (S[k]).2), ?_, hj⟩
    simp
theorem run_end {S T O : List (Nat × Nat)} (h : RunAt S T S.length O) : O = T := by
  unfold RunAt at h
  rw [List.drop_of_length_le (Nat.le_refl _)] at h
  rcases h with ⟨rfl, h⟩ | ⟨D, c, rfl, h⟩
  · exact h
  · exact h

end Go.Proofs.Ytppdnejkbdnlcaa
