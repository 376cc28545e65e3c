/-
  Ranges of numbers, plain, for stage 12 (asn): Has, Within, Many by the normalized list.
-/
import Derived.Test.YtppdnejkbdnlcaaSpA
namespace Go.Proofs.Ytppdnejkbdnlcaa
set_option linter.unusedVariables false

/-- Is a number one of a list's? -/
def hasZ (l : List (Nat × Nat)) (n : Nat) : Bool := l.any fun p => decide (p.1 ≤ n) && decide (n ≤ p.2)
theorem hasZ_is {l : List (Nat × Nat)} {n : Nat} : hasZ l n = true ↔ InZ n l := by
  unfold hasZ InZ
  rw [List.any_eq_true]
  constructor
  · rintro ⟨p, hp, h⟩
    rw [Bool.and_eq_true, decide_eq_true_iff, decide_eq_true_iff] at h
    exact ⟨p, hp, h⟩
  · rintro ⟨p, hp, h1, h2⟩
    exact ⟨p, hp, by rw [decide_eq_true h1, decide_eq_true h2]; rfl⟩
theorem has_join (l : List (Nat × Nat)) (n : Nat) : hasZ (joinZ l) n = hasZ l n := by
  rw [Bool.eq_iff_iff, hasZ_is, hasZ_is]
  exact in_join
theorem has_app (l m : List (Nat × Nat)) (n : Nat) : hasZ (l ++ m) n = (hasZ l n || hasZ m n) := by
  unfold hasZ
  rw [List.any_append]
theorem inZ_app {l m : List (Nat × Nat)} {n : Nat} : InZ n (l ++ m) ↔ InZ n l ∨ InZ n m := by
  rw [← hasZ_is, has_app, Bool.or_eq_true, hasZ_is, hasZ_is]
theorem norm_valid : ∀ {l : List (Nat × Nat)}, NormZ l → ∀ p ∈ l, p.1 ≤ p.2
  | [], _, p, hp => by cases hp
  | q :: r, h, p, hp => by
    rcases List.mem_cons.1 hp with rfl | hp
    · exact h.1
    · exact norm_valid h.2.2 p hp
/-- An interval whose numbers are all of a normalized list lies in one of that list's. -/
theorem norm_holds : ∀ {l : List (Nat × Nat)}, NormZ l → ∀ {a b : Nat}, a ≤ b → (∀ x, a ≤ x → x ≤ b → InZ x l) → ∃ q ∈ l, q.1 ≤ a ∧ b ≤ q.2
  | [], _, a, b, hab, h => absurd (h a (Nat.le_refl _) hab) inZ_nil
  | q :: r, hn, a, b, hab, h => by
    by_cases hq : a ≤ q.2
    · have h1 : q.1 ≤ a := norm_least hn (h a (Nat.le_refl _) hab)
      by_cases hb : b ≤ q.2
      · exact ⟨q, List.mem_cons_self, h1, hb⟩
      · exfalso
        rcases inZ_cons.1 (h (q.2 + 1) (by omega) (by omega)) with ⟨_, k⟩ | k
        · omega
        · have := norm_behind hn k
          omega
    · obtain ⟨s, hs, h1, h2⟩ := norm_holds hn.2.2 hab (fun x h1 h2 => by
        rcases inZ_cons.1 (h x h1 h2) with ⟨_, k⟩ | k
        · omega
        · exact k)
      exact ⟨s, List.mem_cons_of_mem _ hs, h1, h2⟩
/-- Within's answer. -/
def heldZ (y : List (Nat × Nat)) (p : Nat × Nat) : Bool := y.any fun q => decide (q.1 ≤ p.1) && decide (p.2 ≤ q.2)
def inN (a b : List (Nat × Nat)) : Bool := (joinZ a).all fun p => heldZ (joinZ b) p
theorem inN_is {a b : List (Nat × Nat)} : inN a b = true ↔ WithinZ a b := by
  unfold inN
  rw [List.all_eq_true]
  constructor
  · intro h x hx
    obtain ⟨p, hp, h1, h2⟩ := in_join.2 hx
    have k := h p hp
    unfold heldZ at k
    rw [List.any_eq_true] at k
    obtain ⟨q, hq, k⟩ := k
    rw [Bool.and_eq_true, decide_eq_true_iff, decide_eq_true_iff] at k
    exact in_join.1 ⟨q, hq, by omega, by omega⟩
  · intro h p hp
    have v := norm_valid (norm_join a) p hp
    obtain ⟨q, hq, h1, h2⟩ := norm_holds (norm_join b) v (fun x h1 h2 => in_join.2 (h x (in_join.1 ⟨p, hp, h1, h2⟩)))
    unfold heldZ
    rw [List.any_eq_true]
    exact ⟨q, hq, by rw [decide_eq_true h1, decide_eq_true h2]; rfl⟩
theorem inN_self (a : List (Nat × Nat)) : inN a a = true := inN_is.2 (fun _ h => h)
theorem inN_none (a : List (Nat × Nat)) : inN [] a = true := inN_is.2 (fun _ h => absurd h inZ_nil)
theorem inN_goes {a b c : List (Nat × Nat)} (h : inN a b = true) (k : inN b c = true) : inN a c = true := inN_is.2 (fun x hx => inN_is.1 k x (inN_is.1 h x hx))
theorem inN_app (a b : List (Nat × Nat)) : inN a (a ++ b) = true := inN_is.2 (fun x hx => inZ_app.2 (.inl hx))
theorem join_inj {a b : List (Nat × Nat)} : joinZ a = joinZ b ↔ inN a b = true ∧ inN b a = true := by
  constructor
  · intro e
    exact ⟨inN_is.2 (fun x hx => in_join.1 (by rw [← e]; exact in_join.2 hx)), inN_is.2 (fun x hx => in_join.1 (by rw [e]; exact in_join.2 hx))⟩
  · rintro ⟨h1, h2⟩
    exact join_same (fun x => ⟨inN_is.1 h1 x, inN_is.1 h2 x⟩)
/-- One number alone. -/
theorem inN_one (n : Nat) (a : List (Nat × Nat)) : inN [(n, n)] a = hasZ a n := by
  rw [Bool.eq_iff_iff, inN_is, hasZ_is]
  constructor
  · intro h
    exact h n ⟨(n, n), List.mem_cons_self, Nat.le_refl _, Nat.le_refl _⟩
  · rintro h x ⟨p, hp, h1, h2⟩
    rw [List.mem_singleton.1 hp] at h1 h2
    have : x = n := by
      have h1' : n ≤ x := h1
      have h2' : x ≤ n := h2
      omega
    rw [this]
    exact h

/-- How many numbers: of a normalized list, and by counting. -/
def sumZ : List (Nat × Nat) → Nat
  | [] => 0
  | p :: r => (p.2 - p.1 + 1) + sumZ r
def manyN (l : List (Nat × Nat)) : Nat := sumZ (joinZ l)
def cntZ (N : Nat) (f : Nat → Bool) : Nat := (List.range N).countP f
theorem cnt_succ (N : Nat) (f : Nat → Bool) : cntZ (N + 1) f = cntZ N f + (if f N = true then 1 else 0) := by
  unfold cntZ
  rw [List.range_succ, List.countP_append, List.countP_singleton]
theorem cnt_mono {N : Nat} {f g : Nat → Bool} (h : ∀ x, x < N → f x = true → g x = true) : cntZ N f ≤ cntZ N g := List.countP_mono_left (fun x hx => h x (List.mem_range.1 hx))
theorem cnt_same {N : Nat} {f g : Nat → Bool} (h : ∀ x, x < N → f x = g x) : cntZ N f = cntZ N g :=
  Nat.le_antisymm (cnt_mono (fun x hx k => by rw [← h x hx]; exact k)) (cnt_mono (fun x hx k => by rw [h x hx]; exact k))
theorem cnt_or (f g : Nat → Bool) : ∀ N, cntZ N (fun x => f x || g x) ≤ cntZ N f + cntZ N g
  | 0 => Nat.zero_le _
  | N + 1 => by
    rw [cnt_succ, cnt_succ, cnt_succ]
    have := cnt_or f g N
    cases f N <;> cases g N <;> simp <;> omega
theorem cnt_apart {f g : Nat → Bool} : ∀ N, (∀ x, x < N → ¬ (f x = true ∧ g x = true)) → cntZ N (fun x => f x || g x) = cntZ N f + cntZ N g
  | 0, _ => rfl
  | N + 1, h => by
    rw [cnt_succ, cnt_succ, cnt_succ, cnt_apart N (fun x hx => h x (by omega))]
    have := h N (by omega)
    cases hf : f N <;> cases hg : g N
    · rfl
    · simp; omega
    · simp; omega
    · exact absurd ⟨hf, hg⟩ this
theorem cnt_part (a b : Nat) (hab : a ≤ b) : ∀ N, b < N → cntZ N (fun x => decide (a ≤ x) && decide (x ≤ b)) = b - a + 1 := by
  have below : ∀ N, N ≤ a → cntZ N (fun x => decide (a ≤ x) && decide (x ≤ b)) = 0 := by
    intro N
    induction N with
    | zero => intro _; rfl
    | succ N ih =>
      intro h
      rw [cnt_succ, ih (by omega), decide_eq_false (show ¬ a ≤ N by omega)]
      rfl
  have mid : ∀ k, a + k ≤ b + 1 → cntZ (a + k) (fun x => decide (a ≤ x) && decide (x ≤ b)) = k := by
    intro k
    induction k with
    | zero => intro _; exact below a (Nat.le_refl _)
    | succ k ih =>
      intro h
      rw [show a + (k + 1) = (a + k) + 1 by omega, cnt_succ, ih (by omega), decide_eq_true (show a ≤ a + k by omega), decide_eq_true (show a + k ≤ b by omega)]
      rfl
  have above : ∀ k, cntZ (b + 1 + k) (fun x => decide (a ≤ x) && decide (x ≤ b)) = b - a + 1 := by
    intro k
    induction k with
    | zero =>
      have := mid (b - a + 1) (by omega)
      rwa [show a + (b - a + 1) = b + 1 + 0 by omega] at this
    | succ k ih =>
      rw [show b + 1 + (k + 1) = (b + 1 + k) + 1 by omega, cnt_succ, ih, decide_eq_false (show ¬ b + 1 + k ≤ b by omega), Bool.and_false]
      rfl
  intro N hN
  have := above (N - (b + 1))
  rwa [show b + 1 + (N - (b + 1)) = N by omega] at this
theorem sum_cnt : ∀ {l : List (Nat × Nat)} {N : Nat}, NormZ l → (∀ p ∈ l, p.2 < N) → sumZ l = cntZ N (fun x => hasZ l x)
  | [], N, _, _ => by
    have : ∀ N, cntZ N (fun x => hasZ [] x) = 0 := fun N => by
      induction N with
      | zero => rfl
      | succ N ih => rw [cnt_succ, ih]; rfl
    rw [this]
    rfl
  | p :: r, N, h, hN => by
    have e : ∀ x, hasZ (p :: r) x = ((decide (p.1 ≤ x) && decide (x ≤ p.2)) || hasZ r x) := fun x => by
      unfold hasZ
      rw [List.any_cons]
    unfold sumZ
    rw [cnt_same (g := fun x => (decide (p.1 ≤ x) && decide (x ≤ p.2)) || hasZ r x) (fun x _ => e x), cnt_apart N (fun x _ => by
      rintro ⟨h1, h2⟩
      rw [Bool.and_eq_true, decide_eq_true_iff, decide_eq_true_iff] at h1
      have := norm_behind h (hasZ_is.1 h2)
      omega), cnt_part p.1 p.2 h.1 N (hN p List.mem_cons_self), sum_cnt h.2.2 (fun q hq => hN q (List.mem_cons_of_mem _ hq))]
/-- All numbers are below N. -/
def Under (N : Nat) (l : List (Nat × Nat)) : Prop := ∀ p ∈ l, p.1 < N ∧ p.2 < N
theorem in_under {N : Nat} {l : List (Nat × Nat)} (h : Under N l) {x : Nat} (hx : InZ x l) : x < N := by
  obtain ⟨p, hp, _, h2⟩ := hx
  have := (h p hp).2
  omega
theorem join_under {N : Nat} {l : List (Nat × Nat)} (h : Under N l) : Under N (joinZ l) := fun p hp => by
  have v := norm_valid (norm_join l) p hp
  exact ⟨in_under h (in_join.1 ⟨p, hp, Nat.le_refl _, v⟩), in_under h (in_join.1 ⟨p, hp, v, Nat.le_refl _⟩)⟩
theorem many_cnt {N : Nat} {l : List (Nat × Nat)} (h : Under N l) : manyN l = cntZ N (fun x => hasZ l x) := by
  unfold manyN
  rw [sum_cnt (norm_join l) (fun p hp => (join_under h p hp).2)]
  exact cnt_same (fun x _ => has_join l x)
theorem many_mono {N : Nat} {a b : List (Nat × Nat)} (ha : Under N a) (hb : Under N b) (h : inN a b = true) : manyN a ≤ manyN b := by
  rw [many_cnt ha, many_cnt hb]
  exact cnt_mono (fun x _ k => hasZ_is.2 (inN_is.1 h x (hasZ_is.1 k)))
theorem many_app {N : Nat} {a b : List (Nat × Nat)} (ha : Under N a) (hb : Under N b) : manyN (a ++ b) ≤ manyN a + manyN b := by
  rw [many_cnt ha, many_cnt hb, many_cnt (N := N) (fun p hp => by
    rcases List.mem_append.1 hp with h | h
    · exact ha p h
    · exact hb p h), cnt_same (fun x _ => has_app a b x)]
  exact cnt_or _ _ N
theorem many_join (l : List (Nat × Nat)) : manyN (joinZ l) = manyN l := by
  unfold manyN
  rw [join_norm (norm_join l)]
theorem cnt_le (f : Nat → Bool) : ∀ N, cntZ N f ≤ N
  | 0 => Nat.zero_le _
  | N + 1 => by
    rw [cnt_succ]
    have := cnt_le f N
    split <;> omega
theorem many_le {N : Nat} {l : List (Nat × Nat)} (h : Under N l) : manyN l ≤ N := by
  rw [many_cnt h]
  exact cnt_le _ N
theorem many_none : manyN [] = 0 := rfl

/-- As many as there were at the most. -/
theorem sort_len' : ∀ (l row : List (Nat × Nat)), (sortZ row l).length ≤ row.length + l.length
  | [], row => Nat.le_refl _
  | p :: l, row => by
    unfold sortZ
    have := sort_len' l (if p.1 ≤ p.2 then insZ p row else row)
    have hi : ∀ r : List (Nat × Nat), (insZ p r).length = r.length + 1 := fun r => by
      induction r with
      | nil => rfl
      | cons q r ih =>
        unfold insZ
        split
        · rw [List.length_cons, ih, List.length_cons]
        · rfl
    rw [List.length_cons]
    split at this
    · rename_i hp
      rw [if_pos hp]
      rw [hi] at this
      omega
    · rename_i hp
      rw [if_neg hp]
      omega
theorem merge_len' : ∀ (l : List (Nat × Nat)) (c : Nat × Nat), (mergeZ c l).length ≤ l.length + 1
  | [], c => Nat.le_refl _
  | q :: r, c => by
    unfold mergeZ
    split
    · have := merge_len' r (c.1, max c.2 q.2)
      rw [List.length_cons]
      omega
    · have := merge_len' r q
      rw [List.length_cons, List.length_cons]
      omega
theorem join_len' (l : List (Nat × Nat)) : (joinZ l).length ≤ l.length := by
  have h := sort_len' l []
  rw [List.length_nil, Nat.zero_add] at h
  unfold joinZ
  split
  · exact Nat.zero_le _
  · rename_i c r e
    rw [e, List.length_cons] at h
    have := merge_len' r c
    omega

end Go.Proofs.Ytppdnejkbdnlcaa
