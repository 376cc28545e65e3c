/-
  Merged texts: SpC, SpD, SpE, SqA, SqB, SqC, SrB, SqE.
-/
import Derived.Test.YtlmndmfebgaidaaGreatDoorGnB
import Derived.Deep.Cut
namespace Go.Proofs.YtlmndmfebgaidaaGreatDoor
set_option linter.unusedVariables false
theorem tail_div : ∀ {l : List Int} (k : Nat), (∀ x ∈ l, 0 ≤ x ∧ x ≤ 255) → k ≤ l.length → aN l % 256 ^ (l.length - k) = aN (l.drop k)
  | l, 0, h, _ => by
    rw [Nat.sub_zero, List.drop_zero]
    exact Nat.mod_eq_of_lt (aN_lt h)
  | [], k + 1, _, hk => by simp at hk
  | x :: l, k + 1, h, hk => by
    have hk' : k ≤ l.length := by simpa using hk
    rw [List.length_cons, List.drop_succ_cons, ← tail_div k (fun y hy => h y (List.mem_cons_of_mem _ hy)) hk', aN_cons, show l.length + 1 - (k + 1) = l.length - k by omega]
    have e : 256 ^ l.length = 256 ^ (l.length - k) * 256 ^ k := by
      rw [← Nat.pow_add]
      congr 1
      omega
    rw [e, ← Nat.mul_assoc, Nat.mul_comm x.toNat, Nat.mul_assoc, Nat.mul_add_mod]
theorem zero_num : ∀ {l : List Int}, (∀ x ∈ l, 0 ≤ x ∧ x ≤ 255) → (aN l = 0 ↔ ∀ x ∈ l, x = 0)
  | [], _ => ⟨fun _ x hx => (by cases hx), fun _ => rfl⟩
  | x :: l, h => by
    have hx := h x List.mem_cons_self
    have ih := zero_num (fun y hy => h y (List.mem_cons_of_mem _ hy))
    have hp : 0 < 256 ^ l.length := Nat.pow_pos (by decide)
    rw [aN_cons]
    constructor
    · intro e y hy
      have e1 : x.toNat * 256 ^ l.length = 0 := by omega
      have e2 : aN l = 0 := by omega
      rcases List.mem_cons.1 hy with rfl | hy
      · rcases Nat.mul_eq_zero.1 e1 with h1 | h1 <;> omega
      · exact ih.1 e2 y hy
    · intro e
      rw [ih.2 (fun y hy => e y (List.mem_cons_of_mem _ hy)), e x List.mem_cons_self]
      simp
theorem tail_zero {A : List Int} (hA : Sixteen A) : (∀ i, 4 ≤ i → i < 16 → A[i]?.getD 0 = 0) ↔ aN A % 2 ^ 96 = 0 := by
  have e := tail_div 4 hA.2 (by rw [hA.1]; decide)
  rw [hA.1, show (256 : Nat) ^ (16 - 4) = 2 ^ 96 by decide] at e
  rw [e, zero_num (fun x hx => hA.2 x (List.mem_of_mem_drop hx))]
  constructor
  · intro h x hx
    obtain ⟨i, hi, rfl⟩ := List.mem_iff_getElem.1 hx
    have hi' : 4 + i < 16 := by
      rw [List.length_drop, hA.1] at hi
      omega
    have := h (4 + i) (by omega) hi'
    rw [List.getElem?_eq_getElem (by rw [hA.1]; exact hi'), Option.getD_some] at this
    rw [List.getElem_drop]
    exact this
  · intro h i h4 h16
    rw [List.getElem?_eq_getElem (by rw [hA.1]; exact h16), Option.getD_some]
    refine h _ (List.mem_iff_getElem.2 ⟨i - 4, by rw [List.length_drop, hA.1]; omega, ?_⟩)
    rw [List.getElem_drop]
    congr 1
    omega
def rightZ (v : Bool) (Lo Hi : List Int) : Bool := (v || (decide (aN Lo % 2 ^ 96 = 0) && decide (aN Hi % 2 ^ 96 = 0))) && decide (aN Lo ≤ aN Hi)
def lineZ (v : Bool) (A : List Int) : Nat := if v then 2 ^ 40 + aN A else aN A / 2 ^ 96
theorem line_four {A : List Int} (hA : Sixteen A) : lineZ false A < 2 ^ 32 := by
  have := aN_lt16 hA
  show aN A / 2 ^ 96 < 2 ^ 32
  exact Nat.div_lt_of_lt_mul (by rw [← Nat.pow_add]; exact this)
theorem line_six (A : List Int) : lineZ true A = 2 ^ 40 + aN A := rfl
theorem line_le {v : Bool} {A B : List Int} (hA : v = false → aN A % 2 ^ 96 = 0) (hB : v = false → aN B % 2 ^ 96 = 0) : lineZ v A ≤ lineZ v B ↔ aN A ≤ aN B := by
  cases v
  · show aN A / 2 ^ 96 ≤ aN B / 2 ^ 96 ↔ _
    have a := Nat.div_add_mod (aN A) (2 ^ 96)
    have b := Nat.div_add_mod (aN B) (2 ^ 96)
    rw [hA rfl] at a
    rw [hB rfl] at b
    constructor
    · intro h
      have := Nat.mul_le_mul_left (2 ^ 96) h
      omega
    · exact fun h => Nat.div_le_div_right h
  · rw [line_six, line_six]
    omega
theorem line_inj {v u : Bool} {A B : List Int} (hA : Sixteen A) (hB : Sixteen B) (kA : v = false → aN A % 2 ^ 96 = 0) (kB : u = false → aN B % 2 ^ 96 = 0) (e : lineZ v A = lineZ u B) : v = u ∧ A = B := by
  have p : (2 : Nat) ^ 32 < 2 ^ 40 := by decide
  cases v <;> cases u
  · have h1 := (line_le kA kB).1 (Nat.le_of_eq e)
    have h2 := (line_le kB kA).1 (Nat.le_of_eq e.symm)
    exact ⟨rfl, aN_inj hA.2 hB.2 (by rw [hA.1, hB.1]) (Nat.le_antisymm h1 h2)⟩
  · have := line_four hA
    rw [line_six] at e
    omega
  · have := line_four hB
    rw [line_six] at e
    omega
  · rw [line_six, line_six] at e
    exact ⟨rfl, aN_inj hA.2 hB.2 (by rw [hA.1, hB.1]) (by omega)⟩
end Go.Proofs.YtlmndmfebgaidaaGreatDoor
namespace Go.Proofs.YtlmndmfebgaidaaGreatDoor
set_option linter.unusedVariables false
structure SpanZ where
  v : Bool
  lo : List Int
  hi : List Int
def SpanOk (s : SpanZ) : Prop := Sixteen s.lo ∧ Sixteen s.hi ∧ rightZ s.v s.lo s.hi = true
def lineS (s : SpanZ) : Nat × Nat := (lineZ s.v s.lo, lineZ s.v s.hi)
theorem ok_parts {s : SpanZ} (h : SpanOk s) : (s.v = false → aN s.lo % 2 ^ 96 = 0) ∧ (s.v = false → aN s.hi % 2 ^ 96 = 0) ∧ aN s.lo ≤ aN s.hi := by
  have h3 := h.2.2
  unfold rightZ at h3
  rw [Bool.and_eq_true, decide_eq_true_iff] at h3
  refine ⟨fun e => ?_, fun e => ?_, h3.2⟩
  · have := h3.1
    rw [e] at this
    simp only [Bool.false_or, Bool.and_eq_true, decide_eq_true_iff] at this
    exact this.1
  · have := h3.1
    rw [e] at this
    simp only [Bool.false_or, Bool.and_eq_true, decide_eq_true_iff] at this
    exact this.2
theorem ok_line {s : SpanZ} (h : SpanOk s) : (lineS s).1 ≤ (lineS s).2 := (line_le (ok_parts h).1 (ok_parts h).2.1).2 (ok_parts h).2.2
theorem lineS_inj {s t : SpanZ} (hs : SpanOk s) (ht : SpanOk t) (e : lineS s = lineS t) : s = t := by
  obtain ⟨v, lo, hi⟩ := s
  obtain ⟨u, lo', hi'⟩ := t
  obtain ⟨e1, e2⟩ := Prod.mk.inj e
  obtain ⟨rfl, rfl⟩ := line_inj hs.1 ht.1 (ok_parts hs).1 (ok_parts ht).1 e1
  obtain ⟨_, rfl⟩ := line_inj hs.2.1 ht.2.1 (ok_parts hs).2.1 (ok_parts ht).2.1 e2
  rfl
theorem listS_inj : ∀ {l m : List SpanZ}, (∀ s ∈ l, SpanOk s) → (∀ s ∈ m, SpanOk s) → l.map lineS = m.map lineS → l = m
  | [], [], _, _, _ => rfl
  | [], _ :: _, _, _, e => by simp at e
  | _ :: _, [], _, _, e => by simp at e
  | s :: l, t :: m, hl, hm, e => by
    rw [List.map_cons, List.map_cons] at e
    obtain ⟨e1, e2⟩ := List.cons.inj e
    rw [lineS_inj (hl s List.mem_cons_self) (hm t List.mem_cons_self) e1, listS_inj (fun x hx => hl x (List.mem_cons_of_mem _ hx)) (fun x hx => hm x (List.mem_cons_of_mem _ hx)) e2]
def aheadS (s t : SpanZ) : Bool := if s.v ≠ t.v then t.v else decide (aN s.lo < aN t.lo)
theorem ahead_line {s t : SpanZ} (hs : SpanOk s) (ht : SpanOk t) : aheadS s t = true ↔ (lineS s).1 < (lineS t).1 := by
  have p : (2 : Nat) ^ 32 < 2 ^ 40 := by decide
  have ks := (ok_parts hs).1
  have kt := (ok_parts ht).1
  obtain ⟨v, lo, hi⟩ := s
  obtain ⟨u, lo', hi'⟩ := t
  show aheadS _ _ = true ↔ lineZ v lo < lineZ u lo'
  by_cases e : v = u
  · subst e
    have h := line_le kt ks
    unfold aheadS
    rw [if_neg (by simp), decide_eq_true_iff]
    show aN lo < aN lo' ↔ _
    have h' : lineZ v lo' ≤ lineZ v lo ↔ aN lo' ≤ aN lo := h
    omega
  · unfold aheadS
    rw [if_pos (by simpa using e)]
    cases v <;> cases u
    · exact absurd rfl e
    · have := line_four hs.1
      have this' : lineZ false lo < 2 ^ 32 := this
      rw [line_six]
      exact ⟨fun _ => by omega, fun _ => rfl⟩
    · have := line_four ht.1
      have this' : lineZ false lo' < 2 ^ 32 := this
      rw [line_six]
      exact ⟨fun h => (by cases h), fun h => by omega⟩
    · exact absurd rfl e
def insS (p : SpanZ) : List SpanZ → List SpanZ
  | [] => [p]
  | q :: r => if aheadS q p = true then q :: insS p r else p :: q :: r
theorem ins_line {p : SpanZ} (hp : SpanOk p) : ∀ {l : List SpanZ}, (∀ s ∈ l, SpanOk s) → (insS p l).map lineS = insZ (lineS p) (l.map lineS) ∧ ∀ s ∈ insS p l, SpanOk s
  | [], _ => ⟨rfl, fun s hs => by
    rcases List.mem_cons.1 hs with rfl | hs
    · exact hp
    · cases hs⟩
  | q :: r, h => by
    have hq := h q List.mem_cons_self
    obtain ⟨i1, i2⟩ := ins_line hp (l := r) (fun s hs => h s (List.mem_cons_of_mem _ hs))
    have a := ahead_line hq hp
    unfold insS
    rw [List.map_cons]
    unfold insZ
    by_cases k : aheadS q p = true
    · rw [if_pos k, if_pos (a.1 k), List.map_cons, i1]
      refine ⟨rfl, fun s hs => ?_⟩
      rcases List.mem_cons.1 hs with rfl | hs
      · exact hq
      · exact i2 s hs
    · rw [if_neg k, if_neg (fun j => k (a.2 j)), List.map_cons, List.map_cons]
      refine ⟨rfl, fun s hs => ?_⟩
      rcases List.mem_cons.1 hs with rfl | hs
      · exact hp
      · exact h s hs
def sortS (row : List SpanZ) : List SpanZ → List SpanZ
  | [] => row
  | p :: l => sortS (if rightZ p.v p.lo p.hi = true then insS p row else row) l
theorem sort_line : ∀ {l row : List SpanZ}, (∀ s ∈ l, Sixteen s.lo ∧ Sixteen s.hi) → (∀ s ∈ row, SpanOk s) →
    (sortS row l).map lineS = sortZ (row.map lineS) ((l.filter fun s => rightZ s.v s.lo s.hi).map lineS) ∧ ∀ s ∈ sortS row l, SpanOk s
  | [], row, _, h => ⟨rfl, h⟩
  | p :: l, row, hl, h => by
    have hl' : ∀ s ∈ l, Sixteen s.lo ∧ Sixteen s.hi := fun s hs => hl s (List.mem_cons_of_mem _ hs)
    have p2 := hl p List.mem_cons_self
    unfold sortS
    by_cases k : rightZ p.v p.lo p.hi = true
    · have hp : SpanOk p := ⟨p2.1, p2.2, k⟩
      obtain ⟨i1, i2⟩ := ins_line hp h
      obtain ⟨j1, j2⟩ := sort_line (l := l) (row := insS p row) hl' i2
      rw [if_pos k, List.filter_cons, if_pos k, List.map_cons]
      refine ⟨?_, j2⟩
      rw [j1, i1]
      rw [sortZ, if_pos (ok_line hp)]
    · obtain ⟨j1, j2⟩ := sort_line (l := l) (row := row) hl' h
      rw [if_neg k, List.filter_cons, if_neg k]
      exact ⟨j1, j2⟩
def touchS (c q : SpanZ) : Bool := (c.v == q.v) && decide (aN q.lo ≤ aN c.hi + unitZ c.v)
theorem touch_line {c q : SpanZ} (hc : SpanOk c) (hq : SpanOk q) (hs : (lineS c).1 ≤ (lineS q).1) : touchS c q = true ↔ (lineS q).1 ≤ (lineS c).2 + 1 := by
  have p : (2 : Nat) ^ 32 < 2 ^ 40 := by decide
  have kc := (ok_parts hc).2.1
  have kq := (ok_parts hq).1
  obtain ⟨v, lo, hi⟩ := c
  obtain ⟨u, lo', hi'⟩ := q
  show touchS _ _ = true ↔ lineZ u lo' ≤ lineZ v hi + 1
  have hs' : lineZ v lo ≤ lineZ u lo' := hs
  unfold touchS
  by_cases e : v = u
  · subst e
    simp only [beq_self_eq_true, Bool.true_and, decide_eq_true_iff]
    show aN lo' ≤ aN hi + unitZ v ↔ _
    cases v
    · have a := Nat.div_add_mod (aN lo') (2 ^ 96)
      have b := Nat.div_add_mod (aN hi) (2 ^ 96)
      have a0 : aN lo' % 2 ^ 96 = 0 := kq rfl
      have b0 : aN hi % 2 ^ 96 = 0 := kc rfl
      show aN lo' ≤ aN hi + 2 ^ 96 ↔ aN lo' / 2 ^ 96 ≤ aN hi / 2 ^ 96 + 1
      generalize aN lo' / 2 ^ 96 = x at *
      generalize aN hi / 2 ^ 96 = y at *
      generalize aN lo' = m at *
      generalize aN hi = n at *
      constructor
      · intro h
        have h2 : 2 ^ 96 * x ≤ 2 ^ 96 * (y + 1) := by rw [Nat.mul_add, Nat.mul_one]; omega
        exact Nat.le_of_mul_le_mul_left h2 (by decide)
      · intro h
        have := Nat.mul_le_mul_left (2 ^ 96) h
        rw [Nat.mul_add, Nat.mul_one] at this
        omega
    · rw [line_six, line_six]
      show aN lo' ≤ aN hi + 1 ↔ _
      omega
  · have e' : (v == u) = false := by simpa using e
    simp only [e', Bool.false_and]
    cases v <;> cases u
    · exact absurd rfl e
    · have h1 : lineZ false hi < 2 ^ 32 := line_four hc.2.1
      rw [line_six]
      exact ⟨fun h => (by cases h), fun h => by omega⟩
    · have h1 : lineZ false lo' < 2 ^ 32 := line_four hq.1
      rw [line_six] at hs'
      exact ⟨fun h => (by cases h), fun h => by omega⟩
    · exact absurd rfl e
def wideS (c q : SpanZ) : SpanZ := if aN c.hi < aN q.hi then ⟨c.v, c.lo, q.hi⟩ else c
def mergeS (c : SpanZ) : List SpanZ → List SpanZ
  | [] => [c]
  | q :: r => if touchS c q = true then mergeS (wideS c q) r else c :: mergeS q r
theorem wide_line {c q : SpanZ} (hc : SpanOk c) (hq : SpanOk q) (e : c.v = q.v) : lineS (wideS c q) = ((lineS c).1, max (lineS c).2 (lineS q).2) ∧ SpanOk (wideS c q) := by
  have pc := ok_parts hc
  have pq := ok_parts hq
  have h1 := line_le (v := c.v) pc.2.1 (fun h => pq.2.1 (e ▸ h))
  have h2 := line_le (v := c.v) (fun h => pq.2.1 (e ▸ h)) pc.2.1
  unfold wideS
  split
  · rename_i h
    refine ⟨?_, hc.1, hq.2.1, ?_⟩
    · show (lineZ c.v c.lo, lineZ c.v q.hi) = (lineZ c.v c.lo, max (lineZ c.v c.hi) (lineZ q.v q.hi))
      rw [← e]
      congr 1
      omega
    · show rightZ c.v c.lo q.hi = true
      unfold rightZ
      have := pc.2.2
      rw [Bool.and_eq_true, decide_eq_true_iff]
      refine ⟨?_, by omega⟩
      cases hv : c.v
      · simp only [Bool.false_or, Bool.and_eq_true, decide_eq_true_iff]
        exact ⟨pc.1 hv, pq.2.1 (e ▸ hv)⟩
      · rfl
  · rename_i h
    refine ⟨?_, hc⟩
    show (lineZ c.v c.lo, lineZ c.v c.hi) = (lineZ c.v c.lo, max (lineZ c.v c.hi) (lineZ q.v q.hi))
    rw [← e]
    congr 1
    omega
theorem merge_line : ∀ {l : List SpanZ} {c : SpanZ}, SortZ ((c :: l).map lineS) → (∀ s ∈ c :: l, SpanOk s) → (mergeS c l).map lineS = mergeZ (lineS c) (l.map lineS) ∧ ∀ s ∈ mergeS c l, SpanOk s
  | [], c, _, h => ⟨rfl, h⟩
  | q :: r, c, hs, h => by
    have hc := h c List.mem_cons_self
    have hq := h q (List.mem_cons_of_mem _ List.mem_cons_self)
    have hr : ∀ s ∈ r, SpanOk s := fun s hs => h s (List.mem_cons_of_mem _ (List.mem_cons_of_mem _ hs))
    have hs1 : (lineS c).1 ≤ (lineS q).1 := hs.1 _ (by simp)
    have t := touch_line hc hq hs1
    unfold mergeS
    rw [List.map_cons]
    unfold mergeZ
    by_cases k : touchS c q = true
    · have e : c.v = q.v := by
        unfold touchS at k
        rw [Bool.and_eq_true] at k
        simpa using k.1
      obtain ⟨w1, w2⟩ := wide_line hc hq e
      rw [if_pos k, if_pos (t.1 k), ← w1]
      refine merge_line (l := r) (c := wideS c q) ?_ (fun s hs => by
        rcases List.mem_cons.1 hs with rfl | hs
        · exact w2
        · exact hr s hs)
      rw [List.map_cons, w1]
      exact ⟨fun y hy => hs.1 y (List.mem_cons_of_mem _ hy), hs.2.2⟩
    · obtain ⟨m1, m2⟩ := merge_line (l := r) (c := q) hs.2 (fun s hs => h s (List.mem_cons_of_mem _ hs))
      rw [if_neg k, if_neg (fun j => k (t.2 j)), List.map_cons, m1]
      refine ⟨rfl, fun s hs => ?_⟩
      rcases List.mem_cons.1 hs with rfl | hs
      · exact hc
      · exact m2 s hs
def joinS (l : List SpanZ) : List SpanZ := match sortS [] l with
  | [] => []
  | c :: r => mergeS c r
theorem join_line {l : List SpanZ} (hl : ∀ s ∈ l, Sixteen s.lo ∧ Sixteen s.hi) : (joinS l).map lineS = joinZ ((l.filter fun s => rightZ s.v s.lo s.hi).map lineS) ∧ ∀ s ∈ joinS l, SpanOk s := by
  obtain ⟨h1, h2⟩ := sort_line (l := l) (row := []) hl (fun s hs => by cases hs)
  have hS := sort_sort (l := (l.filter fun s => rightZ s.v s.lo s.hi).map lineS) (row := []) trivial
  unfold joinS joinZ
  rw [List.map_nil] at h1
  rw [← h1] at hS ⊢
  split
  · rename_i e
    rw [e]
    exact ⟨rfl, fun s hs => by cases hs⟩
  · rename_i c r e
    rw [e] at hS h2 ⊢
    exact merge_line hS h2
end Go.Proofs.YtlmndmfebgaidaaGreatDoor
namespace Go.Proofs.YtlmndmfebgaidaaGreatDoor
set_option linter.unusedVariables false
def SpansZ (l : List SpanZ) : Prop := ∀ s ∈ l, Sixteen s.lo ∧ Sixteen s.hi
def onL (l : List SpanZ) : List (Nat × Nat) := (l.filter fun s => rightZ s.v s.lo s.hi).map lineS
theorem onL_ok {l : List SpanZ} (h : ∀ s ∈ l, SpanOk s) : onL l = l.map lineS := by
  unfold onL
  rw [List.filter_eq_self.2 (fun s hs => (h s hs).2.2)]
theorem in_onL {x : Nat} {l : List SpanZ} : InZ x (onL l) ↔ ∃ s ∈ l, rightZ s.v s.lo s.hi = true ∧ (lineS s).1 ≤ x ∧ x ≤ (lineS s).2 := by
  unfold InZ onL
  constructor
  · rintro ⟨p, hp, h⟩
    obtain ⟨s, hs, rfl⟩ := List.mem_map.1 hp
    obtain ⟨h1, h2⟩ := List.mem_filter.1 hs
    exact ⟨s, h1, h2, h⟩
  · rintro ⟨s, hs, hr, h⟩
    exact ⟨lineS s, List.mem_map.2 ⟨s, List.mem_filter.2 ⟨hs, hr⟩, rfl⟩, h⟩
theorem join_ok {l : List SpanZ} (hl : SpansZ l) : ∀ s ∈ joinS l, SpanOk s := (join_line hl).2
theorem join_norm' {l : List SpanZ} (hl : SpansZ l) : NormZ (onL (joinS l)) := by
  rw [onL_ok (join_ok hl), (join_line hl).1]
  exact norm_join _
theorem in_joinS {x : Nat} {l : List SpanZ} (hl : SpansZ l) : InZ x (onL (joinS l)) ↔ InZ x (onL l) := by
  rw [onL_ok (join_ok hl), (join_line hl).1]
  exact in_join
theorem norm_same {l m : List SpanZ} (hl : ∀ s ∈ l, SpanOk s) (hm : ∀ s ∈ m, SpanOk s) (nl : NormZ (onL l)) (nm : NormZ (onL m)) (h : ∀ x, InZ x (onL l) ↔ InZ x (onL m)) : l = m := by
  refine listS_inj hl hm ?_
  have := norm_one nl nm h
  rwa [onL_ok hl, onL_ok hm] at this
theorem join_unique {l m : List SpanZ} (hl : SpansZ l) (hm : ∀ s ∈ m, SpanOk s) (nm : NormZ (onL m)) (h : ∀ x, InZ x (onL m) ↔ InZ x (onL l)) : m = joinS l :=
  norm_same hm (join_ok hl) nm (join_norm' hl) (fun x => (h x).trans (in_joinS hl).symm)
theorem joinS_same {l m : List SpanZ} (hl : SpansZ l) (hm : SpansZ m) (h : ∀ x, InZ x (onL l) ↔ InZ x (onL m)) : joinS l = joinS m :=
  norm_same (join_ok hl) (join_ok hm) (join_norm' hl) (join_norm' hm) (fun x => by rw [in_joinS hl, in_joinS hm]; exact h x)
def cutS (p q : SpanZ) : SpanZ := ⟨p.v, if aN p.lo < aN q.lo then q.lo else p.lo, if aN q.hi < aN p.hi then q.hi else p.hi⟩
def pairS (a b : List SpanZ) : List SpanZ := a.flatMap fun p => (b.filter fun q => rightZ p.v p.lo p.hi && rightZ q.v q.lo q.hi && (p.v == q.v)).map (cutS p)
def bothS (a b : List SpanZ) : List SpanZ := joinS (pairS a b)
theorem cut_parts {p q : SpanZ} (hp : SpanOk p) (hq : SpanOk q) (e : p.v = q.v) : Sixteen (cutS p q).lo ∧ Sixteen (cutS p q).hi ∧ lineS (cutS p q) = (max (lineS p).1 (lineS q).1, min (lineS p).2 (lineS q).2) ∧
    (rightZ (cutS p q).v (cutS p q).lo (cutS p q).hi = true ↔ (lineS (cutS p q)).1 ≤ (lineS (cutS p q)).2) := by
  have pp := ok_parts hp
  have pq := ok_parts hq
  have q1 : p.v = false → aN q.lo % 2 ^ 96 = 0 := fun h => pq.1 (e ▸ h)
  have q2 : p.v = false → aN q.hi % 2 ^ 96 = 0 := fun h => pq.2.1 (e ▸ h)
  have k1 := line_le pp.1 q1
  have k2 := line_le q1 pp.1
  have k3 := line_le pp.2.1 q2
  have k4 := line_le q2 pp.2.1
  have z1 : p.v = false → aN (cutS p q).lo % 2 ^ 96 = 0 := fun h => by
    show aN (if aN p.lo < aN q.lo then q.lo else p.lo) % 2 ^ 96 = 0
    split
    · exact q1 h
    · exact pp.1 h
  have z2 : p.v = false → aN (cutS p q).hi % 2 ^ 96 = 0 := fun h => by
    show aN (if aN q.hi < aN p.hi then q.hi else p.hi) % 2 ^ 96 = 0
    split
    · exact q2 h
    · exact pp.2.1 h
  refine ⟨?_, ?_, ?_, ?_⟩
  · show Sixteen (if aN p.lo < aN q.lo then q.lo else p.lo)
    split
    · exact hq.1
    · exact hp.1
  · show Sixteen (if aN q.hi < aN p.hi then q.hi else p.hi)
    split
    · exact hq.2.1
    · exact hp.2.1
  · show (lineZ p.v (if aN p.lo < aN q.lo then q.lo else p.lo), lineZ p.v (if aN q.hi < aN p.hi then q.hi else p.hi)) = (max (lineZ p.v p.lo) (lineZ q.v q.lo), min (lineZ p.v p.hi) (lineZ q.v q.hi))
    rw [← e]
    refine Prod.ext ?_ ?_
    · show lineZ p.v (if aN p.lo < aN q.lo then q.lo else p.lo) = max (lineZ p.v p.lo) (lineZ p.v q.lo)
      split <;> omega
    · show lineZ p.v (if aN q.hi < aN p.hi then q.hi else p.hi) = min (lineZ p.v p.hi) (lineZ p.v q.hi)
      split <;> omega
  · have k := line_le z1 z2
    show rightZ p.v (cutS p q).lo (cutS p q).hi = true ↔ lineZ p.v (cutS p q).lo ≤ lineZ p.v (cutS p q).hi
    rw [k]
    unfold rightZ
    rw [Bool.and_eq_true, decide_eq_true_iff]
    constructor
    · exact fun h => h.2
    · intro h
      refine ⟨?_, h⟩
      cases hv : p.v
      · simp only [Bool.false_or, Bool.and_eq_true, decide_eq_true_iff]
        exact ⟨z1 hv, z2 hv⟩
      · rfl
theorem mem_pairS {a b : List SpanZ} {s : SpanZ} : s ∈ pairS a b ↔ ∃ p ∈ a, ∃ q ∈ b, rightZ p.v p.lo p.hi = true ∧ rightZ q.v q.lo q.hi = true ∧ p.v = q.v ∧ s = cutS p q := by
  unfold pairS
  rw [List.mem_flatMap]
  constructor
  · rintro ⟨p, hp, hs⟩
    obtain ⟨q, hq, rfl⟩ := List.mem_map.1 hs
    obtain ⟨h1, h2⟩ := List.mem_filter.1 hq
    rw [Bool.and_eq_true, Bool.and_eq_true] at h2
    exact ⟨p, hp, q, h1, h2.1.1, h2.1.2, by simpa using h2.2, rfl⟩
  · rintro ⟨p, hp, q, hq, h1, h2, h3, rfl⟩
    exact ⟨p, hp, List.mem_map.2 ⟨q, List.mem_filter.2 ⟨hq, by rw [h1, h2, h3]; simp⟩, rfl⟩⟩
theorem pair_spans {a b : List SpanZ} (ha : SpansZ a) (hb : SpansZ b) : SpansZ (pairS a b) := by
  intro s hs
  obtain ⟨p, hp, q, hq, h1, h2, h3, rfl⟩ := mem_pairS.1 hs
  have c := cut_parts (p := p) (q := q) ⟨(ha p hp).1, (ha p hp).2, h1⟩ ⟨(hb q hq).1, (hb q hq).2, h2⟩ h3
  exact ⟨c.1, c.2.1⟩
theorem one_family {p q : SpanZ} (hp : SpanOk p) (hq : SpanOk q) {x : Nat} (h1 : (lineS p).1 ≤ x) (h2 : x ≤ (lineS p).2) (h3 : (lineS q).1 ≤ x) (h4 : x ≤ (lineS q).2) : p.v = q.v := by
  have e : (2 : Nat) ^ 32 < 2 ^ 40 := by decide
  obtain ⟨v, lo, hi⟩ := p
  obtain ⟨u, lo', hi'⟩ := q
  have h1' : lineZ v lo ≤ x := h1
  have h2' : x ≤ lineZ v hi := h2
  have h3' : lineZ u lo' ≤ x := h3
  have h4' : x ≤ lineZ u hi' := h4
  cases v <;> cases u
  · rfl
  · have : lineZ false hi < 2 ^ 32 := line_four hp.2.1
    rw [line_six] at h3'
    omega
  · have : lineZ false hi' < 2 ^ 32 := line_four hq.2.1
    rw [line_six] at h1'
    omega
  · rfl
theorem in_pairS {a b : List SpanZ} (ha : SpansZ a) (hb : SpansZ b) {x : Nat} : InZ x (onL (pairS a b)) ↔ InZ x (onL a) ∧ InZ x (onL b) := by
  rw [in_onL, in_onL, in_onL]
  constructor
  · rintro ⟨s, hs, hr, h1, h2⟩
    obtain ⟨p, hp, q, hq, k1, k2, k3, rfl⟩ := mem_pairS.1 hs
    have c := cut_parts (p := p) (q := q) ⟨(ha p hp).1, (ha p hp).2, k1⟩ ⟨(hb q hq).1, (hb q hq).2, k2⟩ k3
    rw [c.2.2.1] at h1 h2
    have h1' : max (lineS p).1 (lineS q).1 ≤ x := h1
    have h2' : x ≤ min (lineS p).2 (lineS q).2 := h2
    exact ⟨⟨p, hp, k1, by omega, by omega⟩, q, hq, k2, by omega, by omega⟩
  · rintro ⟨⟨p, hp, k1, h1, h2⟩, q, hq, k2, h3, h4⟩
    have op : SpanOk p := ⟨(ha p hp).1, (ha p hp).2, k1⟩
    have oq : SpanOk q := ⟨(hb q hq).1, (hb q hq).2, k2⟩
    have k3 := one_family op oq h1 h2 h3 h4
    have c := cut_parts op oq k3
    have l1 : (lineS (cutS p q)).1 ≤ x := by rw [c.2.2.1]; show max (lineS p).1 (lineS q).1 ≤ x; omega
    have l2 : x ≤ (lineS (cutS p q)).2 := by rw [c.2.2.1]; show x ≤ min (lineS p).2 (lineS q).2; omega
    exact ⟨cutS p q, mem_pairS.2 ⟨p, hp, q, hq, k1, k2, k3, rfl⟩, c.2.2.2.2 (by omega), l1, l2⟩
theorem in_bothS {a b : List SpanZ} (ha : SpansZ a) (hb : SpansZ b) {x : Nat} : InZ x (onL (bothS a b)) ↔ InZ x (onL a) ∧ InZ x (onL b) := by
  unfold bothS
  rw [in_joinS (pair_spans ha hb)]
  exact in_pairS ha hb
theorem both_ok {a b : List SpanZ} (ha : SpansZ a) (hb : SpansZ b) : ∀ s ∈ bothS a b, SpanOk s := join_ok (pair_spans ha hb)
theorem withinS_is {a b : List SpanZ} (ha : SpansZ a) (hb : SpansZ b) : bothS a b = joinS a ↔ WithinZ (onL a) (onL b) := by
  constructor
  · intro h x hx
    have k := (in_joinS ha).2 hx
    rw [← h, in_bothS ha hb] at k
    exact k.2
  · intro h
    unfold bothS
    exact joinS_same (pair_spans ha hb) ha (fun x => by
      rw [in_pairS ha hb]
      exact ⟨fun k => k.1, fun k => ⟨k, h x k⟩⟩)
end Go.Proofs.YtlmndmfebgaidaaGreatDoor
namespace Go.Proofs.YtlmndmfebgaidaaGreatDoor
open Go.RowKit
set_option linter.unusedVariables false
def scells (s : SpanZ) : Array Value := (Value.bool s.v :: (acells s.lo ++ acells s.hi)).toArray
def SixS (s : SpanZ) : Prop := Sixteen s.lo ∧ Sixteen s.hi
theorem scells_len {s : SpanZ} (h : SixS s) : (Value.bool s.v :: (acells s.lo ++ acells s.hi)).length = 33 := by simp [acells_len h.1.1, acells_len h.2.1]
theorem scells_size {s : SpanZ} (h : SixS s) : (scells s).size = 33 := by
  unfold scells
  rw [List.size_toArray, scells_len h]
theorem scells_v (s : SpanZ) : (scells s)[0]? = some (.bool s.v) := rfl
theorem scells_lo {s : SpanZ} (h : SixS s) (q : Nat) (hq : q < 16) : (scells s)[1 + q]? = some (.int .u8 (s.lo[q]?.getD 0)) := by
  unfold scells
  rw [List.getElem?_toArray, Nat.add_comm, List.getElem?_cons_succ, List.getElem?_append_left (by rw [acells_len h.1.1]; exact hq)]
  exact acells_at h.1.1 q hq
theorem scells_hi {s : SpanZ} (h : SixS s) (q : Nat) (hq : q < 16) : (scells s)[17 + q]? = some (.int .u8 (s.hi[q]?.getD 0)) := by
  unfold scells
  rw [List.getElem?_toArray, show 17 + q = (16 + q) + 1 by omega, List.getElem?_cons_succ, List.getElem?_append_right (by rw [acells_len h.1.1]; omega), acells_len h.1.1, show 16 + q - 16 = q by omega]
  exact acells_at h.2.1 q hq
theorem scells_one (s : SpanZ) : (scells s).all (·.oneCell') = true := by
  refine Array.all_eq_true_iff_forall_mem.2 (fun v hv => ?_)
  unfold scells at hv
  simp only [List.mem_toArray, List.mem_cons, List.mem_append] at hv
  rcases hv with rfl | hv | hv
  · rfl
  · obtain ⟨x, _, rfl⟩ := List.mem_map.1 hv
    rfl
  · obtain ⟨x, _, rfl⟩ := List.mem_map.1 hv
    rfl
theorem Tryz.sizeS {s : SpanZ} (h : SixS s) : (Tryz.prog.info? 62).map (·.size) = some (scells s).size := by
  rw [scells_size h]
  kernel_rfl
def SBlk (w : World) (g : Nat) (s : SpanZ) : Prop := Blk w g 62 (scells s)
theorem SBlk.v {w : World} {g : Nat} {s : SpanZ} (h : SBlk w g s) : w.cell? ⟨g, 0, none⟩ = some (.bool s.v) := (Blk.cell h 0).trans (scells_v s)
theorem SBlk.lo {w : World} {g : Nat} {s : SpanZ} (h : SBlk w g s) (hs : SixS s) : w.rangeAt g 1 (acells s.lo) := by
  intro j u hj
  have hl : j < 16 := by
    have := (List.getElem?_eq_some_iff.1 hj).1
    rwa [acells_len hs.1.1] at this
  rw [Blk.cell h (1 + j), scells_lo hs j hl, ← acells_at hs.1.1 j hl]
  exact hj
theorem SBlk.hi {w : World} {g : Nat} {s : SpanZ} (h : SBlk w g s) (hs : SixS s) : w.rangeAt g 17 (acells s.hi) := by
  intro j u hj
  have hl : j < 16 := by
    have := (List.getElem?_eq_some_iff.1 hj).1
    rwa [acells_len hs.2.1] at this
  rw [Blk.cell h (17 + j), scells_hi hs j hl, ← acells_at hs.2.1 j hl]
  exact hj
theorem SBlk.lt {w : World} {g : Nat} {s : SpanZ} (h : SBlk w g s) : g < w.heap.size := Blk.lt h
theorem sbox (w : World) (s : SpanZ) : SBlk (w.alloc (.cells (scells s) 62)) w.heap.size s := Blk.new _ _ _
def zeroS : SpanZ := ⟨false, List.replicate 16 0, List.replicate 16 0⟩
theorem zeroS_six : SixS zeroS := ⟨⟨rfl, fun x hx => by rw [(List.mem_replicate.1 hx).2]; omega⟩, ⟨rfl, fun x hx => by rw [(List.mem_replicate.1 hx).2]; omega⟩⟩
theorem scells_setHi {s : SpanZ} (h : SixS s) (q : Nat) (hq : q < 16) (x : Int) : (scells s).setIfInBounds (17 + q) (.int .u8 x) = scells ⟨s.v, s.lo, s.hi.set q x⟩ := by
  unfold scells
  apply Array.ext'
  rw [Array.toList_setIfInBounds]
  show (Value.bool s.v :: (acells s.lo ++ acells s.hi)).set (17 + q) (.int .u8 x) = Value.bool s.v :: (acells s.lo ++ acells (s.hi.set q x))
  rw [show 17 + q = (16 + q) + 1 by omega, List.set_cons_succ, List.set_append_right _ _ (by rw [acells_len h.1.1]; omega), acells_len h.1.1, show 16 + q - 16 = q by omega]
  unfold acells
  rw [List.map_set]
theorem SBlk.setHi {w : World} {g : Nat} {s : SpanZ} (h : SBlk w g s) (hs : SixS s) (q : Nat) (hq : q < 16) (x : Int) : SBlk (w.setCell ⟨g, 17 + q, none⟩ (.int .u8 x)) g ⟨s.v, s.lo, s.hi.set q x⟩ := by
  have := Blk.set h (17 + q) (.int .u8 x)
  rwa [scells_setHi hs q hq] at this
theorem set_split {A : List Int} {q : Nat} (x : Int) (hq : q < A.length) : (A.set q x).take (q + 1) = A.take q ++ [x] ∧ ∀ m, (A.set q x).drop (q + 1 + m) = A.drop (q + 1 + m) := by
  have e : A.set q x = A.take q ++ x :: A.drop (q + 1) := by rw [List.set_eq_take_append_cons_drop, if_pos hq]
  have l : (A.take q).length = q := by rw [List.length_take]; omega
  refine ⟨?_, fun m => ?_⟩
  · rw [List.take_add_one, List.take_set_of_le (Nat.le_refl _), List.getElem?_set_self hq]
    rfl
  · rw [List.drop_set_of_lt (by omega)]
theorem SBlk.setAll {g : Nat} {v : Bool} : ∀ (Bs : List Int) (q : Nat) (w : World) (A B : List Int), A.length = 16 → B.length = 16 → q + Bs.length ≤ 16 → Blk w g 62 (scells ⟨v, A, B⟩) →
    Blk (w.setCells g (17 + q) (acells Bs)) g 62 (scells ⟨v, A, B.take q ++ Bs ++ B.drop (q + Bs.length)⟩) ∧ Blk (w.setCells g (1 + q) (acells Bs)) g 62 (scells ⟨v, A.take q ++ Bs ++ A.drop (q + Bs.length), B⟩)
  | [], q, w, A, B, hA, hB, hl, h => by
    have e : ∀ C : List Int, C.take q ++ [] ++ C.drop (q + ([] : List Int).length) = C := fun C => by rw [List.append_nil, List.length_nil, Nat.add_zero, List.take_append_drop]
    rw [e A, e B]
    exact ⟨h, h⟩
  | x :: r, q, w, A, B, hA, hB, hl, h => by
    simp only [List.length_cons] at hl
    have sH : (scells ⟨v, A, B⟩).setIfInBounds (17 + q) (.int .u8 x) = scells ⟨v, A, B.set q x⟩ := by
      unfold scells
      apply Array.ext'
      rw [Array.toList_setIfInBounds]
      show (Value.bool v :: (acells A ++ acells B)).set (17 + q) (.int .u8 x) = Value.bool v :: (acells A ++ acells (B.set q x))
      rw [show 17 + q = (16 + q) + 1 by omega, List.set_cons_succ, List.set_append_right _ _ (by rw [acells_len hA]; omega), acells_len hA, show 16 + q - 16 = q by omega]
      unfold acells
      rw [List.map_set]
    have sL : (scells ⟨v, A, B⟩).setIfInBounds (1 + q) (.int .u8 x) = scells ⟨v, A.set q x, B⟩ := by
      unfold scells
      apply Array.ext'
      rw [Array.toList_setIfInBounds]
      show (Value.bool v :: (acells A ++ acells B)).set (1 + q) (.int .u8 x) = Value.bool v :: (acells (A.set q x) ++ acells B)
      rw [Nat.add_comm 1 q, List.set_cons_succ, List.set_append_left _ _ (by rw [acells_len hA]; omega)]
      unfold acells
      rw [List.map_set]
    have h1 := Blk.set h (17 + q) (.int .u8 x)
    have h2 := Blk.set h (1 + q) (.int .u8 x)
    rw [sH] at h1
    rw [sL] at h2
    have i1 := (SBlk.setAll r (q + 1) _ A _ hA (by rw [List.length_set]; exact hB) (by omega) h1).1
    have i2 := (SBlk.setAll r (q + 1) _ _ B (by rw [List.length_set]; exact hA) hB (by omega) h2).2
    have e3 : ∀ C : List Int, C.take q ++ x :: r ++ C.drop (q + (x :: r).length) = C.take q ++ ([x] ++ r) ++ C.drop (q + 1 + r.length) := fun C => by
      rw [List.length_cons, show q + (r.length + 1) = q + 1 + r.length by omega]
      rfl
    obtain ⟨a1, a2⟩ := set_split x (show q < A.length by omega)
    obtain ⟨b1, b2⟩ := set_split x (show q < B.length by omega)
    rw [b1, b2, List.append_assoc (B.take q), ← e3] at i1
    rw [a1, a2, List.append_assoc (A.take q), ← e3] at i2
    exact ⟨i1, i2⟩
theorem SBlk.wholeLo {g : Nat} {s : SpanZ} {w : World} {B : List Int} (hs : SixS s) (hB : B.length = 16) (h : SBlk w g s) : SBlk (w.setCells g 1 (acells B)) g ⟨s.v, B, s.hi⟩ := by
  have := (SBlk.setAll B 0 w s.lo s.hi hs.1.1 hs.2.1 (by omega) h).2
  rw [List.take_zero, List.drop_eq_nil_of_le (by rw [hs.1.1, hB]; omega), List.append_nil] at this
  exact this
theorem below_setCells {B g : Nat} {w : World} (hg : B ≤ g) : ∀ (vs : List Value) (o : Nat) (w' : World), Below B w w' → Below B w (w'.setCells g o vs)
  | [], _, _, h => h
  | v :: r, o, w', h => below_setCells hg r (o + 1) _ (Below.setCell h (p := ⟨g, o, none⟩) hg v)
theorem Blk.farAll {g g' : Nat} {t : TypeId} {cs : Array Value} (hne : g' ≠ g) : ∀ (vs : List Value) (o : Nat) (w : World), Blk w g' t cs → Blk (w.setCells g o vs) g' t cs
  | [], _, _, h => h
  | v :: r, o, w, h => Blk.farAll hne r (o + 1) _ (Blk.far h hne o v)
theorem SBlk.thereLo {w : World} {g : Nat} {s : SpanZ} (h : SBlk w g s) (hs : SixS s) : w.there g 1 16 := fun j hj => ⟨by rw [Blk.cell h (1 + j), scells_lo hs j hj]; rfl, Blk.free h _⟩
theorem sixteen_parts {A : List Int} (h : A.length = 16) : ∃ a0 a1 a2 a3 a4 a5 a6 a7 a8 a9 a10 a11 a12 a13 a14 a15, A = [a0, a1, a2, a3, a4, a5, a6, a7, a8, a9, a10, a11, a12, a13, a14, a15] := by
  match A, h with
  | [a0, a1, a2, a3, a4, a5, a6, a7, a8, a9, a10, a11, a12, a13, a14, a15], _ => exact ⟨_, _, _, _, _, _, _, _, _, _, _, _, _, _, _, _, rfl⟩
theorem built_prefix (v : Bool) (A : List Int) (L : Int) (hA : A.length = 16) : Tryz.prog.built 43 [(0, .bool v), (1, .agg (acells A).toArray), (2, .int .i64 L)] = some (pcells v A L) := by
  obtain ⟨a0, a1, a2, a3, a4, a5, a6, a7, a8, a9, a10, a11, a12, a13, a14, a15, rfl⟩ := sixteen_parts hA
  kernel_rfl
theorem built_span (v : Bool) (A B : List Int) (hA : A.length = 16) (hB : B.length = 16) : Tryz.prog.built 62 [(0, .bool v), (1, .agg (acells A).toArray), (2, .agg (acells B).toArray)] = some (scells ⟨v, A, B⟩) := by
  obtain ⟨a0, a1, a2, a3, a4, a5, a6, a7, a8, a9, a10, a11, a12, a13, a14, a15, rfl⟩ := sixteen_parts hA
  obtain ⟨b0, b1, b2, b3, b4, b5, b6, b7, b8, b9, b10, b11, b12, b13, b14, b15, rfl⟩ := sixteen_parts hB
  kernel_rfl
theorem part_sv (s : SpanZ) (w : World) : (part 4 (scells s) 0).run Tryz.prog w = .ok (.bool s.v) w := by
  simp [part, scells_v, go_sem]
theorem extract_lo {s : SpanZ} (h : SixS s) : (scells s).extract 1 17 = (acells s.lo).toArray := by
  apply Array.ext'
  unfold scells
  rw [Array.toList_extract]
  simp [List.extract_eq_take_drop, acells_len h.1.1]
theorem extract_hi {s : SpanZ} (h : SixS s) : (scells s).extract 17 33 = (acells s.hi).toArray := by
  apply Array.ext'
  unfold scells
  rw [Array.toList_extract]
  have e : (Value.bool s.v :: (acells s.lo ++ acells s.hi)).drop 17 = acells s.hi := by
    rw [List.drop_succ_cons, List.drop_append, acells_len h.1.1]
    simp [acells_len h.1.1]
  simp only [List.extract_eq_take_drop]
  rw [e, List.take_of_length_le (by rw [acells_len h.2.1]; omega)]
theorem part_slo {s : SpanZ} (h : SixS s) (w : World) : (part 41 (scells s) 1).run Tryz.prog w = .ok (.agg (acells s.lo).toArray) w := by
  obtain ⟨i0, hi⟩ := Option.isSome_iff_exists.1 (show (Tryz.prog.info? 41).isSome = true by kernel_rfl)
  have hc : Tryz.prog.cellsOf 41 = 16 := by kernel_rfl
  have ha : (isAgg 41).run Tryz.prog w = .ok true w := by simp [isAgg, run_underlying Tryz.underlying41]
  unfold part
  simp only [Sem.run_bind, ha, Result.andThen_ok, if_true, run_sizeOf w hi, hc, extract_lo h, Sem.run_pure]
theorem part_shi {s : SpanZ} (h : SixS s) (w : World) : (part 41 (scells s) 17).run Tryz.prog w = .ok (.agg (acells s.hi).toArray) w := by
  obtain ⟨i0, hi⟩ := Option.isSome_iff_exists.1 (show (Tryz.prog.info? 41).isSome = true by kernel_rfl)
  have hc : Tryz.prog.cellsOf 41 = 16 := by kernel_rfl
  have ha : (isAgg 41).run Tryz.prog w = .ok true w := by simp [isAgg, run_underlying Tryz.underlying41]
  unfold part
  simp only [Sem.run_bind, ha, Result.andThen_ok, if_true, run_sizeOf w hi, hc, extract_hi h, Sem.run_pure]
theorem two_span (s t : SpanZ) (hs : SixS s) (ht : SixS t) (w : World) : (Op.equalIn 10000 62 (.agg (scells s)) (.agg (scells t))).run Tryz.prog w = .ok (decide (s.v = t.v ∧ s.lo = t.lo ∧ s.hi = t.hi)) w := by
  rw [run_equalIn_struct w 9999 62 _ _ (by simp only [Program.fieldsOf, Tryz.underlying62]) (by kernel_rfl)]
  simp only [Program.fieldsOf, Tryz.underlying62, Op.eqFields]
  have q0 := run_equalIn_bool' w 9998 4 s.v t.v Tryz.underlying4
  have q1 := two_addr s.lo t.lo hs.1.1 ht.1.1 w
  have q2 := two_addr s.hi t.hi hs.2.1 ht.2.1 w
  simp only [ne_eq, Sem.run_bind, part_sv, part_slo hs, part_slo ht, part_shi hs, part_shi ht, q0, q1, q2, Result.andThen_ok, Sem.run_ite, Sem.run_pure]
  by_cases e0 : s.v = t.v
  · by_cases e1 : s.lo = t.lo
    · by_cases e2 : s.hi = t.hi <;> simp [e0, e1, e2]
    · simp [e0, e1]
  · have : (s.v == t.v) = false := by simpa using e0
    simp [e0, this]
def firstC (s : SpanZ) : Array Value := pcells s.v s.lo (mostZ s.v)
def lastC (s : SpanZ) : Array Value := pcells s.v s.hi (mostZ s.v)
end Go.Proofs.YtlmndmfebgaidaaGreatDoor
namespace Go.Proofs.YtlmndmfebgaidaaGreatDoor
open Go.RowKit
set_option linter.unusedVariables false
def ExtB (B : Nat) (a b : World) : Prop := Below B a b
theorem ExtB.refl (B : Nat) (w : World) : ExtB B w w := Below.refl _ _
theorem ExtB.trans {B : Nat} (a b c : World) (h : ExtB B a b) (k : ExtB B b c) : ExtB B a c := Below.trans h k
theorem bd_setRow {w w' : World} (h : BD w w') {g : Nat} (hg : w.heap.size ≤ g) (cs : Array Value) : BD w (w'.setRow g cs) := ⟨below_setRow h.1 hg cs, h.2⟩
theorem bd_setCell {w w' : World} (h : BD w w') {p : Addr} (hg : w.heap.size ≤ p.block) (x : Value) : BD w (w'.setCell p x) := ⟨Below.setCell h.1 hg x, h.2⟩
theorem drawn_setCells (g : Nat) : ∀ (vs : List Value) (o : Nat) (w : World), (w.setCells g o vs).drawn = w.drawn
  | [], _, _ => rfl
  | v :: r, o, w => drawn_setCells g r (o + 1) (w.setCell ⟨g, o, none⟩ v)
theorem bd_setCells {w w' : World} (h : BD w w') {g : Nat} (hg : w.heap.size ≤ g) (vs : List Value) (o : Nat) : BD w (w'.setCells g o vs) := ⟨below_setCells hg vs o w' h.1, by rw [drawn_setCells]; exact h.2⟩
theorem yields_part {P : Program} {o : Oper} {a : Act} {W : World} (ty : TypeId) (x : Operand) (ho : o.op = .load ty x) (b off : Nat) (cs : List Value) (d : TypeDesc) (hx : a.eval x = .pointer (some ⟨b, off, none⟩)) (hc : W.rangeAt b off cs)
    (hu : P.underlying ty = some d) (hd : d.isRow = true) (hi : (P.info? ty).map (·.size) = some cs.length) : (execOp a.eval o).run P W = .ok (.value (.agg cs.toArray)) W := by
  unfold execOp
  simp only [ho, hx, Sem.run_bind, run_loadAt_mid W b off ty cs d hc hu hd hi, Result.andThen_ok, Sem.run_pure]
theorem yields_build {P : Program} {o : Oper} {a : Act} {W : World} (t : TypeId) (parts : Array (Nat × Operand)) (ho : o.op = .build t parts) (cells : Array Value) (ps : List (Nat × Value)) (hb : P.built t ps = some cells) (hps : (parts.map fun (i, x) => (i, a.eval x)).toList = ps) : (execOp a.eval o).run P W = .ok (.value (.agg cells)) W := by
  unfold execOp
  rw [← hps] at hb
  simp only [ho, Sem.run_bind, run_build W t _ cells hb, Result.andThen_ok, Sem.run_pure]
theorem bytesof_any (v : Bool) (w : World) : Calls Tryz.prog 78 #[.bool v] w fun e w' => e = .returned (.int .i64 (famN v : Int)) ∧ w' = w := by
  go_enter Tryz.func78, Tryz.ntmps78
  cases v with
  | true =>
    go_wp2_with fail
    go_ret
    exact ⟨rfl, rfl⟩
  | false =>
    go_wp2_with fail
    go_ret
    exact ⟨rfl, rfl⟩
set_option maxHeartbeats 1000000 in
set_option maxRecDepth 100000 in
theorem first_any (s : SpanZ) (w : World) (hs : SixS s) :
    Calls Tryz.prog 94 #[.agg (scells s)] w fun e w' => e = .returned (.agg (firstC s)) ∧ BD w w' := by
  have BX : Hid (SBlk ((w.alloc (.cells (scells s) 62)).alloc (.cells ZP 43)) w.heap.size s) := Lib.hid (Blk.alloc (sbox w s) _)
  have BZ := Lib.hid (Blk.new (w.alloc (.cells (scells s) 62)) 43 ZP)
  have HGZ : Hid ((w.alloc (.cells (scells s) 62)).heap.size = w.heap.size + 1) := Lib.hid (by simp)
  have BW := Lib.hid (BD.step (bd_box w (.cells (scells s) 62)) (bd_box _ (.cells ZP 43)))
  have CB := Lib.hid (fun W => bytesof_any s.v W)
  have SZ := Lib.hid (Tryz.sizeA hs.1.1)
  have SP := Lib.hid (Tryz.sizeP (v := s.v) (L := mostZ s.v) hs.1.1)
  have ZE : Hid (ZP.size = (firstC s).size) := Lib.hid (by unfold firstC; rw [pcells_size hs.1.1]; rfl)
  have P1 := Lib.hid (pcells_one s.v s.lo (mostZ s.v))
  have BU := Lib.hid (built_prefix s.v s.lo (mostZ s.v) hs.1.1)
  have FN : 8 * (famN s.v : Int) = mostZ s.v := by cases s.v <;> rfl
  have mw : IntKind.i64.wrap (mostZ s.v) = mostZ s.v := IntWalk.i64_in _ (by have := most_le s.v; omega)
  go_enter Tryz.func94, Tryz.ntmps94
  go_wp2_with (refine Great.wpList_allocTo rfl (some 2) rfl (.pointer (some ⟨(w.alloc (.cells (scells s) 62)).heap.size, 0, none⟩)) (.cells ZP 43) rfl ?_)
  generalize (w.alloc (.cells (scells s) 62)).alloc (.cells ZP 43) = w2 at *
  generalize (w.alloc (.cells (scells s) 62)).heap.size = gz at *
  have cv : ∀ W, ExtB (w.heap.size + 1) w2.drew W → W.cell? ⟨w.heap.size, 0, none⟩ = some (.bool s.v) := fun W hW => (hW.cell (p := ⟨w.heap.size, 0, none⟩) (Nat.lt_succ_self _)).trans BX.out.v
  have ca : ∀ W, ExtB (w.heap.size + 1) w2.drew W → W.rangeAt w.heap.size 1 (acells s.lo) := fun W hW => SBlk.lo (show SBlk W w.heap.size s from Blk.below (show Blk w2.drew _ _ _ from BX.out) hW (Nat.lt_succ_self _)) hs
  have ZB : Hid (Blk w2.drew gz 43 ZP) := BZ
  have B2 := Lib.hid (BD.step BW.out (bd_drewN w2 1))
  refine wp_region_ord (ExtB (w.heap.size + 1)) (ExtB.refl _) ExtB.trans ((0, false) :: (1, false) :: (2, false) :: (3, false) :: (4, false) :: (5, false) :: (6, true) :: (7, false) :: (8, false) :: (9, true) :: []) (by kernel_rfl) (by kernel_rfl) rfl (by kernel_rfl) (fun _ _ _ _ _ h => h) ?_
  repeat (first
    | (refine ord_take (.agg (acells s.lo).toArray) rfl (by rfl) (fun W hW => yields_part 41 (.tmp 5) rfl w.heap.size 1 (acells s.lo) _ rfl (ca W hW) Tryz.underlying41 rfl SZ.out) ?_; simp only [Act.put, List.setIfInBounds_toArray, List.set_cons_zero, List.set_cons_succ])
    | (refine ord_take _ rfl (by rfl) (fun W hW => by go_simp; first | done | rfl) ?_; simp only [Act.put, List.setIfInBounds_toArray, List.set_cons_zero, List.set_cons_succ]))
  refine ord_sole rfl (by rfl) (fun K1 hK1 => ?_)
  go_simp
  refine (CB.out _).mono ?_
  rintro r w3 ⟨rfl, rfl⟩
  refine hK1 _ _ (ExtB.refl _ _) ?_
  clear hK1 K1
  refine ord_take (.int .i64 (mostZ s.v)) rfl (by rfl) (fun W hW => by go_simp; first | done | rfl) ?_
  simp only [Act.put, List.setIfInBounds_toArray, List.set_cons_zero, List.set_cons_succ]
  refine ord_take (.agg (firstC s)) rfl (by rfl) (fun W hW => yields_build 43 #[(0, .tmp 4), (1, .tmp 6), (2, .tmp 10)] rfl _ _ BU.out (by kernel_rfl)) ?_
  simp only [Act.put, List.setIfInBounds_toArray, List.set_cons_zero, List.set_cons_succ]
  refine ord_sole rfl (by rfl) (fun K1 hK1 => ?_)
  refine wp_store_row 43 (.tmp 2) (.tmp 11) rfl gz (firstC s) rfl rfl 43 ZP ZB.out SP.out ZE.out P1.out ?_
  refine hK1 _ _ (below_setRow (Below.refl _ _) (by have := HGZ.out; omega) _) ?_
  clear hK1 K1
  refine ord_end ?_
  have X4 : Hid (Blk (w2.drew.setRow gz (firstC s)) gz 43 (firstC s)) := Lib.hid (setRow_heap _ _ _ _ 43 _ ZB.out)
  have B4 := Lib.hid (bd_setRow B2.out (g := gz) (by have := HGZ.out; omega) (firstC s))
  clear cv ca ZB B2 BX BZ BW
  change Hid (BD w (w2.drew.setRow gz (firstC s))) at B4
  generalize w2.drew.setRow gz (firstC s) = w4 at *
  go_wp2_with fail
  exact bodyPost_ret (results_cell_row rfl _ _ gz 43 (firstC s) (0, 0) _ rfl X4.out Tryz.underlying43 rfl SP.out) rfl ⟨rfl, B4.out⟩
set_option maxHeartbeats 1000000 in
set_option maxRecDepth 100000 in
theorem last_any (s : SpanZ) (w : World) (hs : SixS s) :
    Calls Tryz.prog 68 #[.agg (scells s)] w fun e w' => e = .returned (.agg (lastC s)) ∧ BD w w' := by
  have BX : Hid (SBlk ((w.alloc (.cells (scells s) 62)).alloc (.cells ZP 43)) w.heap.size s) := Lib.hid (Blk.alloc (sbox w s) _)
  have BZ := Lib.hid (Blk.new (w.alloc (.cells (scells s) 62)) 43 ZP)
  have HGZ : Hid ((w.alloc (.cells (scells s) 62)).heap.size = w.heap.size + 1) := Lib.hid (by simp)
  have BW := Lib.hid (BD.step (bd_box w (.cells (scells s) 62)) (bd_box _ (.cells ZP 43)))
  have CB := Lib.hid (fun W => first_any ⟨s.v, s.hi, s.hi⟩ W ⟨hs.2, hs.2⟩)
  have SZ := Lib.hid (Tryz.sizeA hs.2.1)
  have SAZ : Hid ((Tryz.prog.info? 41).map (·.size) = some (acells s.hi).toArray.size) := Lib.hid (by rw [SZ.out]; simp)
  have SP : Hid ((Tryz.prog.info? 43).map (·.size) = some (lastC s).size) := Lib.hid (Tryz.sizeP (v := s.v) (L := mostZ s.v) hs.2.1)
  have ZE : Hid (ZP.size = (lastC s).size) := Lib.hid (by unfold lastC; rw [pcells_size hs.2.1]; rfl)
  have P1 : Hid ((lastC s).all (·.oneCell') = true) := Lib.hid (pcells_one s.v s.hi (mostZ s.v))
  have A1 : Hid ((acells s.hi).toArray.all (·.oneCell') = true) := Lib.hid (Array.all_eq_true_iff_forall_mem.2 (fun v hv => by
    unfold acells at hv
    obtain ⟨x, _, rfl⟩ := List.mem_map.1 (List.mem_toArray.1 hv)
    rfl))
  change Hid (∀ W, Calls Tryz.prog 94 #[.agg (scells ⟨s.v, s.hi, s.hi⟩)] W fun e w' => e = .returned (.agg (lastC s)) ∧ BD W w') at CB
  have ZS := Lib.hid (Tryz.sizeS (s := ⟨s.v, s.hi, s.hi⟩) ⟨hs.2, hs.2⟩)
  go_enter Tryz.func68, Tryz.ntmps68
  go_upto_region 1 with (refine Great.wpList_allocTo rfl (some 2) rfl (.pointer (some ⟨(w.alloc (.cells (scells s) 62)).heap.size, 0, none⟩)) (.cells ZP 43) rfl ?_)
  generalize (w.alloc (.cells (scells s) 62)).alloc (.cells ZP 43) = w2 at *
  generalize (w.alloc (.cells (scells s) 62)).heap.size = gz at *
  have T2 : Hid (w2.there w.heap.size 1 (acells s.hi).toArray.size) := Lib.hid (by rw [show (acells s.hi).toArray.size = 16 by simp [acells_len hs.2.1]]; exact BX.out.thereLo hs)
  have H2 := Lib.hid (BX.out.hi hs)
  have X3 := Lib.hid (SBlk.wholeLo hs hs.2.1 BX.out)
  have Z3 := Lib.hid (Blk.farAll (g := w.heap.size) (g' := gz) (by have := HGZ.out; omega) (acells s.hi) 1 w2 BZ.out)
  have B3 := Lib.hid (bd_setCells BW.out (g := w.heap.size) (Nat.le_refl _) (acells s.hi) 1)
  go_upto_region 2 with (first
    | (refine wpList_load_mid rfl 41 (.tmp 3) rfl w.heap.size 17 rfl (acells s.hi) _ H2.out Tryz.underlying41 rfl SZ.out ?_)
    | (refine wpList_store_mid rfl 41 (.tmp 5) (.tmp 4) rfl w.heap.size 1 (acells s.hi).toArray rfl rfl T2.out SAZ.out A1.out ?_))
  generalize w2.setCells w.heap.size 1 (acells s.hi) = w3 at *
  clear T2 H2 BX BZ BW
  generalize hfc : scells ⟨s.v, s.hi, s.hi⟩ = F at *
  unfold SBlk at X3
  rw [hfc] at X3
  go_wp2_with (first
    | (refine wpList_load_row rfl 62 (.tmp 1) rfl w.heap.size rfl 62 F (0, 0) _ X3.out Tryz.underlying62 rfl ZS.out ?_)
    | (refine (CB.out _).mono ?_
       rintro r w4 ⟨rfl, hb4⟩
       have B4 := Lib.hid (BD.step B3.out hb4)
       have Z4 := Lib.hid (Blk.below Z3.out hb4.1 Z3.out.lt)
       clear hb4)
    | (refine wpList_store_rowTo rfl 43 (.tmp 2) (.tmp 7) rfl rfl gz (lastC s) rfl rfl 43 ZP Z4.out SP.out ZE.out P1.out ?_))
  exact bodyPost_ret (results_cell_row rfl _ _ gz 43 (lastC s) (0, 0) _ rfl (setRow_heap _ _ _ _ 43 _ Z4.out) Tryz.underlying43 rfl SP.out) rfl ⟨rfl, bd_setRow B4.out (by have := HGZ.out; omega) _⟩
end Go.Proofs.YtlmndmfebgaidaaGreatDoor
namespace Go.Proofs.YtlmndmfebgaidaaGreatDoor
open Go.RowKit
set_option linter.unusedVariables false
def nextA (v : Bool) (A : List Int) : List Int := by16 ((aN A + unitZ v) % 2 ^ 128)
theorem next_ok (v : Bool) (A : List Int) : Sixteen (nextA v A) := by16_ok _
theorem next_done {v : Bool} {A B : List Int} (hB : Sixteen B) (e : aN B = aN A + unitZ v) : nextA v A = B := by
  unfold nextA
  rw [← e, Nat.mod_eq_of_lt (aN_lt16 hB), by16_aN hB]
theorem next_over {v : Bool} {A B : List Int} (h : IncAt A (unitZ v) B 0) : nextA v A = B := by
  unfold nextA
  have hl := aN_lt16 h.1
  have e : aN A + unitZ v = aN B + 2 ^ 128 := by
    have := h.2
    rw [show (256 : Nat) ^ (16 - 0) = 2 ^ 128 from rfl] at this
    omega
  rw [e, Nat.add_mod_right, Nat.mod_eq_of_lt hl, by16_aN h.1]
theorem wrap8 {z : Int} (h0 : 0 ≤ z) (h1 : z < 255) : IntKind.u8.wrap (z + 1) = z + 1 := by
  simp [IntKind.wrap, IntKind.bits, IntKind.signed]
  omega
set_option maxHeartbeats 1000000 in
set_option maxRecDepth 100000 in
theorem after_any (v : Bool) (A : List Int) (L : Int) (w : World) (hA : Sixteen A) :
    Calls Tryz.prog 95 #[.agg (pcells v A L)] w fun e w' => e = .returned (.agg (pcells v (nextA v A) L)) ∧ BD w w' := by
  have BX : Hid (PBlk ((w.alloc (.cells (pcells v A L) 43)).alloc (.cells ZP 43)) w.heap.size v A L) := Lib.hid (Blk.alloc (pbox w v A L) _)
  have BZ := Lib.hid (Blk.new (w.alloc (.cells (pcells v A L) 43)) 43 ZP)
  have HGZ : Hid ((w.alloc (.cells (pcells v A L) 43)).heap.size = w.heap.size + 1) := Lib.hid (by simp)
  have BW := Lib.hid (BD.step (bd_box w (.cells (pcells v A L) 43)) (bd_box _ (.cells ZP 43)))
  have CB := Lib.hid (fun W => bytesof_any v W)
  have IN := Lib.hid (inc_start v hA)
  have FT : Hid ((famN v : Int) = ((topZ v + 1 : Nat) : Int)) := Lib.hid (by cases v <;> rfl)
  have T16 : Hid (topZ v + 1 ≤ 16) := Lib.hid (by cases v <;> simp [topZ])
  have mw : IntKind.i64.wrap ((famN v : Int) - 1) = (famN v : Int) - 1 := IntWalk.i64_in _ (by cases v <;> simp [famN])
  have NO := Lib.hid (next_ok v A)
  have cv := BX.out.v
  go_enter Tryz.func95, Tryz.ntmps95
  go_upto_region 1 with (refine Great.wpList_allocTo rfl (some 2) rfl (.pointer (some ⟨(w.alloc (.cells (pcells v A L) 43)).heap.size, 0, none⟩)) (.cells ZP 43) rfl ?_)
  generalize (w.alloc (.cells (pcells v A L) 43)).alloc (.cells ZP 43) = w2 at *
  generalize (w.alloc (.cells (pcells v A L) 43)).heap.size = gz at *
  go_wp2_with (refine (CB.out _).mono ?_; rintro r w3 ⟨rfl, rfl⟩)
  clear CB cv
  generalize pcells v A L = PC at *
  go_loopw [3] (fun iV wr => ∃ (i : Int) (k : Nat) (B : List Int), iV = .int .i64 i ∧ i + 1 = (k : Int) ∧ k ≤ 16 ∧ IncAt A (unitZ v) B k ∧ PBlk wr w.heap.size v B L ∧ Blk wr gz 43 ZP ∧ BD w wr) (fun iV _ => (intOf iV + 1).toNat)
  case atStart => exact ⟨_, _, _, rfl, by have := FT.out; omega, T16.out, IN.out, BX.out, BZ.out, BW.out⟩
  case round =>
    obtain ⟨i, k, B, rfl, hi, hk, hn, hx, hz, hb⟩ := hrel
    have X5 := Lib.hid hx
    have Z5 := Lib.hid hz
    have B5 := Lib.hid hb
    have N5 := Lib.hid hn
    clear hx hz hb hn BX BZ BW IN FT T16 mw
    have ST : Hid (∀ (W : World) (C : List Int), Sixteen C → Hid (nextA v A = C) → Hid (PBlk W w.heap.size v C L) → Hid ((Tryz.prog.info? 43).map (·.size) = some (pcells v C L).size) ∧ Hid (ZP.size = (pcells v C L).size) ∧ Hid ((pcells v C L).all (·.oneCell') = true)) := Lib.hid (fun W C hC _ _ => ⟨Lib.hid (Tryz.sizeP hC.1), Lib.hid (by rw [pcells_size hC.1]; rfl), Lib.hid (pcells_one _ _ _)⟩)
    rcases k with _ | j
    · obtain rfl : i = -1 := by omega
      have NX := Lib.hid (next_over N5.out)
      obtain ⟨SP, ZE, P1⟩ := ST.out wr B N5.out.1 NX X5
      clear N5 hi hk
      go_wp2_with (first
        | (refine wpList_load_row rfl 43 (.tmp 1) rfl w.heap.size rfl 43 (pcells v B L) (0, 0) _ X5.out Tryz.underlying43 rfl SP.out ?_)
        | (refine wpList_store_rowTo rfl 43 (.tmp 2) (.tmp 24) rfl rfl gz (pcells v B L) rfl rfl 43 ZP Z5.out SP.out ZE.out P1.out ?_))
      exact bodyPost_ret (results_cell_row rfl _ _ gz 43 (pcells v B L) (0, 0) _ rfl (setRow_heap _ _ _ _ 43 _ Z5.out) Tryz.underlying43 rfl SP.out) rfl ⟨by rw [NX.out], bd_setRow B5.out (by have := HGZ.out; omega) _⟩
    · obtain rfl : i = (j : Int) := by omega
      have t0 : decide ((0 : Int) ≤ (j : Int)) = true := decide_eq_true (by omega)
      have hj : j < 16 := by omega
      have iI : (j : Int) < 16 := by omega
      have i0 : (0 : Int) ≤ (j : Int) := by omega
      have b16 := N5.out.1.1
      have zr := sixteen_at0 N5.out.1 j hj
      have cz := (Blk.cell X5.out (1 + j)).trans (pcells_a b16 j hj)
      have fz := Blk.free X5.out (1 + j)
      have NC := Lib.hid (fun h => inc_carry N5.out hj h)
      have ND := Lib.hid (fun h => inc_done N5.out hj h)
      have ss := Lib.hid (fun (x : Int) => PBlk.setA X5.out b16 j hj x)
      have zz := Lib.hid (fun (x : Int) => (show Blk (wr.setCell ⟨w.heap.size, 1 + j, none⟩ (.int .u8 x)) gz 43 ZP from Blk.far Z5.out (by have := HGZ.out; omega) (1 + j) _))
      have bb := Lib.hid (fun (x : Int) => bd_setCell B5.out (p := ⟨w.heap.size, 1 + j, none⟩) (Nat.le_refl _) (.int .u8 x))
      have cs := Lib.hid (fun (x : Int) (hx : (B.set j x).length = 16) (e : (B.set j x)[j]?.getD 0 = x) => (show (wr.setCell ⟨w.heap.size, 1 + j, none⟩ (.int .u8 x)).cell? ⟨w.heap.size, 1 + j, none⟩ = some (.int .u8 x) from by
        have := (Blk.cell (ss.out x) (1 + j)).trans (pcells_a hx j hj)
        rw [this, e]))
      have se : ∀ x : Int, (B.set j x).length = 16 ∧ (B.set j x)[j]?.getD 0 = x := fun x => ⟨by rw [List.length_set]; exact b16, by rw [List.getElem?_set_self (by omega)]; rfl⟩
      have jm1 : IntKind.i64.wrap ((j : Int) - 1) = (j : Int) - 1 := IntWalk.i64_in _ (by omega)
      by_cases h255 : B[j]?.getD 0 = 255
      · have wz : IntKind.u8.wrap (B[j]?.getD 0 + 1) = 0 := by rw [h255]; rfl
        have N7 := Lib.hid (NC.out h255)
        have X7 := Lib.hid (ss.out 0)
        have Z7 := Lib.hid (zz.out 0)
        have B7 := Lib.hid (bb.out 0)
        have c7 := cs.out 0 (se 0).1 (se 0).2
        clear NC ND ss zz bb cs se h255 ST N5 b16 Z5 B5 hi
        generalize B[j]?.getD 0 = z at *
        go_upto_region 5 with (fail)
        clear X5 cz fz
        generalize wr.setCell ⟨w.heap.size, 1 + j, none⟩ (.int .u8 0) = w7 at *
        go_wp2_with fail
        go_roundw
        case rel => exact ⟨(j : Int) - 1, j, _, rfl, by omega, by omega, N7.out, X7.out, Z7.out, B7.out⟩
        case measure => simp only [intOf]; omega
      · have wz : IntKind.u8.wrap (B[j]?.getD 0 + 1) = B[j]?.getD 0 + 1 := wrap8 zr.1 (by omega)
        obtain ⟨N7, N8⟩ := ND.out h255
        have NX := Lib.hid (next_done N7 N8)
        have X7 := Lib.hid (ss.out (B[j]?.getD 0 + 1))
        have Z7 := Lib.hid (zz.out (B[j]?.getD 0 + 1))
        have B7 := Lib.hid (bb.out (B[j]?.getD 0 + 1))
        have c7 := cs.out (B[j]?.getD 0 + 1) (se _).1 (se _).2
        obtain ⟨SP, ZE, P1⟩ := ST.out _ _ N7 NX X7
        have nz : (B[j]?.getD 0 + 1 != 0) = true := by simp; omega
        clear NC ND ss zz bb cs se h255 ST N5 b16 Z5 B5 hi N7 N8
        generalize B.set j (B[j]?.getD 0 + 1) = C at *
        generalize hy : B[j]?.getD 0 + 1 = y at *
        generalize B[j]?.getD 0 = z at *
        have HY := Lib.hid hy
        rw [← hy] at wz
        clear hy
        have wz' : IntKind.u8.wrap (z + 1) = y := by rw [wz]; exact HY.out
        clear wz zr
        go_upto_region 5 with (fail)
        clear X5 cz fz
        generalize wr.setCell ⟨w.heap.size, 1 + j, none⟩ (.int .u8 y) = w7 at *
        unfold PBlk at X7
        generalize hpc : pcells v C L = F at *
        go_wp2_with (first
          | (refine wpList_load_row rfl 43 (.tmp 1) rfl w.heap.size rfl 43 F (0, 0) _ X7.out Tryz.underlying43 rfl SP.out ?_)
          | (refine wpList_store_rowTo rfl 43 (.tmp 2) (.tmp 24) rfl rfl gz F rfl rfl 43 ZP Z7.out SP.out ZE.out P1.out ?_))
        exact bodyPost_ret (results_cell_row rfl _ _ gz 43 F (0, 0) _ rfl (setRow_heap _ _ _ _ 43 _ Z7.out) Tryz.underlying43 rfl SP.out) rfl ⟨by rw [NX.out, hpc], bd_setRow B7.out (by have := HGZ.out; omega) _⟩
end Go.Proofs.YtlmndmfebgaidaaGreatDoor
namespace Go.Proofs.YtlmndmfebgaidaaGreatDoor
open Go.RowKit
set_option linter.unusedVariables false
def oneB (L j : Nat) : Int := 2 ^ (8 - keepK L j) - 1
def hiTo (A : List Int) (L i : Nat) : List Int := (List.range 16).map fun j => if j < i then A[j]?.getD 0 + oneB L j else A[j]?.getD 0
def hiA (v : Bool) (A : List Int) (L : Int) : List Int := hiTo A L.toNat (famN v)
end Go.Proofs.YtlmndmfebgaidaaGreatDoor
namespace Go.Proofs.YtlmndmfebgaidaaGreatDoor
open Go.RowKit
set_option linter.unusedVariables false
theorem SBlk.below {w w' : World} {g B : Nat} {s : SpanZ} (h : SBlk w g s) (hb : Below B w w') (hg : g < B) : SBlk w' g s := Blk.below h hb hg
theorem right_end (v : Bool) (A : List Int) : rightA v A (mostZ v) = (v || decide (aN A % 2 ^ 96 = 0)) := by
  cases v
  · unfold rightA mostZ
    simp
  · unfold rightA mostZ
    simp [Nat.mod_one]
theorem cmp_ends (v : Bool) (A B : List Int) : decide (cmpA v A (mostZ v) v B (mostZ v) ≤ 0) = decide (aN A ≤ aN B) := by
  obtain ⟨_, h⟩ := cmp_way v A (mostZ v) v B (mostZ v)
  obtain ⟨h1, h2⟩ := h rfl
  rw [Bool.eq_iff_iff, decide_eq_true_iff, decide_eq_true_iff]
  by_cases e : cmpN (aN A) (aN B) = 0
  · have := (h2 e).2.2 (by omega) (by omega)
    rw [this]
    unfold cmpN at e
    split at e
    · omega
    · split at e <;> omega
  · rw [h1 e]
    unfold cmpN at e ⊢
    split
    · omega
    · split <;> omega
theorem right_three (s : SpanZ) : rightZ s.v s.lo s.hi = (rightA s.v s.lo (mostZ s.v) && rightA s.v s.hi (mostZ s.v) && decide (cmpA s.v s.lo (mostZ s.v) s.v s.hi (mostZ s.v) ≤ 0)) := by
  rw [right_end, right_end, cmp_ends]
  unfold rightZ
  cases s.v <;> simp
theorem most_fits (v : Bool) : -9223372036854775808 ≤ mostZ v ∧ mostZ v ≤ 9223372036854775807 := by cases v <;> simp [mostZ]
theorem two_sboxes (w : World) (s t : SpanZ) :
    SBlk ((w.alloc (.cells (scells s) 62)).alloc (.cells (scells t) 62)) w.heap.size s ∧
    SBlk ((w.alloc (.cells (scells s) 62)).alloc (.cells (scells t) 62)) (w.heap.size + 1) t ∧
    BD w ((w.alloc (.cells (scells s) 62)).alloc (.cells (scells t) 62)) := by
  have h1 := sbox w s
  have h2 := sbox (w.alloc (.cells (scells s) 62)) t
  rw [show (w.alloc (.cells (scells s) 62)).heap.size = w.heap.size + 1 by simp] at h2
  exact ⟨Blk.alloc h1 _, h2, BD.step (bd_box w _) (bd_box _ _)⟩
set_option maxHeartbeats 1000000 in
set_option maxRecDepth 100000 in
theorem sright_any (s : SpanZ) (w : World) (hs : SixS s) :
    Calls Tryz.prog 91 #[.agg (scells s)] w fun e w' => e = .returned (.bool (rightZ s.v s.lo s.hi)) ∧ Below w.heap.size w w' := by
  have BX : Hid (Blk (w.alloc (.cells (scells s) 62)) w.heap.size 62 (scells s)) := Lib.hid (sbox w s)
  have BW := Lib.hid (box_below w (.cells (scells s) 62))
  have SZ := Lib.hid (Tryz.sizeS hs)
  obtain ⟨m0, m1⟩ := most_fits s.v
  have C1 : Hid (∀ W, Calls Tryz.prog 94 #[.agg (scells s)] W fun e w' => e = .returned (.agg (firstC s)) ∧ Below W.heap.size W w') := Lib.hid (fun W => (first_any s W hs).mono (fun _ _ h => ⟨h.1, h.2.1⟩))
  have C2 : Hid (∀ W, Calls Tryz.prog 68 #[.agg (scells s)] W fun e w' => e = .returned (.agg (lastC s)) ∧ Below W.heap.size W w') := Lib.hid (fun W => (last_any s W hs).mono (fun _ _ h => ⟨h.1, h.2.1⟩))
  have C3 : Hid (∀ W, Calls Tryz.prog 24 #[.agg (firstC s)] W fun e w' => e = .returned (.bool (rightA s.v s.lo (mostZ s.v))) ∧ Below W.heap.size W w') := Lib.hid (fun W => right_any s.v s.lo (mostZ s.v) W hs.1 m0 m1)
  have C4 : Hid (∀ W, Calls Tryz.prog 24 #[.agg (lastC s)] W fun e w' => e = .returned (.bool (rightA s.v s.hi (mostZ s.v))) ∧ Below W.heap.size W w') := Lib.hid (fun W => right_any s.v s.hi (mostZ s.v) W hs.2 m0 m1)
  have C5 : Hid (∀ W, Calls Tryz.prog 67 #[.agg (firstC s), .agg (lastC s)] W fun e w' => e = .returned (.int .i64 (cmpA s.v s.lo (mostZ s.v) s.v s.hi (mostZ s.v))) ∧ Below W.heap.size W w') := Lib.hid (fun W => (pcmp_any s.v s.lo (mostZ s.v) s.v s.hi (mostZ s.v) W hs.1 hs.2).mono (fun _ _ h => ⟨h.1, h.2.1⟩))
  have RZ := Lib.hid (right_three s)
  clear hs m0 m1
  go_enter Tryz.func91, Tryz.ntmps91
  generalize rightZ s.v s.lo s.hi = z at *
  generalize firstC s = P at *
  generalize lastC s = Q at *
  generalize rightA s.v s.lo (mostZ s.v) = b1 at *
  generalize rightA s.v s.hi (mostZ s.v) = b2 at *
  generalize cmpA s.v s.lo (mostZ s.v) s.v s.hi (mostZ s.v) = c at *
  generalize scells s = F at *
  generalize hw2 : w.alloc (.cells F 62) = w2 at *
  go_wp2_with fail
  clear hw2
  have X4 : Hid (Blk w2.drew w.heap.size 62 F) := Lib.hid (show Blk w2.drew w.heap.size 62 F from BX.out)
  have B4 : Hid (Below w.heap.size w w2.drew) := Lib.hid (Below.step BW.out (drewN_below w2 1))
  clear BX BW
  refine wp_region_ord Ext Ext.refl (fun _ _ _ => Ext.trans) ((0, false) :: (1, true) :: (2, true) :: (3, false) :: (4, false) :: (5, true) :: (6, true) :: (7, false) :: (8, false) :: (9, false) :: (11, false) :: (10, true) :: (12, true) :: (13, true) :: (14, false) :: (15, false) :: (16, false) :: []) (by kernel_rfl) (by kernel_rfl) rfl (by kernel_rfl) (fun _ _ _ _ _ h => h) ?_
  generalize w2.drew = w4 at *
  cases b1 with
  | false =>
    repeat (first
      | (refine ord_skip rfl (by rfl) ?_; simp only [Act.put, List.setIfInBounds_toArray, List.set_cons_zero, List.set_cons_succ])
      | (refine ord_take _ rfl (by rfl) (fun W hW => yields_row 62 (.tmp 1) rfl w.heap.size 62 F _ rfl (Blk.below X4.out hW X4.out.lt) Tryz.underlying62 rfl SZ.out) ?_; simp only [Act.put, List.setIfInBounds_toArray, List.set_cons_zero, List.set_cons_succ])
      | (refine ord_take _ rfl (by rfl) (fun W hW => by go_simp; first | done | rfl) ?_; simp only [Act.put, List.setIfInBounds_toArray, List.set_cons_zero, List.set_cons_succ])
      | (refine ord_sole rfl (by rfl) (fun K1 hK1 => ?_)
         go_simp
         first
           | refine (C1.out _).mono ?_
           | refine (C3.out _).mono ?_
         rintro r w5 ⟨rfl, hb5⟩
         refine hK1 _ _ hb5 ?_
         clear hK1 K1
         replace X4 := Lib.hid (X4.out.below hb5 X4.out.lt)
         replace B4 := Lib.hid (Below.step B4.out hb5)
         clear hb5))
    refine ord_end ?_
    go_wp2_with fail
    go_ret
    exact ⟨by rw [RZ.out]; rfl, B4.out⟩
  | true =>
    cases b2 with
    | false =>
      repeat (first
        | (refine ord_skip rfl (by rfl) ?_; simp only [Act.put, List.setIfInBounds_toArray, List.set_cons_zero, List.set_cons_succ])
        | (refine ord_take _ rfl (by rfl) (fun W hW => yields_row 62 (.tmp 1) rfl w.heap.size 62 F _ rfl (Blk.below X4.out hW X4.out.lt) Tryz.underlying62 rfl SZ.out) ?_; simp only [Act.put, List.setIfInBounds_toArray, List.set_cons_zero, List.set_cons_succ])
        | (refine ord_take _ rfl (by rfl) (fun W hW => by go_simp; first | done | rfl) ?_; simp only [Act.put, List.setIfInBounds_toArray, List.set_cons_zero, List.set_cons_succ])
        | (refine ord_sole rfl (by rfl) (fun K1 hK1 => ?_)
           go_simp
           first
             | refine (C1.out _).mono ?_
             | refine (C2.out _).mono ?_
             | (refine (C3.out _).mono ?_; clear C3)
             | refine (C4.out _).mono ?_
           rintro r w5 ⟨rfl, hb5⟩
           refine hK1 _ _ hb5 ?_
           clear hK1 K1
           replace X4 := Lib.hid (X4.out.below hb5 X4.out.lt)
           replace B4 := Lib.hid (Below.step B4.out hb5)
           clear hb5))
      refine ord_end ?_
      go_wp2_with fail
      go_ret
      exact ⟨by rw [RZ.out]; rfl, B4.out⟩
    | true =>
      obtain ⟨d, hd⟩ : ∃ d, decide (c ≤ 0) = d := ⟨_, rfl⟩
      rw [hd] at RZ
      repeat (first
        | (refine ord_skip rfl (by rfl) ?_; simp only [Act.put, List.setIfInBounds_toArray, List.set_cons_zero, List.set_cons_succ])
        | (refine ord_take _ rfl (by rfl) (fun W hW => yields_row 62 (.tmp 1) rfl w.heap.size 62 F _ rfl (Blk.below X4.out hW X4.out.lt) Tryz.underlying62 rfl SZ.out) ?_; simp only [Act.put, List.setIfInBounds_toArray, List.set_cons_zero, List.set_cons_succ])
        | (refine ord_take _ rfl (by rfl) (fun W hW => by go_simp; first | done | rfl) ?_; simp only [Act.put, List.setIfInBounds_toArray, List.set_cons_zero, List.set_cons_succ])
        | (refine ord_sole rfl (by rfl) (fun K1 hK1 => ?_)
           go_simp
           first
             | refine (C1.out _).mono ?_
             | refine (C2.out _).mono ?_
             | (refine (C3.out _).mono ?_; clear C3)
             | refine (C4.out _).mono ?_
             | refine (C5.out _).mono ?_
           rintro r w5 ⟨rfl, hb5⟩
           refine hK1 _ _ hb5 ?_
           clear hK1 K1
           replace X4 := Lib.hid (X4.out.below hb5 X4.out.lt)
           replace B4 := Lib.hid (Below.step B4.out hb5)
           clear hb5))
      refine ord_end ?_
      go_wp2_with fail
      go_ret
      exact ⟨by rw [RZ.out]; rfl, B4.out⟩
end Go.Proofs.YtlmndmfebgaidaaGreatDoor
