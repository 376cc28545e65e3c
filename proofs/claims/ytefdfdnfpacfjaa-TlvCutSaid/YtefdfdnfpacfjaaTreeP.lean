/-
  An element in memory, and where it lies: all that it leads to lies in blocks of a kind. And elements that a call itself collects. Nothing of the program is named here but the types.
-/
import Derived.Test.YtefdfdnfpacfjaaTree
import Derived.Test.YtefdfdnfpacfjaaOut
import Derived.Maps.AppendAt
namespace Go.Proofs.Ytefdfdnfpacfjaa
open Go.RowKit

mutual
/-- The value reads as this element, and all that it leads to lies in blocks that are P. -/
def T.InP (P : Nat → Prop) (w : World) : T → Value → Prop
  | .node tag body kids, v => ∃ (A : Option Addr) (n c : Nat) (K : Option Addr) (m d : Nat), v = .agg #[.int .i64 tag, .slice A n c, .slice K m d] ∧ (Lit.int .i64 tag).wf = true ∧ Row w A n body ∧ n ≤ maxLen ∧ (A = none → c = 0) ∧ kids.length = m ∧ m ≤ maxLen ∧
      (0 < n → ∃ b off, A = some ⟨b, off, none⟩ ∧ P b) ∧ (0 < m → ∃ b off, K = some ⟨b, off, none⟩ ∧ b < w.heap.size ∧ P b ∧ T.InPAll P w kids b off)
def T.InPAll (P : Nat → Prop) (w : World) : List T → Nat → Nat → Prop
  | [], _, _ => True
  | t :: r, b, off => (∃ v0 v1 v2 : Value, w.cell? ⟨b, off, none⟩ = some v0 ∧ w.cell? ⟨b, off + 1, none⟩ = some v1 ∧ w.cell? ⟨b, off + 2, none⟩ = some v2 ∧ T.InP P w t (.agg #[v0, v1, v2])) ∧ T.InPAll P w r b (off + 3)
end
theorem T.InPAll.at {P : Nat → Prop} {w : World} : ∀ {ts : List T} {b off : Nat}, T.InPAll P w ts b off → ∀ (i : Nat) (h : i < ts.length), ∃ v0 v1 v2 : Value, w.cell? ⟨b, off + i * 3, none⟩ = some v0 ∧ w.cell? ⟨b, off + i * 3 + 1, none⟩ = some v1 ∧ w.cell? ⟨b, off + i * 3 + 2, none⟩ = some v2 ∧ T.InP P w ts[i] (.agg #[v0, v1, v2])
  | [], _, _, _, _, h => absurd h (by simp)
  | t :: r, b, off, h, 0, _ => by
    unfold T.InPAll at h
    simpa using h.1
  | t :: r, b, off, h, i + 1, hi => by
    unfold T.InPAll at h
    have := T.InPAll.at h.2 i (by simpa using hi)
    rw [show off + 3 + i * 3 = off + (i + 1) * 3 by omega] at this
    simpa using this
theorem T.InPAll.of {P : Nat → Prop} {w : World} : ∀ {ts : List T} {b off : Nat}, (∀ (i : Nat) (h : i < ts.length), ∃ v0 v1 v2 : Value, w.cell? ⟨b, off + i * 3, none⟩ = some v0 ∧ w.cell? ⟨b, off + i * 3 + 1, none⟩ = some v1 ∧ w.cell? ⟨b, off + i * 3 + 2, none⟩ = some v2 ∧ T.InP P w ts[i] (.agg #[v0, v1, v2])) → T.InPAll P w ts b off
  | [], _, _, _ => by
    unfold T.InPAll
    trivial
  | t :: r, b, off, h => by
    unfold T.InPAll
    refine ⟨by
      have h0 := h 0 (by simp)
      rw [List.getElem_cons_zero, Nat.zero_mul, Nat.add_zero] at h0
      exact h0, T.InPAll.of fun i hi => ?_⟩
    have := h (i + 1) (by simpa using hi)
    rw [show off + (i + 1) * 3 = off + 3 + i * 3 by omega] at this
    simpa using this

/-- It lies there still where those blocks are as they were. -/
theorem T.InP.keep {P Q : Nat → Prop} {w w' : World} (hP : ∀ b, b < w.heap.size → P b → Q b ∧ w'.heap[b]? = w.heap[b]?) (hs : w.heap.size ≤ w'.heap.size) (t : T) : ∀ {v : Value}, t.InP P w v → t.InP Q w' v := by
  refine T.all (p := fun t => ∀ {v : Value}, t.InP P w v → t.InP Q w' v) ?_ t
  intro tag body kids ih v h
  unfold T.InP at h ⊢
  obtain ⟨A, n, c, K, m, d, rfl, hw, hr, hn, hc, hm, hm', hp, hk⟩ := h
  refine ⟨A, n, c, K, m, d, rfl, hw, ⟨hr.1, hr.2.1, fun h0 => ?_⟩, hn, hc, hm, hm', fun h0 => ?_, fun h0 => ?_⟩
  · obtain ⟨b, off, e, hb, hcell⟩ := hr.2.2 h0
    obtain ⟨b', off', e', hb'⟩ := hp h0
    rw [e] at e'
    obtain ⟨rfl, rfl⟩ : b = b' ∧ off = off' := by simpa using e'
    refine ⟨b, off, e, by omega, fun i hi => ?_⟩
    rw [← hcell i hi]
    simp only [World.cell?, (hP b hb hb').2]
  · obtain ⟨b, off, e, hb, _⟩ := hr.2.2 h0
    obtain ⟨b', off', e', hb'⟩ := hp h0
    rw [e] at e'
    obtain ⟨rfl, rfl⟩ : b = b' ∧ off = off' := by simpa using e'
    exact ⟨b, off, e, (hP b hb hb').1⟩
  · obtain ⟨b, off, e, hlt, hb, ha⟩ := hk h0
    refine ⟨b, off, e, by omega, (hP b hlt hb).1, T.InPAll.of fun i hi => ?_⟩
    obtain ⟨v0, v1, v2, h0, h1, h2, h3⟩ := ha.at i hi
    refine ⟨v0, v1, v2, ?_, ?_, ?_, ih _ (List.getElem_mem hi) h3⟩
    · rw [← h0]
      simp only [World.cell?, (hP b hlt hb).2]
    · rw [← h1]
      simp only [World.cell?, (hP b hlt hb).2]
    · rw [← h2]
      simp only [World.cell?, (hP b hlt hb).2]
theorem T.InP.in {P : Nat → Prop} {w : World} (t : T) : ∀ {v : Value}, t.InP P w v → t.In w v := by
  refine T.all (p := fun t => ∀ {v : Value}, t.InP P w v → t.In w v) ?_ t
  intro tag body kids ih v h
  unfold T.InP at h
  unfold T.In
  obtain ⟨A, n, c, K, m, d, rfl, hw, hr, hn, hc, hm, hm', hp, hk⟩ := h
  refine ⟨A, n, c, K, m, d, rfl, hw, hr, hn, hc, hm, hm', fun h0 => ?_⟩
  obtain ⟨b, off, e, hlt, hb, ha⟩ := hk h0
  refine ⟨b, off, e, hlt, T.InAll.of fun i hi => ?_⟩
  obtain ⟨v0, v1, v2, h0, h1, h2, h3⟩ := ha.at i hi
  exact ⟨v0, v1, v2, h0, h1, h2, ih _ (List.getElem_mem hi) h3⟩
theorem T.InP.below {P Q : Nat → Prop} {w w' : World} (hb : Below w.heap.size w w') (hq : ∀ b, P b → Q b) (t : T) {v : Value} (h : t.InP P w v) : t.InP Q w' v :=
  T.InP.keep (fun b hlt hp => ⟨hq b hp, hb.block b hlt⟩) hb.size t h
theorem T.InP.form {P : Nat → Prop} {w : World} {t : T} {v : Value} (h : t.InP P w v) : ∃ (A : Option Addr) (n c : Nat) (K : Option Addr) (m d : Nat), v = .agg #[.int .i64 t.tag, .slice A n c, .slice K m d] := by
  obtain ⟨A, n, c, K, m, d, e, _⟩ := (T.InP.in t h).open
  exact ⟨A, n, c, K, m, d, e⟩

theorem Try.infoNode : (Try.prog.info? 26).map (fun i => (i.zero, i.size, i.bytes)) = some (some (.agg #[.int .i64 0, .slice none 0 0, .slice none 0 0]), 3, 56) := by kernel_rfl

/-- What is kept apart while elements are collected: it is behind block g, and not the collection's own. -/
def Apart (g : Nat) (V : Value) (b : Nat) : Prop := g < b ∧ V.ownBlock ≠ some b

/-- The slice V is the call's own, in memory newer than W0, and holds these elements, none of which lies in block g or in V's. -/
def NOut (W0 wr : World) (g : Nat) (V : Value) (ks : List T) : Prop :=
  Below W0.heap.size W0 wr ∧ ∃ xs : List Value, wr.ownsRow W0.heap.size 26 3 V ks.length xs ∧
    ∀ i (h : i < ks.length), ∃ v0 v1 v2 : Value, xs[i * 3]? = some v0 ∧ xs[i * 3 + 1]? = some v1 ∧ xs[i * 3 + 2]? = some v2 ∧ (ks[i]).InP (Apart g V) wr (.agg #[v0, v1, v2])
theorem NOut.start {W0 wr : World} (hb : Below W0.heap.size W0 wr) (g : Nat) : NOut W0 wr g (.slice none 0 0) [] :=
  ⟨hb, [], World.ownsRow_nil _ _ _ _, fun i h => absurd h (by simp)⟩
theorem NOut.below {W0 wr w' : World} {g : Nat} {V : Value} {ks : List T} (h : NOut W0 wr g V ks) (hb : Below wr.heap.size wr w') : NOut W0 w' g V ks := by
  obtain ⟨h1, xs, h2, h3⟩ := h
  refine ⟨Below.trans h1 (hb.mono h1.size), xs, ⟨h2.1, ?_⟩, fun i hi => ?_⟩
  · rcases h2.2 with h' | ⟨g, cap, cur, e, h1, h2, h3⟩
    · exact .inl h'
    · exact .inr ⟨g, cap, cur, e, h1, (hb.block g (Array.getElem?_eq_some_iff.1 h2).1).trans h2, h3⟩
  · obtain ⟨v0, v1, v2, e0, e1, e2, hin⟩ := h3 i hi
    exact ⟨v0, v1, v2, e0, e1, e2, T.InP.below hb (fun _ h => h) _ hin⟩
/-- A store into block g. -/
theorem NOut.store {W0 wr : World} {g : Nat} {V : Value} {ks : List T} (h : NOut W0 wr g V ks) (hg : W0.heap.size ≤ g) (hV : V.ownBlock ≠ some g) (j : Nat) (v : Value) : NOut W0 (wr.setCell ⟨g, j, none⟩ v) g V ks := by
  obtain ⟨h1, xs, h2, h3⟩ := h
  refine ⟨h1.setCell (by show W0.heap.size ≤ g; exact hg) _, xs, ⟨h2.1, ?_⟩, fun i hi => ?_⟩
  · rcases h2.2 with h' | ⟨g', cap, cur, e, h1, h2, h3⟩
    · exact .inl h'
    · refine .inr ⟨g', cap, cur, e, h1, ?_, h3⟩
      rw [← h2]
      exact heap_setCell_other wr ⟨g, j, none⟩ g' v (fun he => hV (by have he' : g' = g := he; rw [e, he']; rfl))
  · obtain ⟨v0, v1, v2, e0, e1, e2, hin⟩ := h3 i hi
    refine ⟨v0, v1, v2, e0, e1, e2, T.InP.keep (fun b hb hp => ⟨hp, ?_⟩) (by simp) _ hin⟩
    exact heap_setCell_other wr ⟨g, j, none⟩ b v (fun he => by
      have he' : b = g := he
      have := hp.1
      omega)
theorem NOut.form {W0 wr : World} {g : Nat} {V : Value} {ks : List T} (h : NOut W0 wr g V ks) : ∃ (K : Option Addr) (d : Nat), V = .slice K ks.length d := by
  obtain ⟨_, xs, h2, _⟩ := h
  rcases h2.2 with ⟨rfl, h0⟩ | ⟨g', cap, cur, e, _⟩
  · exact ⟨none, 0, by rw [h0]⟩
  · exact ⟨_, cap, e⟩

/-- One more is appended: it was laid in a new block of three cells. -/
theorem nout_append {ops : Array Oper} {rest : List Oper} {o : Oper} {a : Act} {Q : Exit → Act → World → Prop} {W0 wr : World} {g : Nat} {V : Value} {ks : List T} {t : T} {v0 v1 v2 : Value} (hgd : o.guard = none) (x y : Operand)
    (hop : o.op = .call { callee := .builtin .append, args := #[x, y], argTypes := #[24, 24] }) (hs : a.eval x = V) (hout : NOut W0 wr g V ks) (hin : t.InP (Apart g V) wr (.agg #[v0, v1, v2]))
    (H : Nat) (hH : wr.heap.size = H) (hx : a.eval y = .slice (some ⟨H, 0, none⟩) 1 1) (hl : ks.length + 1 ≤ 100000)
    (h : ∀ V' w', NOut W0 w' g V' (ks ++ [t]) → (V'.ownBlock = V.ownBlock ∨ V'.ownBlock = some (wr.heap.size + 1)) → (∀ b, b < wr.heap.size → V.ownBlock ≠ some b → w'.heap[b]? = wr.heap[b]?) → Below W0.heap.size wr w' → wpList Try.prog ops Q rest (a.put o.dst V') w') :
    wpList Try.prog ops Q (o :: rest) a (wr.alloc (.cells #[v0, v1, v2] 26)) := by
  subst hH
  obtain ⟨i0, hi5, hz0, hz1, hz2⟩ := info_parts Try.infoNode
  obtain ⟨hb0, xs, hown, hks⟩ := hout
  have hown2 := hown.alloc (.cells #[v0, v1, v2] 26)
  have hsz : (wr.alloc (.cells #[v0, v1, v2] 26)).heap.size = wr.heap.size + 1 := by simp
  obtain ⟨A, n, c, K, m, d, e⟩ := hin.form
  simp only [Value.agg.injEq] at e
  have e' := congrArg Array.toList e
  simp only [List.cons.injEq, and_true] at e'
  obtain ⟨rfl, rfl, rfl⟩ := e'
  refine wpList_append_own_at _ hgd x y 24 hop W0.heap.size 26 i0 _ 3 56 Try.underlying24 hi5 hz0 hz1 hz2 rfl (by decide) V ks.length xs hs hown2 ⟨wr.heap.size, 0, none⟩ 1 1 [.int .i64 t.tag, .slice A n c, .slice K m d] hx rfl ?_ ?_ (by unfold maxLen; omega) (by omega) (by have := hb0.size; omega) ?_
  · intro j u hu
    have e0 := heap_alloc_new wr (.cells #[.int .i64 t.tag, .slice A n c, .slice K m d] 26)
    rcases j with _ | _ | _ | j
    · obtain rfl : Value.int .i64 t.tag = u := by simpa using hu
      simp only [Addr.add_lit, World.cell?, e0]
      rfl
    · obtain rfl : Value.slice A n c = u := by simpa using hu
      simp only [Addr.add_lit, World.cell?, e0]
      rfl
    · obtain rfl : Value.slice K m d = u := by simpa using hu
      simp only [Addr.add_lit, World.cell?, e0]
      rfl
    · simp at hu
  · intro u hu
    simp only [List.mem_cons, List.mem_nil_iff, or_false] at hu
    rcases hu with rfl | rfl | rfl <;> rfl
  · intro V' w' h1 hg1 _ hat
    have hkeep : ∀ b, b < wr.heap.size → V.ownBlock ≠ some b → w'.heap[b]? = wr.heap[b]? := fun b hb hne =>
      (hg1.block b (by omega) (fun e => hne e.symm)).trans (Below.heap_alloc wr _ b hb)
    have hAp : ∀ b, b < wr.heap.size → Apart g V b → Apart g V' b ∧ w'.heap[b]? = wr.heap[b]? := by
      intro b hb hp
      refine ⟨⟨hp.1, ?_⟩, hkeep b hb hp.2⟩
      rcases hat with h' | h'
      · rw [h']
        exact hp.2
      · rw [h', hsz]
        intro e
        injection e with e
        omega
    have hsz2 : wr.heap.size ≤ w'.heap.size := by have := hg1.size; omega
    have hB : Below W0.heap.size wr w' := ((Below.refl _ _).alloc hb0.size (.cells #[.int .i64 t.tag, .slice A n c, .slice K m d] 26)).grown hg1 (by have := hb0.size; omega) (fun k hk => (hown2.lt k hk).1)
    refine h V' w' ⟨hb0.trans hB, xs ++ [.int .i64 t.tag, .slice A n c, .slice K m d], by rw [List.length_append]; exact h1, fun i hi => ?_⟩ ?_ hkeep hB
    · have hxl : xs.length = ks.length * 3 := hown.1
      rcases Nat.lt_or_ge i ks.length with hlt | hge
      · obtain ⟨u0, u1, u2, e0, e1, e2, hin'⟩ := hks i hlt
        refine ⟨u0, u1, u2, ?_, ?_, ?_, ?_⟩
        · rw [List.getElem?_append_left (by omega)]; exact e0
        · rw [List.getElem?_append_left (by omega)]; exact e1
        · rw [List.getElem?_append_left (by omega)]; exact e2
        · rw [List.getElem_append_left hlt]
          exact T.InP.keep hAp hsz2 _ hin'
      · obtain rfl : i = ks.length := by simp at hi; omega
        refine ⟨.int .i64 t.tag, .slice A n c, .slice K m d, ?_, ?_, ?_, ?_⟩
        · rw [List.getElem?_append_right (by omega), show ks.length * 3 - xs.length = 0 by omega]; rfl
        · rw [List.getElem?_append_right (by omega), show ks.length * 3 + 1 - xs.length = 1 by omega]; rfl
        · rw [List.getElem?_append_right (by omega), show ks.length * 3 + 2 - xs.length = 2 by omega]; rfl
        · rw [List.getElem_append_right (Nat.le_refl _)]
          simp only [Nat.sub_self, List.getElem_singleton]
          exact T.InP.keep hAp hsz2 _ hin
    · rw [← hsz]
      exact hat

/-- What was collected, as an element's own. -/
theorem NOut.done {W0 wr : World} {g : Nat} {V : Value} {ks : List T} (h : NOut W0 wr g V ks) (hg : W0.heap.size ≤ g) {z : Int} (hz : (Lit.int .i64 z).wf = true) : (T.node z [] ks).InP (W0.heap.size ≤ ·) wr (.agg #[.int .i64 z, .slice none 0 0, V]) := by
  obtain ⟨hb, xs, hown, hks⟩ := h
  unfold T.InP
  have hxl : xs.length = ks.length * 3 := hown.1
  rcases hown.2 with ⟨rfl, h0⟩ | ⟨g', cap, cur, rfl, h1, h2, h3, h4, h5⟩
  · have : ks = [] := List.eq_nil_of_length_eq_zero h0
    subst this
    exact ⟨none, 0, 0, none, 0, 0, rfl, hz, Row.nil _ _, Nat.zero_le _, fun _ => rfl, rfl, Nat.zero_le _, fun h => absurd h (by omega), fun h => absurd h (by omega)⟩
  · refine ⟨none, 0, 0, some ⟨g', 0, none⟩, ks.length, cap, rfl, hz, Row.nil _ _, Nat.zero_le _, fun _ => rfl, rfl, Nat.le_trans h3 h4, fun h => absurd h (by omega), fun _ => ⟨g', 0, rfl, (Array.getElem?_eq_some_iff.1 h2).1, h1, T.InPAll.of fun i hi => ?_⟩⟩
    obtain ⟨u0, u1, u2, e0, e1, e2, hin'⟩ := hks i hi
    refine ⟨u0, u1, u2, ?_, ?_, ?_, T.InP.keep (fun b _ hp => ⟨by have := hp.1; omega, rfl⟩) (Nat.le_refl _) _ hin'⟩
    · rw [Nat.zero_add, hown.cellAt _ (by omega)]; exact e0
    · rw [Nat.zero_add, hown.cellAt _ (by omega)]; exact e1
    · rw [Nat.zero_add, hown.cellAt _ (by omega)]; exact e2

end Go.Proofs.Ytefdfdnfpacfjaa
