/-
  An element (package api's Node) in memory, as a tree: its tag, its bytes, and the elements within it. Nothing of the program is named here but the types.
-/
import Derived.Test.YtefdfdnfpacfjaaRows
import Derived.Test.YtefdfdnfpacfjaaMath
import Derived.WalkKit
import Derived.WalkSpells
import Derived.WalkLawsBesides
import Derived.Deep.QuietTactic
import Derived.BigQuiet
import Derived.Lib.Hide
namespace Go.Proofs.Ytefdfdnfpacfjaa
open Go.RowKit

/-- An element: its tag, its bytes, the elements within it. -/
inductive T where
  | node (tag : Int) (body : List Int) (kids : List T)

theorem T.all {p : T → Prop} (h : ∀ tag body kids, (∀ t ∈ kids, p t) → p (.node tag body kids)) (t : T) : p t :=
  T.rec (motive_1 := p) (motive_2 := fun l => ∀ t ∈ l, p t) (fun tag body kids ih => h tag body kids ih) (fun _ hm => absurd hm (by simp))
    (fun t r h1 h2 x hx => by
      rcases List.mem_cons.1 hx with e | hx
      · rw [e]
        exact h1
      · exact h2 x hx) t

mutual
/-- The value reads as this element, and all that it leads to lies in blocks of this world. -/
def T.In (w : World) : T → Value → Prop
  | .node tag body kids, v => ∃ (A : Option Addr) (n c : Nat) (K : Option Addr) (m d : Nat), v = .agg #[.int .i64 tag, .slice A n c, .slice K m d] ∧ (Lit.int .i64 tag).wf = true ∧ Row w A n body ∧ n ≤ maxLen ∧ (A = none → c = 0) ∧ kids.length = m ∧ m ≤ maxLen ∧
      (0 < m → ∃ b off, K = some ⟨b, off, none⟩ ∧ b < w.heap.size ∧ T.InAll w kids b off)
/-- They lie there one behind the other, three cells each. -/
def T.InAll (w : World) : List T → Nat → Nat → Prop
  | [], _, _ => True
  | t :: r, b, off => (∃ v0 v1 v2 : Value, w.cell? ⟨b, off, none⟩ = some v0 ∧ w.cell? ⟨b, off + 1, none⟩ = some v1 ∧ w.cell? ⟨b, off + 2, none⟩ = some v2 ∧ T.In w t (.agg #[v0, v1, v2])) ∧ T.InAll w r b (off + 3)
end

/-- One of them. -/
theorem T.InAll.at {w : World} : ∀ {ts : List T} {b off : Nat}, T.InAll w ts b off → ∀ (i : Nat) (h : i < ts.length), ∃ v0 v1 v2 : Value, w.cell? ⟨b, off + i * 3, none⟩ = some v0 ∧ w.cell? ⟨b, off + i * 3 + 1, none⟩ = some v1 ∧ w.cell? ⟨b, off + i * 3 + 2, none⟩ = some v2 ∧ T.In w ts[i] (.agg #[v0, v1, v2])
  | [], _, _, _, _, h => absurd h (by simp)
  | t :: r, b, off, h, 0, _ => by
    unfold T.InAll at h
    simpa using h.1
  | t :: r, b, off, h, i + 1, hi => by
    unfold T.InAll at h
    have := T.InAll.at h.2 i (by simpa using hi)
    rw [show off + 3 + i * 3 = off + (i + 1) * 3 by omega] at this
    simpa using this
theorem T.InAll.of {w : World} : ∀ {ts : List T} {b off : Nat}, (∀ (i : Nat) (h : i < ts.length), ∃ v0 v1 v2 : Value, w.cell? ⟨b, off + i * 3, none⟩ = some v0 ∧ w.cell? ⟨b, off + i * 3 + 1, none⟩ = some v1 ∧ w.cell? ⟨b, off + i * 3 + 2, none⟩ = some v2 ∧ T.In w ts[i] (.agg #[v0, v1, v2])) → T.InAll w ts b off
  | [], _, _, _ => by
    unfold T.InAll
    trivial
  | t :: r, b, off, h => by
    unfold T.InAll
    refine ⟨by
      have h0 := h 0 (by simp)
      rw [List.getElem_cons_zero, Nat.zero_mul, Nat.add_zero] at h0
      exact h0, T.InAll.of fun i hi => ?_⟩
    have := h (i + 1) (by simpa using hi)
    rw [show off + (i + 1) * 3 = off + 3 + i * 3 by omega] at this
    simpa using this

/-- It lies there still in a world that goes on from this one. -/
theorem T.In.below {w w' : World} (hb : Below w.heap.size w w') (t : T) : ∀ {v : Value}, t.In w v → t.In w' v := by
  refine T.all (p := fun t => ∀ {v : Value}, t.In w v → t.In w' v) ?_ t
  intro tag body kids ih v h
  unfold T.In at h ⊢
  obtain ⟨A, n, c, K, m, d, rfl, hw, hr, hn, hc, hm, hm', hk⟩ := h
  refine ⟨A, n, c, K, m, d, rfl, hw, hr.below hb, hn, hc, hm, hm', fun h0 => ?_⟩
  obtain ⟨b, off, e, hlt, ha⟩ := hk h0
  refine ⟨b, off, e, Nat.lt_of_lt_of_le hlt hb.size, T.InAll.of fun i hi => ?_⟩
  obtain ⟨v0, v1, v2, h0, h1, h2, h3⟩ := ha.at i hi
  exact ⟨v0, v1, v2, (hb.cell (p := ⟨b, off + i * 3, none⟩) hlt).trans h0, (hb.cell (p := ⟨b, off + i * 3 + 1, none⟩) hlt).trans h1, (hb.cell (p := ⟨b, off + i * 3 + 2, none⟩) hlt).trans h2, ih _ (List.getElem_mem hi) h3⟩
theorem T.In.drewN {w : World} {t : T} {v : Value} (h : t.In w v) (k : Nat) : t.In (w.drewN k) v := T.In.below (w := w) (w' := w.drewN k) ⟨rfl, rfl, rfl, Nat.le_refl _, fun _ _ => rfl⟩ t h

def T.tag : T → Int | .node t _ _ => t
def T.body : T → List Int | .node _ b _ => b
def T.kids : T → List T | .node _ _ k => k

theorem T.each {p : T → Prop} (h : ∀ t, (∀ k ∈ t.kids, p k) → p t) (t : T) : p t := T.all (fun tag body kids ih => h (.node tag body kids) ih) t

/-- Its three cells. -/
theorem T.In.open {w : World} {t : T} {v : Value} (h : t.In w v) : ∃ (A : Option Addr) (n c : Nat) (K : Option Addr) (m d : Nat), v = .agg #[.int .i64 t.tag, .slice A n c, .slice K m d] ∧ (Lit.int .i64 t.tag).wf = true ∧ Row w A n t.body ∧ n ≤ maxLen ∧ (A = none → c = 0) ∧ t.kids.length = m ∧ m ≤ maxLen ∧
      (∀ i, i < m → ∃ b off, K = some ⟨b, off, none⟩ ∧ b < w.heap.size ∧ ∃ v0 v1 v2 : Value, w.cell? ⟨b, off + i * 3, none⟩ = some v0 ∧ w.cell? ⟨b, off + i * 3 + 1, none⟩ = some v1 ∧ w.cell? ⟨b, off + i * 3 + 2, none⟩ = some v2 ∧ (t.kids[i]?.getD (.node 0 [] [])).In w (.agg #[v0, v1, v2])) := by
  obtain ⟨tag, body, kids⟩ := t
  unfold T.In at h
  obtain ⟨A, n, c, K, m, d, rfl, hw, hr, hn, hc, hm, hm', hk⟩ := h
  refine ⟨A, n, c, K, m, d, rfl, hw, hr, hn, hc, hm, hm', fun i hi => ?_⟩
  obtain ⟨b, off, e, hlt, ha⟩ := hk (by omega)
  have hi' : i < kids.length := by omega
  obtain ⟨v0, v1, v2, h⟩ := ha.at i hi'
  refine ⟨b, off, e, hlt, v0, v1, v2, ?_⟩
  simp only [T.kids, List.getElem?_eq_getElem hi', Option.getD_some]
  exact h
/-- The cells of one. -/
theorem T.In.form {w : World} {t : T} {v0 v1 v2 : Value} (h : t.In w (.agg #[v0, v1, v2])) : ∃ (z : Int) (A : Option Addr) (n c : Nat) (K : Option Addr) (m d : Nat), v0 = .int .i64 z ∧ v1 = .slice A n c ∧ v2 = .slice K m d := by
  obtain ⟨A, n, c, K, m, d, e, _⟩ := h.open
  simp only [Value.agg.injEq] at e
  have e' := congrArg Array.toList e
  simp only [List.cons.injEq, and_true] at e'
  exact ⟨_, A, n, c, K, m, d, e'.1, e'.2.1, e'.2.2⟩

/-- Block g holds just these cells. -/
def Blk (w : World) (g : Nat) (t : TypeId) (cs : Array Value) : Prop := w.heap[g]? = some (.cells cs t (0, 0))
theorem Blk.lt {w : World} {g : Nat} {t : TypeId} {cs : Array Value} (h : Blk w g t cs) : g < w.heap.size := (Array.getElem?_eq_some_iff.1 h).1
theorem Blk.cell {w : World} {g : Nat} {t : TypeId} {cs : Array Value} (h : Blk w g t cs) (j : Nat) : w.cell? ⟨g, j, none⟩ = cs[j]? := by
  unfold Blk at h
  simp only [World.cell?, h]
  rfl
theorem Blk.free {w : World} {g : Nat} {t : TypeId} {cs : Array Value} (h : Blk w g t cs) (j : Nat) : w.frozen? ⟨g, j, none⟩ = false := by
  unfold Blk at h
  simp [World.frozen?, h]
theorem Blk.new (w : World) (t : TypeId) (cs : Array Value) : Blk (w.alloc (.cells cs t)) w.heap.size t cs := heap_alloc_new w _
theorem Blk.below {w w' : World} {g B : Nat} {t : TypeId} {cs : Array Value} (h : Blk w g t cs) (hb : Below B w w') (hg : g < B) : Blk w' g t cs := (hb.block g hg).trans h
theorem Blk.alloc {w : World} {g : Nat} {t : TypeId} {cs : Array Value} (h : Blk w g t cs) (o : Obj) : Blk (w.alloc o) g t cs := (Below.heap_alloc w o g h.lt).trans h
theorem Blk.set {w : World} {g : Nat} {t : TypeId} {cs : Array Value} (h : Blk w g t cs) (j : Nat) (v : Value) : Blk (w.setCell ⟨g, j, none⟩ v) g t (cs.setIfInBounds j v) := heap_setCell_same w g j cs t v h
theorem Blk.far {w : World} {g g' : Nat} {t : TypeId} {cs : Array Value} (h : Blk w g t cs) (hne : g ≠ g') (j : Nat) (v : Value) : Blk (w.setCell ⟨g', j, none⟩ v) g t cs := (heap_setCell_other w ⟨g', j, none⟩ g v hne).trans h
theorem Blk.drewN {w : World} {g : Nat} {t : TypeId} {cs : Array Value} (h : Blk w g t cs) (n : Nat) : Blk (w.drewN n) g t cs := h

theorem Below.step {w w1 w2 : World} (h : Below w.heap.size w w1) (k : Below w1.heap.size w1 w2) : Below w.heap.size w w2 := h.trans (k.mono h.size)
theorem drewN_below (w : World) (n : Nat) : Below w.heap.size w (w.drewN n) := ⟨rfl, rfl, rfl, Nat.le_refl _, fun _ _ => rfl⟩

/-- An element's box (a local variable's block), and the element that it holds, in a world that has gone on. -/
structure Box (w wr : World) (g : Nat) (t : T) (A : Option Addr) (n c : Nat) (K : Option Addr) (m d : Nat) : Prop where
  base : w.heap.size ≤ g
  blk : Blk wr g 26 #[.int .i64 t.tag, .slice A n c, .slice K m d]
  below : Below w.heap.size w wr
  has : t.In wr (.agg #[.int .i64 t.tag, .slice A n c, .slice K m d])
theorem Box.start {w : World} {t : T} {A : Option Addr} {n c : Nat} {K : Option Addr} {m d : Nat} (h : t.In w (.agg #[.int .i64 t.tag, .slice A n c, .slice K m d])) : Box w (w.alloc (.cells #[.int .i64 t.tag, .slice A n c, .slice K m d] 26)) w.heap.size t A n c K m d :=
  ⟨Nat.le_refl _, Blk.new _ _ _, (Below.refl _ _).alloc (Nat.le_refl _) _, T.In.below ((Below.refl _ _).alloc (Nat.le_refl _) _) t h⟩
theorem Box.go {w wr w' : World} {g : Nat} {t : T} {A : Option Addr} {n c : Nat} {K : Option Addr} {m d : Nat} (h : Box w wr g t A n c K m d) (hb : Below wr.heap.size wr w') : Box w w' g t A n c K m d :=
  ⟨h.base, h.blk.below hb h.blk.lt, Below.step h.below hb, T.In.below hb t h.has⟩
theorem Box.cells {w wr : World} {g : Nat} {t : T} {A : Option Addr} {n c : Nat} {K : Option Addr} {m d : Nat} (h : Box w wr g t A n c K m d) : wr.cell? ⟨g, 0, none⟩ = some (.int .i64 t.tag) ∧ wr.cell? ⟨g, 1, none⟩ = some (.slice A n c) ∧ wr.cell? ⟨g, 2, none⟩ = some (.slice K m d) :=
  ⟨h.blk.cell 0, h.blk.cell 1, h.blk.cell 2⟩
/-- One of the elements within it. -/
theorem Box.kid {w wr : World} {g : Nat} {t : T} {A : Option Addr} {n c : Nat} {K : Option Addr} {m d : Nat} (h : Box w wr g t A n c K m d) (i : Nat) (hi : i < m) : ∃ (k : T) (b off : Nat) (z : Int) (A' : Option Addr) (n' c' : Nat) (K' : Option Addr) (m' d' : Nat), t.kids[i]? = some k ∧ K = some ⟨b, off, none⟩ ∧
    wr.cell? ⟨b, off + i * 3, none⟩ = some (.int .i64 z) ∧ wr.cell? ⟨b, off + i * 3 + 1, none⟩ = some (.slice A' n' c') ∧ wr.cell? ⟨b, off + i * 3 + 2, none⟩ = some (.slice K' m' d') ∧ k.In wr (.agg #[.int .i64 z, .slice A' n' c', .slice K' m' d']) := by
  obtain ⟨A1, n1, c1, K1, m1, d1, e, _, _, _, _, hm, _, hk⟩ := h.has.open
  simp only [Value.agg.injEq] at e
  have e' := congrArg Array.toList e
  simp only [List.cons.injEq, and_true, Value.slice.injEq, true_and] at e'
  obtain ⟨⟨rfl, rfl, rfl⟩, rfl, rfl, rfl⟩ := e'
  obtain ⟨b, off, rfl, hb, v0, v1, v2, h0, h1, h2, h3⟩ := hk i hi
  obtain ⟨z, A', n', c', K', m', d', rfl, rfl, rfl⟩ := h3.form
  have hi' : i < t.kids.length := by omega
  rw [List.getElem?_eq_getElem hi', Option.getD_some] at h3
  exact ⟨t.kids[i], b, off, z, A', n', c', K', m', d', List.getElem?_eq_getElem hi', rfl, h0, h1, h2, h3⟩

end Go.Proofs.Ytefdfdnfpacfjaa
