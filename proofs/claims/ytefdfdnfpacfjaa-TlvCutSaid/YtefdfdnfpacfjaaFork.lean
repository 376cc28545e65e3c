/-
  The law of Ord with a fork: where two operations that make memory may come up in either order, the walk is done for both. Nothing of the program is named here.
-/
import Derived.Test.YtefdfdnfpacfjaaOrd
namespace Go.Proofs.Ytefdfdnfpacfjaa
open Go.RowKit

/-- An order of our choosing: 'take': an operation that yields in every world that goes on from the one at hand; 'sole': one that comes up alone; 'fork': two that come up, either first. -/
inductive Plan where
  | fin
  | take (i : Nat) (p : Plan)
  | sole (i : Nat) (p : Plan)
  | fork (i : Nat) (p : Plan) (j : Nat) (q : Plan)
def Plan.len : Plan → Nat
  | .fin => 0
  | .take _ p => p.len + 1
  | .sole _ p => p.len + 1
  | .fork _ p _ _ => p.len + 1

section
variable {P : Program} {ops : Array Oper} {Q : Exit → Act → World → Prop} {R : World → World → Prop}

/-- One that makes memory. -/
def wpSole (P : Program) (l : List Oper) (R : World → World → Prop) (Q : Exit → Act → World → Prop) (i : Nat) (K : Act → World → Prop) (a : Act) (w : World) : Prop :=
  ∃ o, l[i]? = some o ∧ ((Region.wanted o (yielded l.toArray a.tmps) = false ∧ K (a.put o.dst undef) w) ∨
    (Region.wanted o (yielded l.toArray a.tmps) = true ∧ o.wp P a w (fun a' w' => R w w' ∧ K a' w') Q))
def wpPlan (P : Program) (l : List Oper) (R : World → World → Prop) (Q : Exit → Act → World → Prop) : Plan → Act → World → Prop
  | .fin, a, w => Q .normal a w
  | .take i p, a, w => ∃ o, l[i]? = some o ∧
    ((Region.wanted o (yielded l.toArray a.tmps) = false ∧ wpPlan P l R Q p (a.put o.dst undef) w) ∨
     (Region.wanted o (yielded l.toArray a.tmps) = true ∧ ∃ v, (∀ W, R w W → (execOp a.eval o).run P W = .ok (.value v) W) ∧ wpPlan P l R Q p (a.put o.dst v) w))
  | .sole i p, a, w => wpSole P l R Q i (wpPlan P l R Q p) a w
  | .fork i p j q, a, w => wpSole P l R Q i (wpPlan P l R Q p) a w ∧ wpSole P l R Q j (wpPlan P l R Q q) a w
def planB (l : List Oper) : Plan → Array Bool → Bool
  | .fin, listed => (Region.ready .any l.toArray listed).isEmpty
  | .take i p, listed => ((Region.ready .any l.toArray listed).contains i && Region.free .any l.toArray listed i) && planB l p (listed.setIfInBounds i true)
  | .sole i p, listed => (Region.ready .any l.toArray listed == [i]) && planB l p (listed.setIfInBounds i true)
  | .fork i p j q, listed => ((Region.ready .any l.toArray listed == [i, j]) && (p.len == q.len)) && (planB l p (listed.setIfInBounds i true) && planB l q (listed.setIfInBounds j true))

theorem held_sole {l : List Oper} (hrefl : ∀ w, R w w) (htrans : ∀ a b c, R a b → R b c → R a c) {i fuel : Nat} {listed : Array Bool} {K : Act → World → Prop} {a : Act} {w : World}
    (hK : ∀ a' w', K a' w' → wpAnyH P .any l.toArray Q (R w') fuel (listed.setIfInBounds i true) a' w') (h : wpSole P l R Q i K a w) :
    wpOp P l.toArray Q i (fun a' w' => R w w' ∧ wpAnyH P .any l.toArray Q (R w) fuel (listed.setIfInBounds i true) a' w') a w := by
  obtain ⟨o, ho, h⟩ := h
  have hi : l.toArray[i]? = some o := by simpa using ho
  unfold wpOp
  simp only [hi]
  rcases h with ⟨hw, h⟩ | ⟨hw, h⟩
  · rw [if_neg (by rw [hw]; simp)]
    exact ⟨hrefl w, hK _ _ h⟩
  · rw [if_pos hw]
    exact .inl (Oper.wp_mono (fun a' w' h' => ⟨h'.1, held_mono (fun W hW => htrans _ _ _ h'.1 hW) _ _ _ _ (hK _ _ h'.2)⟩) h)

theorem held_of_plan {l : List Oper} (hrefl : ∀ w, R w w) (htrans : ∀ a b c, R a b → R b c → R a c) (hs : Region.noSelect l.toArray = true) (hQ : ∀ d v c a w, Q (.panic c) (a.put d v) w → Q (.panic c) a w) :
    ∀ (p : Plan) (listed : Array Bool) (a : Act) (w : World), planB l p listed = true → wpPlan P l R Q p a w → wpAnyH P .any l.toArray Q (R w) p.len listed a w
  | .fin, listed, a, w, hB, h => by
    have : Region.ready .any l.toArray listed = [] := by simpa [planB] using hB
    exact wpAnyH_done this h _
  | .take i p, listed, a, w, hB, h => by
    obtain ⟨o, ho, h⟩ := h
    have hi : l.toArray[i]? = some o := by simpa using ho
    rw [planB, Bool.and_eq_true, Bool.and_eq_true] at hB
    obtain ⟨⟨h1, h2⟩, hB'⟩ := hB
    rcases h with ⟨hw, h⟩ | ⟨hw, v, hv, h⟩
    · exact wpAnyH_take hi hs h2 h1 (hQ _ _) (.inr ⟨hw, rfl⟩) (hrefl w) (held_of_plan hrefl htrans hs hQ p _ _ _ hB' h)
    · exact wpAnyH_take hi hs h2 h1 (hQ _ _) (.inl ⟨hw, hv⟩) (hrefl w) (held_of_plan hrefl htrans hs hQ p _ _ _ hB' h)
  | .sole i p, listed, a, w, hB, h => by
    rw [planB, Bool.and_eq_true] at hB
    have hr : Region.ready .any l.toArray listed = [i] := by simpa using hB.1
    refine wpAnyH_all hr (by simp) (fun j hj => ?_)
    obtain rfl : j = i := by simpa using hj
    exact held_sole hrefl htrans (fun a' w' h' => held_of_plan hrefl htrans hs hQ p _ a' w' hB.2 h') h
  | .fork i p j q, listed, a, w, hB, h => by
    rw [planB, Bool.and_eq_true, Bool.and_eq_true, Bool.and_eq_true] at hB
    obtain ⟨⟨h1, h2⟩, h3, h4⟩ := hB
    have hr : Region.ready .any l.toArray listed = [i, j] := by simpa using h1
    have hl : p.len = q.len := by simpa using h2
    refine wpAnyH_all hr (by simp) (fun x hx => ?_)
    have hx' : x = i ∨ x = j := by simpa using hx
    rcases hx' with rfl | rfl
    · exact held_sole hrefl htrans (fun a' w' h' => held_of_plan hrefl htrans hs hQ p _ a' w' h3 h') h.1
    · have := held_sole (fuel := q.len) (listed := listed) hrefl htrans (fun a' w' h' => held_of_plan hrefl htrans hs hQ q _ a' w' h4 h') h.2
      rw [← hl] at this
      exact this

/-- THE LAW: a region that asks the tape for its order. -/
theorem wp_region_plan {id : Nat} {a : Act} {w : World} {l : List Oper} (R : World → World → Prop) (hrefl : ∀ w, R w w) (htrans : ∀ a b c, R a b → R b c → R a c) (plan : Plan) (hm : P.follows .mixedOrders = true) (hs : Region.noSelect l.toArray = true) (hn : plan.len = l.length)
    (hB : planB l plan (Array.replicate l.length false) = true) (hQ : ∀ d v c a w, Q (.panic c) (a.put (some d) v) w → Q (.panic c) a w) (h : wpPlan P l R Q plan a w.drew) : (Code.region id l.toArray true).wp P Q a w := by
  refine wp_region_held (S := R w.drew) hm ?_
  have hQ' : ∀ d v c a w, Q (.panic c) (a.put d v) w → Q (.panic c) a w := fun d => by
    cases d with
    | none => exact fun _ _ _ _ h => h
    | some d => exact hQ d
  have := held_of_plan hrefl htrans hs hQ' plan (Array.replicate l.length false) a w.drew hB h
  rw [hn] at this
  simpa using this

section
variable {l : List Oper} {p q : Plan} {a : Act} {w : World} {i j : Nat} {o : Oper} {K : Act → World → Prop}
theorem plan_skip (ho : l[i]? = some o) (hw : Region.wanted o (yielded l.toArray a.tmps) = false) (h : wpPlan P l R Q p (a.put o.dst undef) w) : wpPlan P l R Q (.take i p) a w := ⟨o, ho, .inl ⟨hw, h⟩⟩
theorem plan_take (v : Value) (ho : l[i]? = some o) (hw : Region.wanted o (yielded l.toArray a.tmps) = true) (hv : ∀ W, R w W → (execOp a.eval o).run P W = .ok (.value v) W) (h : wpPlan P l R Q p (a.put o.dst v) w) : wpPlan P l R Q (.take i p) a w := ⟨o, ho, .inr ⟨hw, v, hv, h⟩⟩
theorem sole_take (ho : l[i]? = some o) (hw : Region.wanted o (yielded l.toArray a.tmps) = true) (h : ∀ K' : Act → World → Prop, (∀ a' w', R w w' → K a' w' → K' a' w') → o.wp P a w K' Q) : wpSole P l R Q i K a w :=
  ⟨o, ho, .inr ⟨hw, h _ (fun _ _ he h => ⟨he, h⟩)⟩⟩
theorem plan_sole (h : wpSole P l R Q i (wpPlan P l R Q p) a w) : wpPlan P l R Q (.sole i p) a w := h
theorem plan_fork (h1 : wpSole P l R Q i (wpPlan P l R Q p) a w) (h2 : wpSole P l R Q j (wpPlan P l R Q q) a w) : wpPlan P l R Q (.fork i p j q) a w := ⟨h1, h2⟩
theorem plan_end (h : Q .normal a w) : wpPlan P l R Q .fin a w := h
end
end
end Go.Proofs.Ytefdfdnfpacfjaa
