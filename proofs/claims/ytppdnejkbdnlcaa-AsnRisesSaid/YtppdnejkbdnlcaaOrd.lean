/-
  A law of our own for a statement whose order Go leaves open and that holds calls which make memory: if each operation that is no call yields its value in the world at hand and in every world that goes on from it (by a relation R of the prover's choosing), and each call comes up when nothing else can, then one walk, in an order of our choosing, serves every order. Nothing of the program is named here.
-/
import Derived.WalkKit
import Derived.OrdersHeld
import Derived.KernelRfl
namespace Go.Proofs.Ytppdnejkbdnlcaa
open Go.RowKit

section
variable {P : Program} {ops : Array Oper} {Q : Exit → Act → World → Prop} {R : World → World → Prop}

/-- W goes on from w: nothing that was there has turned. -/
def Ext (w W : World) : Prop := Below w.heap.size w W
theorem Ext.refl (w : World) : Ext w w := Below.refl _ _
theorem Ext.trans {a b c : World} (h : Ext a b) (k : Ext b c) : Ext a c := Below.trans h (Below.mono k h.size)

theorem Ext.of_drew {w W : World} (h : Ext w.drew W) : Ext w W := ⟨h.os, h.tape, h.output, h.size, h.block⟩
theorem Ext.drew {w W : World} (h : Ext w W) : Ext w W.drew := ⟨h.os, h.tape, h.output, h.size, h.block⟩

/-- What holds under a narrower condition on the worlds to come holds under a wider one. -/
theorem held_mono {S S' : World → Prop} (hs : ∀ W, S' W → S W) : ∀ (fuel : Nat) (listed : Array Bool) (a : Act) (w : World),
    wpAnyH P .any ops Q S' fuel listed a w → wpAnyH P .any ops Q S fuel listed a w
  | 0, _, _, _, h => h
  | fuel + 1, _, _, _, h => ⟨h.1, fun i hi => wpOp_mono (fun _ _ h' => ⟨hs _ h'.1, held_mono hs fuel _ _ _ h'.2⟩) (h.2 i hi)⟩

/-- One walk, in an order of our choosing: (i, false): operation number i, which yields in every world that goes on from the one at hand; (i, true): operation number i, which comes up alone, and behind which the world goes on from the one at hand. -/
def wpOrd (P : Program) (l : List Oper) (R : World → World → Prop) (Q : Exit → Act → World → Prop) : List (Nat × Bool) → Act → World → Prop
  | [], a, w => Q .normal a w
  | (i, sole) :: rest, a, w => ∃ o, l[i]? = some o ∧
    ((Region.wanted o (yielded l.toArray a.tmps) = false ∧ wpOrd P l R Q rest (a.put o.dst undef) w) ∨
     (Region.wanted o (yielded l.toArray a.tmps) = true ∧
       if sole then o.wp P a w (fun a' w' => R w w' ∧ wpOrd P l R Q rest a' w') Q
       else ∃ v, (∀ W, R w W → (execOp a.eval o).run P W = .ok (.value v) W) ∧ wpOrd P l R Q rest (a.put o.dst v) w))

/-- May the operations be met in this order? -/
def ordB (l : List Oper) : List (Nat × Bool) → Array Bool → Bool
  | [], listed => (Region.ready .any l.toArray listed).isEmpty
  | (i, sole) :: rest, listed =>
    (if sole then Region.ready .any l.toArray listed == [i] else (Region.ready .any l.toArray listed).contains i && Region.free .any l.toArray listed i) && ordB l rest (listed.setIfInBounds i true)

theorem held_of_ord {l : List Oper} (hrefl : ∀ w, R w w) (htrans : ∀ a b c, R a b → R b c → R a c) (hs : Region.noSelect l.toArray = true) (hQ : ∀ d v c a w, Q (.panic c) (a.put d v) w → Q (.panic c) a w) :
    ∀ (order : List (Nat × Bool)) (listed : Array Bool) (a : Act) (w : World), ordB l order listed = true → wpOrd P l R Q order a w → wpAnyH P .any l.toArray Q (R w) order.length listed a w
  | [], listed, a, w, hB, h => by
    have : Region.ready .any l.toArray listed = [] := by simpa [ordB] using hB
    exact wpAnyH_done this h _
  | (i, sole) :: rest, listed, a, w, hB, h => by
    obtain ⟨o, ho, h⟩ := h
    have hi : l.toArray[i]? = some o := by simpa using ho
    rw [ordB, Bool.and_eq_true] at hB
    obtain ⟨h1, hB'⟩ := hB
    cases sole with
    | false =>
      rw [if_neg (by simp), Bool.and_eq_true] at h1
      rcases h with ⟨hw, h⟩ | ⟨hw, h⟩
      · exact wpAnyH_take hi hs h1.2 h1.1 (hQ _ _) (.inr ⟨hw, rfl⟩) (hrefl w) (held_of_ord hrefl htrans hs hQ rest _ _ _ hB' h)
      · rw [if_neg (by simp)] at h
        obtain ⟨v, hv, h⟩ := h
        exact wpAnyH_take hi hs h1.2 h1.1 (hQ _ _) (.inl ⟨hw, hv⟩) (hrefl w) (held_of_ord hrefl htrans hs hQ rest _ _ _ hB' h)
    | true =>
      rw [if_pos rfl] at h1
      have hr : Region.ready .any l.toArray listed = [i] := by simpa using h1
      refine wpAnyH_all hr (by simp) (fun j hj => ?_)
      obtain rfl : j = i := by simpa using hj
      unfold wpOp
      simp only [hi]
      rcases h with ⟨hw, h⟩ | ⟨hw, h⟩
      · rw [if_neg (by rw [hw]; simp)]
        exact ⟨hrefl w, held_of_ord hrefl htrans hs hQ rest _ _ _ hB' h⟩
      · rw [if_pos rfl] at h
        rw [if_pos hw]
        exact .inl (Oper.wp_mono (fun a' w' h' => ⟨h'.1, held_mono (fun W hW => htrans _ _ _ h'.1 hW) _ _ _ _ (held_of_ord hrefl htrans hs hQ rest _ _ _ hB' h'.2)⟩) h)

/-- THE LAW: a region that asks the tape for its order. -/
theorem wp_region_ord {id : Nat} {a : Act} {w : World} {l : List Oper} (R : World → World → Prop) (hrefl : ∀ w, R w w) (htrans : ∀ a b c, R a b → R b c → R a c) (order : List (Nat × Bool)) (hm : P.follows .mixedOrders = true) (hs : Region.noSelect l.toArray = true) (hn : order.length = l.length)
    (hB : ordB l order (Array.replicate l.length false) = true) (hQ : ∀ d v c a w, Q (.panic c) (a.put (some d) v) w → Q (.panic c) a w) (h : wpOrd P l R Q order a w.drew) : (Code.region id l.toArray true).wp P Q a w := by
  refine wp_region_held (S := R w.drew) hm ?_
  have hQ' : ∀ d v c a w, Q (.panic c) (a.put d v) w → Q (.panic c) a w := fun d => by
    cases d with
    | none => exact fun _ _ _ _ h => h
    | some d => exact hQ d
  have := held_of_ord hrefl htrans hs hQ' order (Array.replicate l.length false) a w.drew hB h
  rw [hn] at this
  simpa using this

/- The moves of such a walk. -/
section
variable {l : List Oper} {rest : List (Nat × Bool)} {a : Act} {w : World} {i : Nat} {o : Oper}
theorem ord_skip {sole : Bool} (ho : l[i]? = some o) (hw : Region.wanted o (yielded l.toArray a.tmps) = false) (h : wpOrd P l R Q rest (a.put o.dst undef) w) : wpOrd P l R Q ((i, sole) :: rest) a w :=
  ⟨o, ho, .inl ⟨hw, h⟩⟩
theorem ord_take (v : Value) (ho : l[i]? = some o) (hw : Region.wanted o (yielded l.toArray a.tmps) = true) (hv : ∀ W, R w W → (execOp a.eval o).run P W = .ok (.value v) W)
    (h : wpOrd P l R Q rest (a.put o.dst v) w) : wpOrd P l R Q ((i, false) :: rest) a w :=
  ⟨o, ho, .inr ⟨hw, v, hv, h⟩⟩
theorem ord_move (x : Operand) (ho : l[i]? = some o) (hx : o.op = .move x) (hw : Region.wanted o (yielded l.toArray a.tmps) = true) (h : wpOrd P l R Q rest (a.put o.dst (a.eval x)) w) : wpOrd P l R Q ((i, false) :: rest) a w :=
  ord_take _ ho hw (fun W _ => by unfold execOp; rw [hx]; rfl) h
theorem ord_assign (x : Operand) (ho : l[i]? = some o) (hx : o.op = .assign x) (hw : Region.wanted o (yielded l.toArray a.tmps) = true) (h : wpOrd P l R Q rest (a.put o.dst (a.eval x)) w) : wpOrd P l R Q ((i, false) :: rest) a w :=
  ord_take _ ho hw (fun W _ => by unfold execOp; rw [hx]; rfl) h
theorem ord_sole (ho : l[i]? = some o) (hw : Region.wanted o (yielded l.toArray a.tmps) = true) (h : ∀ K : Act → World → Prop, (∀ a' w', R w w' → wpOrd P l R Q rest a' w' → K a' w') → o.wp P a w K Q) : wpOrd P l R Q ((i, true) :: rest) a w :=
  ⟨o, ho, .inr ⟨hw, h _ (fun _ _ he h => ⟨he, h⟩)⟩⟩
theorem ord_end (h : Q .normal a w) : wpOrd P l R Q [] a w := h
end

end
end Go.Proofs.Ytppdnejkbdnlcaa
