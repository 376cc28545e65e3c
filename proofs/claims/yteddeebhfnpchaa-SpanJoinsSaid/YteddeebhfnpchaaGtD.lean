/-
  Merged texts: SqG, SqH, SqI, SqJ, SrC, SrA, SrD.
-/
import Derived.Test.YteddeebhfnpchaaGtC
import Derived.Deep.OwnRows
import Derived.Shelf.SlSortCmp.WholeK
import Derived.RangeFuncRecord
import Derived.RangeFuncSeq
import Derived.RangeFuncCalls
import Derived.Below
import Derived.WalkKit
import Derived.Test.YteddeebhfnpchaaGtA
import Derived.OwnWalkIn
import Derived.TacticsInMore
import Derived.OrdersIn
import Derived.Great.Walk
import Derived.Deep.MidRow
namespace Go.Proofs.Yteddeebhfnpchaa
open Go.RowKit
set_option linter.unusedVariables false

def scL (s : SpanZ) : List Value := Value.bool s.v :: (acells s.lo ++ acells s.hi)
theorem scL_len {s : SpanZ} (h : SixS s) : (scL s).length = 33 := scells_len h
theorem scL_arr (s : SpanZ) : (scL s).toArray = scells s := rfl
/-- The cells of several spans. -/
def flatS (L : List SpanZ) : List Value := L.flatMap scL
def SixL (L : List SpanZ) : Prop := ∀ s ∈ L, SixS s
theorem flatS_len : ∀ {L : List SpanZ}, SixL L → (flatS L).length = L.length * 33
  | [], _ => rfl
  | s :: r, h => by
    show (scL s ++ flatS r).length = _
    rw [List.length_append, scL_len (h s (by simp)), flatS_len (fun x hx => h x (by simp [hx])), List.length_cons]
    omega
theorem flatS_app (L M : List SpanZ) : flatS (L ++ M) = flatS L ++ flatS M := List.flatMap_append
theorem flatS_at : ∀ {L : List SpanZ} (_ : SixL L) (j i : Nat) (hj : j < L.length), i < 33 → (flatS L)[j * 33 + i]? = (scL (L[j]))[i]?
  | [], _, j, i, hj, _ => absurd hj (by simp)
  | s :: r, h, 0, i, hj, hi => by
    show (scL s ++ flatS r)[0 * 33 + i]? = _
    rw [List.getElem?_append_left (by rw [scL_len (h s (by simp))]; omega), Nat.zero_mul, Nat.zero_add]
    rfl
  | s :: r, h, j + 1, i, hj, hi => by
    show (scL s ++ flatS r)[(j + 1) * 33 + i]? = _
    have l := scL_len (h s (by simp))
    rw [List.getElem?_append_right (by rw [l]; omega), l, show (j + 1) * 33 + i - 33 = j * 33 + i by omega, flatS_at (fun x hx => h x (by simp [hx])) j i (by simpa using hj) hi]
    rfl
theorem flatS_one (L : List SpanZ) : ∀ u ∈ flatS L, u.oneCell' = true := by
  intro u hu
  obtain ⟨s, _, hs⟩ := List.mem_flatMap.1 hu
  exact (Array.all_eq_true_iff_forall_mem.1 (scells_one s)) u (by rw [← scL_arr]; exact List.mem_toArray.2 hs)
theorem flatS_take : ∀ {L : List SpanZ} (_ : SixL L) (k : Nat), k ≤ L.length → flatS (L.take k) = (flatS L).take (k * 33)
  | [], _, k, hk => by
    obtain rfl : k = 0 := by simpa using hk
    rfl
  | s :: r, h, 0, hk => by simp [flatS]
  | s :: r, h, k + 1, hk => by
    have l := scL_len (h s (by simp))
    show scL s ++ flatS (r.take k) = (scL s ++ flatS r).take ((k + 1) * 33)
    rw [flatS_take (fun x hx => h x (by simp [hx])) k (by simpa using hk), List.take_append, l, List.take_of_length_le (l := scL s) (by rw [l]; omega), show (k + 1) * 33 - 33 = k * 33 by omega]

/-- A slice value with n elements reads as these spans; where there is an element, it lies in a block of this world. -/
def SpRow (w : World) (a : Option Addr) (n : Nat) (L : List SpanZ) : Prop :=
  L.length = n ∧ SixL L ∧ (0 < n → ∃ b off, a = some ⟨b, off, none⟩ ∧ b < w.heap.size ∧ ∀ i, i < n * 33 → w.cell? ⟨b, off + i, none⟩ = (flatS L)[i]?)
theorem SpRow.below {w w' : World} {a : Option Addr} {n : Nat} {L : List SpanZ} (h : SpRow w a n L) (hb : Below w.heap.size w w') : SpRow w' a n L := by
  refine ⟨h.1, h.2.1, fun hn => ?_⟩
  obtain ⟨b, off, e, hlt, hc⟩ := h.2.2 hn
  exact ⟨b, off, e, Nat.lt_of_lt_of_le hlt hb.size, fun i hi => (hb.cell (p := ⟨b, off + i, none⟩) hlt).trans (hc i hi)⟩
/-- One of them. -/
theorem SpRow.range {w : World} {b off n : Nat} {L : List SpanZ} (h : SpRow w (some ⟨b, off, none⟩) n L) (j : Nat) (hj : j < L.length) : w.rangeAt b (off + j * 33) (scL L[j]) := by
  intro i v hv
  obtain ⟨b', off', e, _, hc⟩ := h.2.2 (by have := h.1; omega)
  injection e with e
  injection e with e1 e2
  subst e1 e2
  have s6 := h.2.1 _ (List.getElem_mem hj)
  have hi : i < 33 := by
    have := (List.getElem?_eq_some_iff.1 hv).1
    rwa [scL_len s6] at this
  rw [Nat.add_assoc, hc (j * 33 + i) (by have := h.1; omega), flatS_at h.2.1 j i hj hi]
  exact hv
theorem SpRow.form {w : World} {a : Option Addr} {n : Nat} {L : List SpanZ} (h : SpRow w a n L) (h0 : 0 < n) : ∃ b off, a = some ⟨b, off, none⟩ ∧ b < w.heap.size := by
  obtain ⟨b, off, e, hlt, _⟩ := h.2.2 h0
  exact ⟨b, off, e, hlt⟩
theorem SpRow.nil (w : World) (a : Option Addr) : SpRow w a 0 [] := ⟨rfl, fun _ h => absurd h (by simp), fun h => absurd h (by omega)⟩
/-- What stands behind the first k. -/
theorem SpRow.rest {w : World} {b off n : Nat} {L : List SpanZ} (h : SpRow w (some ⟨b, off, none⟩) n L) (k : Nat) (hk : k ≤ n) : SpRow w (some ⟨b, off + k * 33, none⟩) (n - k) (L.drop k) := by
  have hl := h.1
  refine ⟨by rw [List.length_drop]; omega, fun s hs => h.2.1 s (List.mem_of_mem_drop hs), fun h0 => ?_⟩
  obtain ⟨b', off', e, hb, hc⟩ := h.2.2 (by omega)
  injection e with e
  injection e with e1 e2
  subst e1 e2
  refine ⟨_, _, rfl, hb, fun i hi => ?_⟩
  have e : flatS L = (flatS (L.take k)) ++ flatS (L.drop k) := by rw [← flatS_app, List.take_append_drop]
  have l : (flatS (L.take k)).length = k * 33 := by rw [flatS_take h.2.1 k (by omega), List.length_take, flatS_len h.2.1]; omega
  rw [Nat.add_assoc, hc (k * 33 + i) (by omega), e, List.getElem?_append_right (by rw [l]; omega), l, show k * 33 + i - k * 33 = i by omega]

theorem Try.infoSpan : (Try.prog.info? 30).map (fun i => (i.zero, i.size, i.bytes)) = some (some (.agg (scells zeroS)), 33, 33) := by kernel_rfl

/-- The slice V is the call's own, in memory newer than W0, and reads as these spans. -/
def SpOut (W0 wr : World) (V : Value) (L : List SpanZ) : Prop := wr.ownsRow W0.heap.size 30 33 V L.length (flatS L) ∧ Below W0.heap.size W0 wr ∧ SixL L
theorem SpOut.below {W0 wr w' : World} {V : Value} {L : List SpanZ} (h : SpOut W0 wr V L) (hb : Below wr.heap.size wr w') : SpOut W0 w' V L := by
  refine ⟨⟨h.1.1, ?_⟩, Below.step h.2.1 hb, h.2.2⟩
  rcases h.1.2 with h' | ⟨g, cap, cur, e, h1, h2, h3⟩
  · exact .inl h'
  · exact .inr ⟨g, cap, cur, e, h1, (hb.block g (Array.getElem?_eq_some_iff.1 h2).1).trans h2, h3⟩
theorem SpOut.alloc {W0 wr : World} {V : Value} {L : List SpanZ} (h : SpOut W0 wr V L) (o : Obj) : SpOut W0 (wr.alloc o) V L := h.below (box_below _ _)
theorem SpOut.wider {w W0 wr : World} {V : Value} {L : List SpanZ} (h : SpOut W0 wr V L) (hb : Below w.heap.size w W0) : SpOut w wr V L := by
  refine ⟨⟨h.1.1, ?_⟩, Below.step hb h.2.1, h.2.2⟩
  rcases h.1.2 with h' | ⟨g, cap, cur, e, h1, h2⟩
  · exact .inl h'
  · exact .inr ⟨g, cap, cur, e, Nat.le_trans hb.size h1, h2⟩
theorem SpOut.start (w : World) : SpOut w w (.slice none 0 0) [] := ⟨World.ownsRow_nil _ _ _ _, Below.refl _ _, fun _ h => absurd h (by simp)⟩
theorem SpOut.row {W0 wr : World} {V : Value} {L : List SpanZ} (h : SpOut W0 wr V L) : ∃ a c, V = .slice a L.length c ∧ SpRow wr a L.length L ∧ (a = none → L = [] ∧ c = 0) := by
  rcases h.1.2 with ⟨rfl, h0⟩ | ⟨g, cap, cur, rfl, h1, h2, h3⟩
  · have : L = [] := List.eq_nil_of_length_eq_zero h0
    subst this
    exact ⟨none, 0, rfl, SpRow.nil _ _, fun _ => ⟨rfl, rfl⟩⟩
  · refine ⟨_, cap, rfl, ⟨rfl, h.2.2, fun hn => ⟨g, 0, rfl, (h.1.lt g rfl).2, fun i hi => ?_⟩⟩, fun e => by cases e⟩
    rw [Nat.zero_add, h.1.cellAt i hi]
/-- Its form, where it has a block. -/
theorem SpOut.form {W0 wr : World} {V : Value} {L : List SpanZ} (h : SpOut W0 wr V L) : (V = .slice none 0 0 ∧ L = []) ∨ ∃ g cap, V = .slice (some ⟨g, 0, none⟩) L.length cap ∧ W0.heap.size ≤ g ∧ g < wr.heap.size ∧ L.length ≤ cap := by
  rcases h.1.2 with ⟨rfl, h0⟩ | ⟨g, cap, cur, rfl, h1, h2, h3, _⟩
  · exact .inl ⟨rfl, List.eq_nil_of_length_eq_zero h0⟩
  · exact .inr ⟨g, cap, rfl, h1, (h.1.lt g rfl).2, h3⟩

/-- Spans are appended. -/
theorem sp_append {ops : Array Oper} {rest : List Oper} {o : Oper} {a : Act} {Q : Exit → Act → World → Prop} {W0 w : World} {V : Value} {L zs : List SpanZ} {A : Option Addr} {m c : Nat} (hgd : o.guard = none) (s x : Operand)
    (hop : o.op = .call { callee := .builtin .append, args := #[s, x], argTypes := #[22, 22] }) (hs : a.eval s = V) (hout : SpOut W0 w V L) (hx : a.eval x = .slice A m c) (hr : SpRow w A m zs) (hA : A = none → m = 0 ∧ c = 0) (hl : L.length + m ≤ 100000)
    (h : ∀ V' w', SpOut W0 w' V' (L ++ zs) → wpList Try.prog ops Q rest (a.put o.dst V') w') : wpList Try.prog ops Q (o :: rest) a w := by
  obtain ⟨i0, hi5, hz0, hz1, hz2⟩ := info_parts Try.infoSpan
  cases A with
  | none =>
    obtain ⟨rfl, rfl⟩ := hA rfl
    obtain rfl : zs = [] := List.eq_nil_of_length_eq_zero hr.1
    refine wpList_append_own_none hgd s x 22 hop W0.heap.size 30 i0 33 Try.underlying22 hi5 V L.length _ hs hout.1 hx ?_
    have := h V w (by simpa using hout)
    exact this
  | some ad =>
    have hcl : (flatS zs).length = m * 33 := by rw [flatS_len hr.2.1, hr.1]
    refine wpList_append_own _ hgd s x 22 hop W0.heap.size 30 i0 (.agg (scells zeroS)) 33 33 Try.underlying22 hi5 hz0 hz1 hz2 (scells_size zeroS_six) (by decide) V L.length (flatS L) hs hout.1 ad m c (flatS zs) hx hcl ?_ (flatS_one zs) (by unfold maxLen; omega) (by omega) hout.2.1.size ?_
    · intro j u hu
      have hj : j < m * 33 := by
        have := (List.getElem?_eq_some_iff.1 hu).1
        omega
      obtain ⟨b, off, e, _, hc⟩ := hr.2.2 (by omega)
      injection e with e
      subst e
      rw [Addr.add_lit, hc j hj]
      exact hu
    · intro V' w' hown hg _
      refine h V' w' ⟨?_, hout.2.1.grown hg hout.2.1.size (fun k hk => (hout.1.lt k hk).1), fun z hz => ?_⟩
      · rw [List.length_append, hr.1, flatS_app]
        exact hown
      · rcases List.mem_append.1 hz with hz | hz
        · exact hout.2.2 z hz
        · exact hr.2.1 z hz

end Go.Proofs.Yteddeebhfnpchaa

namespace Go.Proofs.Yteddeebhfnpchaa
open Go.RowKit
set_option linter.unusedVariables false

theorem list_split {α : Type} {A : List α} {q : Nat} (x : α) (hq : q < A.length) : (A.set q x).take (q + 1) = A.take q ++ [x] ∧ ∀ m, (A.set q x).drop (q + 1 + m) = A.drop (q + 1 + m) := by
  refine ⟨?_, fun m => ?_⟩
  · rw [List.take_add_one, List.take_set_of_le (Nat.le_refl _), List.getElem?_set_self hq]
    rfl
  · rw [List.drop_set_of_lt (by omega)]
theorem own_setCells {e : TypeId} {size base g n cap : Nat} : ∀ (vs : List Value) (o : Nat) (w : World) (xs : List Value), w.ownsRow base e size (.slice (some ⟨g, 0, none⟩) n cap) n xs → o + vs.length ≤ xs.length →
    (w.setCells g o vs).ownsRow base e size (.slice (some ⟨g, 0, none⟩) n cap) n (xs.take o ++ vs ++ xs.drop (o + vs.length))
  | [], o, w, xs, h, hl => by
    have e1 : xs.take o ++ [] ++ xs.drop (o + ([] : List Value).length) = xs := by rw [List.append_nil, List.length_nil, Nat.add_zero, List.take_append_drop]
    rw [e1]
    exact h
  | v :: r, o, w, xs, h, hl => by
    simp only [List.length_cons] at hl
    have ih := own_setCells r (o + 1) _ (xs.set o v) (h.stored o v).1 (by rw [List.length_set]; omega)
    obtain ⟨e1, e2⟩ := list_split v (show o < xs.length by omega)
    rw [e1, e2, List.append_assoc (xs.take o)] at ih
    have e3 : xs.take o ++ v :: r ++ xs.drop (o + (v :: r).length) = xs.take o ++ ([v] ++ r) ++ xs.drop (o + 1 + r.length) := by
      rw [List.length_cons, show o + (r.length + 1) = o + 1 + r.length by omega]
      rfl
    rw [e3]
    exact ih
theorem own_cut {e : TypeId} {size base g n cap : Nat} {w : World} {xs : List Value} (h : w.ownsRow base e size (.slice (some ⟨g, 0, none⟩) n cap) n xs) (k : Nat) (hk : k ≤ n) : w.ownsRow base e size (.slice (some ⟨g, 0, none⟩) k cap) k (xs.take (k * size)) := by
  have hks : k * size ≤ n * size := Nat.mul_le_mul_right _ hk
  refine ⟨by rw [List.length_take, h.1]; omega, ?_⟩
  rcases h.2 with ⟨e', _⟩ | ⟨g', cap', cur, e', hb, hg, hnc, hcm, hcs, htake⟩
  · cases e'
  · injection e' with e1 e2 e3
    subst e3
    refine .inr ⟨g', cap, cur, ?_, hb, hg, by omega, hcm, hcs, ?_⟩
    · rw [e1]
    · rw [← htake, List.take_take, Nat.min_eq_left hks]
theorem flatS_drop {L : List SpanZ} (h : SixL L) (k : Nat) (hk : k ≤ L.length) : flatS (L.drop k) = (flatS L).drop (k * 33) := by
  have e : flatS L = flatS (L.take k) ++ flatS (L.drop k) := by rw [← flatS_app, List.take_append_drop]
  have l : (flatS (L.take k)).length = k * 33 := by rw [flatS_take h k hk, List.length_take, flatS_len h]; omega
  rw [e, ← l, List.drop_left]
theorem six_set {L : List SpanZ} (h : SixL L) (k : Nat) {s : SpanZ} (hs : SixS s) : SixL (L.set k s) := fun x hx => by
  rcases List.mem_or_eq_of_mem_set hx with hx | rfl
  · exact h x hx
  · exact hs
theorem flatS_set {L : List SpanZ} (h : SixL L) (k : Nat) (hk : k < L.length) {s : SpanZ} (hs : SixS s) : flatS (L.set k s) = (flatS L).take (k * 33) ++ scL s ++ (flatS L).drop (k * 33 + (scL s).length) := by
  rw [scL_len hs, show k * 33 + 33 = (k + 1) * 33 by omega, ← flatS_take h k (by omega), ← flatS_drop h (k + 1) (by omega), List.set_eq_take_append_cons_drop, if_pos hk]
  show flatS (L.take k ++ s :: L.drop (k + 1)) = _
  rw [flatS_app]
  show flatS (L.take k) ++ (scL s ++ flatS (L.drop (k + 1))) = _
  rw [List.append_assoc]
/-- A span is stored into a row of the call's own. -/
theorem SpOut.set {W0 wr : World} {g cap n : Nat} {L : List SpanZ} (h : SpOut W0 wr (.slice (some ⟨g, 0, none⟩) n cap) L) (hn : n = L.length) (hg : W0.heap.size ≤ g) (k : Nat) (hk : k < L.length) {s : SpanZ} (hs : SixS s) : SpOut W0 (wr.setCells g (k * 33) (scL s)) (.slice (some ⟨g, 0, none⟩) n cap) (L.set k s) := by
  subst hn
  have h1 := own_setCells (scL s) (k * 33) wr _ h.1 (by rw [scL_len hs, flatS_len h.2.2]; omega)
  rw [← flatS_set h.2.2 k hk hs] at h1
  refine ⟨by rw [List.length_set]; exact h1, below_setCells hg _ _ _ h.2.1, six_set h.2.2 k hs⟩
/-- The last addresses of one of them are stored. -/
theorem SpOut.setHi {W0 wr : World} {g cap n : Nat} {L : List SpanZ} (h : SpOut W0 wr (.slice (some ⟨g, 0, none⟩) n cap) L) (hn : n = L.length) (hg : W0.heap.size ≤ g) (k : Nat) (hk : k < L.length) {B : List Int} (hB : Sixteen B) : SpOut W0 (wr.setCells g (k * 33 + 17) (acells B)) (.slice (some ⟨g, 0, none⟩) n cap) (L.set k ⟨(L[k]).v, (L[k]).lo, B⟩) := by
  subst hn
  have s6 := h.2.2 _ (List.getElem_mem hk)
  have hs : SixS ⟨(L[k]).v, (L[k]).lo, B⟩ := ⟨s6.1, hB⟩
  have h1 := own_setCells (acells B) (k * 33 + 17) wr _ h.1 (by rw [acells_len hB.1, flatS_len h.2.2]; omega)
  have hcut : (flatS L).take (k * 33 + 17) = (flatS L).take (k * 33) ++ (Value.bool (L[k]).v :: acells (L[k]).lo) := by
    rw [← flatS_take h.2.2 k (by omega)]
    have e : flatS L = flatS (L.take k) ++ (scL L[k] ++ flatS (L.drop (k + 1))) := by
      show flatS L = flatS (L.take k) ++ flatS (L[k] :: L.drop (k + 1))
      rw [← flatS_app, ← List.drop_eq_getElem_cons hk, List.take_append_drop]
    have l : (flatS (L.take k)).length = k * 33 := by rw [flatS_take h.2.2 k (by omega), List.length_take, flatS_len h.2.2]; omega
    rw [e, List.take_append, l, List.take_of_length_le (l := flatS (L.take k)) (by rw [l]; omega), show k * 33 + 17 - k * 33 = 17 by omega]
    congr 1
    show (Value.bool (L[k]).v :: (acells (L[k]).lo ++ acells (L[k]).hi) ++ flatS (L.drop (k + 1))).take 17 = _
    rw [List.cons_append, List.take_succ_cons, List.append_assoc, List.take_append, acells_len s6.1.1, List.take_of_length_le (l := acells (L[k]).lo) (by rw [acells_len s6.1.1]; omega)]
    simp
  have hfs := flatS_set h.2.2 k hk hs
  rw [scL_len hs] at hfs
  have e2 : (flatS L).take (k * 33 + 17) ++ acells B ++ (flatS L).drop (k * 33 + 17 + (acells B).length) = flatS (L.set k ⟨(L[k]).v, (L[k]).lo, B⟩) := by
    rw [hfs, hcut, acells_len hB.1, show k * 33 + 17 + 16 = k * 33 + 33 by omega]
    show _ = (flatS L).take (k * 33) ++ (Value.bool (L[k]).v :: (acells (L[k]).lo ++ acells B)) ++ _
    simp
  rw [e2] at h1
  exact ⟨by rw [List.length_set]; exact h1, below_setCells hg _ _ _ h.2.1, six_set h.2.2 k hs⟩
/-- Fewer of them. -/
theorem SpOut.cut {W0 wr : World} {g cap n : Nat} {L : List SpanZ} (h : SpOut W0 wr (.slice (some ⟨g, 0, none⟩) n cap) L) (hn : n = L.length) (k : Nat) (hk : k ≤ L.length) : SpOut W0 wr (.slice (some ⟨g, 0, none⟩) k cap) (L.take k) := by
  subst hn
  have h1 := own_cut h.1 k hk
  rw [← flatS_take h.2.2 k hk] at h1
  exact ⟨by rw [List.length_take, Nat.min_eq_left hk]; exact h1, h.2.1, fun s hs => h.2.2 s (List.mem_of_mem_take hs)⟩
/-- What stands behind is cleared. -/
theorem SpOut.clear {W0 wr : World} {g cap n : Nat} {L : List SpanZ} (h : SpOut W0 wr (.slice (some ⟨g, 0, none⟩) n cap) L) (hn : n = L.length) (hg : W0.heap.size ≤ g) (k : Nat) (hk : k ≤ L.length) (vs : List Value) (hv : vs.length = (L.length - k) * 33) : SpOut W0 (wr.setCells g (k * 33) vs) (.slice (some ⟨g, 0, none⟩) k cap) (L.take k) := by
  subst hn
  have h1 := own_cut (own_setCells vs (k * 33) wr _ h.1 (by rw [hv, flatS_len h.2.2]; omega)) k hk
  have l : ((flatS L).take (k * 33)).length = k * 33 := by rw [List.length_take, flatS_len h.2.2]; omega
  rw [List.append_assoc, List.take_append, l, Nat.sub_self, List.take_zero, List.append_nil, List.take_take, Nat.min_self, ← flatS_take h.2.2 k hk] at h1
  exact ⟨by rw [List.length_take, Nat.min_eq_left hk]; exact h1, below_setCells hg _ _ _ h.2.1, fun s hs => h.2.2 s (List.mem_of_mem_take hs)⟩
/-- The cells there, to be written. -/
theorem SpOut.there {W0 wr : World} {g cap n : Nat} {L : List SpanZ} (h : SpOut W0 wr (.slice (some ⟨g, 0, none⟩) n cap) L) (hn : n = L.length) (o m : Nat) (hm : o + m ≤ n * 33) : wr.there g o m := by
  subst hn
  intro j hj
  refine ⟨?_, h.1.frozenAt _⟩
  rw [h.1.cellAt (o + j) (by omega), List.getElem?_eq_getElem (by rw [flatS_len h.2.2]; omega)]
  rfl

/-! The sort. -/
abbrev Sp6 := { s : SpanZ // SixS s }
instance : Inhabited Sp6 := ⟨⟨zeroS, zeroS_six⟩⟩
def enc6 (x : Sp6) : List Value := scL x.1
theorem enc6_len (x : Sp6) : (enc6 x).length = 33 := scL_len x.2
theorem enc6_one (x : Sp6) : ∀ v ∈ enc6 x, v.oneCell' = true := fun v hv => (Array.all_eq_true_iff_forall_mem.1 (scells_one x.1)) v (by rw [← scL_arr]; exact List.mem_toArray.2 hv)
def with6 (L : List SpanZ) (h : SixL L) : Array Sp6 := (L.attach.map fun x => (⟨x.1, h x.1 x.2⟩ : Sp6)).toArray
def bare6 (d : Array Sp6) : List SpanZ := d.toList.map (·.1)
theorem with6_size (L : List SpanZ) (h : SixL L) : (with6 L h).size = L.length := by simp [with6]
theorem bare_with (L : List SpanZ) (h : SixL L) : bare6 (with6 L h) = L := by
  unfold bare6 with6
  rw [List.map_map]
  show L.attach.map (fun x => x.1) = L
  simp
theorem bare6_six (d : Array Sp6) : SixL (bare6 d) := fun s hs => by
  obtain ⟨x, _, rfl⟩ := List.mem_map.1 hs
  exact x.2
theorem bare6_len (d : Array Sp6) : (bare6 d).length = d.size := by simp [bare6]
theorem bare6_at (d : Array Sp6) (j : Nat) (hj : j < d.size) : (bare6 d)[j]'(by rw [bare6_len]; exact hj) = (d[j]!).1 := by
  rw [getElem!_pos d j hj]
  simp [bare6]
/-- A cell of the flat row. -/
theorem flat6_at (d : Array Sp6) (t : Nat) (ht : t < d.size * 33) : (flatS (bare6 d))[t]? = some (Sort.flatK enc6 33 d)[t]! := by
  have hq : t / 33 < d.size := Nat.div_lt_of_lt_mul (by omega)
  have e := flatS_at (bare6_six d) (t / 33) (t % 33) (by rw [bare6_len]; exact hq) (Nat.mod_lt _ (by decide))
  rw [show t / 33 * 33 + t % 33 = t by omega, bare6_at d _ hq] at e
  rw [e, Sort.get_flatK enc6 33 d t ht]
  have hm : t % 33 < (enc6 d[t / 33]!).length := by rw [enc6_len]; exact Nat.mod_lt _ (by decide)
  show (enc6 d[t / 33]!)[t % 33]? = _
  rw [List.getElem?_eq_getElem hm, getElem!_pos (enc6 d[t / 33]!) (t % 33) hm]
theorem SpOut.holds {W0 wr : World} {g cap n : Nat} {d : Array Sp6} (h : SpOut W0 wr (.slice (some ⟨g, 0, none⟩) n cap) (bare6 d)) (hn : n = d.size) : Sort.HoldsK enc6 33 wr g 0 d := by
  subst hn
  intro j hj
  rw [Sort.size_flatK] at hj
  have hc := h.1
  rw [bare6_len] at hc
  rw [Nat.zero_add]
  exact ⟨by rw [hc.cellAt j hj]; exact flat6_at d j hj, hc.frozenAt j⟩
/-- Behind the sort. -/
theorem SpOut.sorted {W0 wr : World} {g cap n m : Nat} {d d' : Array Sp6} {os : Array Obj} (h : SpOut W0 wr (.slice (some ⟨g, 0, none⟩) n cap) (bare6 d)) (hn : n = d.size) (hd : d'.size = d.size) : SpOut W0 (sortWorldK enc6 33 wr g 0 m d' os) (.slice (some ⟨g, 0, none⟩) n cap) (bare6 d') := by
  subst hn
  have hc := h.1
  rw [bare6_len] at hc
  have hlt : g < wr.heap.size := (hc.lt g rfl).2
  rcases hc.2 with ⟨e', _⟩ | ⟨g', cap', cur, e', hb, hg, hnc, hcm, hcs, htake⟩
  · cases e'
  injection e' with e1 e2 e3
  injection e1 with e1
  injection e1 with e1
  subst e1 e3
  have hg2 : (sortWorldK enc6 33 wr g 0 m d' os).heap[g]? = some (.cells (Sort.putCells id 0 (Sort.flatK enc6 33 d') cur) 30 (0, 0)) := by
    unfold sortWorldK Sort.grow Sort.putRowK Sort.putRow Sort.mapBlock
    show ((wr.heap.modify g _) ++ os)[g]? = _
    rw [Array.getElem?_append_left (by rw [Array.size_modify]; exact hlt), Array.getElem?_modify, if_pos rfl, hg]
    rfl
  refine ⟨⟨by rw [flatS_len (bare6_six d')], .inr ⟨g, cap, _, by rw [bare6_len, hd], hb, hg2, by rw [bare6_len, hd]; exact hnc, hcm, ?_, ?_⟩⟩, ⟨h.2.1.os, h.2.1.tape, h.2.1.output, ?_, fun k hk => ?_⟩, bare6_six d'⟩
  · unfold Sort.putCells
    rw [Array.size_mapIdx]
    exact hcs
  · apply List.ext_getElem?
    intro t
    rcases Nat.lt_or_ge t ((bare6 d').length * 33) with ht | ht
    · rw [List.getElem?_take, if_pos ht]
      have ht' : t < d'.size * 33 := by rwa [bare6_len] at ht
      rw [flat6_at d' t ht', Array.getElem?_toList]
      unfold Sort.putCells
      have hcur : t < cur.size := by
        rw [hcs]
        have : d.size * 33 ≤ cap * 33 := Nat.mul_le_mul_right _ hnc
        omega
      rw [Array.getElem?_mapIdx, Array.getElem?_eq_getElem hcur]
      simp only [Option.map_some, Nat.sub_zero, Nat.zero_add, id]
      rw [if_pos ⟨Nat.zero_le _, by rw [Sort.size_flatK]; exact ht'⟩]
    · rw [List.getElem?_eq_none (by rw [List.length_take]; omega), List.getElem?_eq_none (by rw [flatS_len (bare6_six d')]; omega)]
  · unfold sortWorldK Sort.grow Sort.putRowK Sort.putRow Sort.mapBlock
    show W0.heap.size ≤ ((wr.heap.modify g _) ++ os).size
    rw [Array.size_append, Array.size_modify]
    have := h.2.1.size
    omega
  · unfold sortWorldK Sort.grow Sort.putRowK Sort.putRow Sort.mapBlock
    show ((wr.heap.modify g _) ++ os)[k]? = _
    have hk2 : k < wr.heap.size := Nat.lt_of_lt_of_le hk h.2.1.size
    rw [Array.getElem?_append_left (by rw [Array.size_modify]; exact hk2), Array.getElem?_modify, if_neg (by omega)]
    exact h.2.1.block k hk

end Go.Proofs.Yteddeebhfnpchaa

namespace Go.Proofs.Yteddeebhfnpchaa
open Go.RowKit
set_option linter.unusedVariables false

def rightS (s : SpanZ) : Bool := rightZ s.v s.lo s.hi
/-- A row of spans of the call's own that it hands back. -/
def GivesSp (L : List SpanZ) (w : World) (e : Ending) (w' : World) : Prop := ∃ V, e = .returned V ∧ SpOut w w' V L
theorem sp_zero (w : World) : SpOut w (w.alloc (.cells #[] 30)) (.slice (some ⟨w.heap.size, 0, none⟩) 0 0) [] :=
  ⟨World.ownsRow_made w _ 0 (Nat.le_refl _) (by unfold maxLen; omega) rfl, box_below _ _, fun _ h => absurd h (by simp)⟩

set_option maxHeartbeats 500000 in
set_option maxRecDepth 10000 in
theorem clone_any (a : Option Addr) (n c : Nat) (L : List SpanZ) (w : World) (hr : SpRow w a n L) (hA : a = none → n = 0 ∧ c = 0) (hn : n ≤ 90000) :
    Calls Try.prog 37 #[.slice a n c] w (GivesSp L w) := by
  have q22 : ∀ (w : World) (a : Option Addr) (n c n' c' : Nat), (binOp .eql 22 (.slice a n c) (.slice none n' c')).run Try.prog w = .ok (.bool a.isNone) w := fun w a n c n' c' => Lib.run_eql_slice_nil w _ _ a n c n' c' Try.underlying22
  go_enter Try.func37, Try.ntmps37
  cases a with
  | none =>
    obtain ⟨rfl, rfl⟩ := hA rfl
    obtain rfl : L = [] := List.eq_nil_of_length_eq_zero hr.1
    clear hA hr
    go_wp2_with fail
    go_ret
    exact ⟨_, rfl, SpOut.start w⟩
  | some ad =>
    have RX := Lib.hid (hr.below (box_below w (.cells #[] 30)))
    clear hA hr
    go_wp2_with (at_builtin; go_must (refine sp_append (W0 := w) (L := []) (zs := L) rfl _ _ rfl rfl (sp_zero w) rfl RX.out (fun e => by cases e) (by simp; omega) ?_; intro V1 w1 ho1; rw [List.nil_append] at ho1; have HO := Lib.hid ho1; clear ho1))
    go_ret
    exact ⟨_, rfl, HO.out⟩

/-- Where the first span stands that may not be. -/
def idxZ (L : List SpanZ) : Int := if (L.takeWhile rightS).length = L.length then -1 else ((L.takeWhile rightS).length : Int)
theorem idx_here : ∀ {L : List SpanZ} {k : Nat} (hk : k < L.length), (∀ j (hj : j < k), rightS (L[j]'(by omega)) = true) → rightS L[k] = false → (L.takeWhile rightS).length = k
  | [], k, hk, _, _ => absurd hk (by simp)
  | s :: r, 0, hk, _, h => by
    have : rightS s = false := h
    simp [List.takeWhile, this]
  | s :: r, k + 1, hk, hj, h => by
    have h0 : rightS s = true := hj 0 (by omega)
    have := idx_here (L := r) (k := k) (by simpa using hk) (fun j hj' => hj (j + 1) (by omega)) h
    simp [List.takeWhile, h0, this]
theorem idx_none : ∀ {L : List SpanZ}, (∀ j (hj : j < L.length), rightS L[j] = true) → (L.takeWhile rightS).length = L.length
  | [], _ => rfl
  | s :: r, h => by
    have h0 : rightS s = true := h 0 (by simp)
    have := idx_none (L := r) (fun j hj => h (j + 1) (by simpa using hj))
    simp [List.takeWhile, h0, this]

set_option maxHeartbeats 1000000 in
set_option maxRecDepth 10000 in
theorem index_any (a : Option Addr) (n c : Nat) (L : List SpanZ) (w : World) (hr : SpRow w a n L) (hn : n ≤ 90000) :
    Calls Try.prog 50 #[.slice a n c, .func (.func 38) #[] #[]] w fun e w' => e = .returned (.int .i64 (idxZ L)) ∧ Below w.heap.size w w' := by
  have HR := Lib.hid hr
  have HL := Lib.hid hr.1
  clear hr
  go_enter Try.func50, Try.ntmps50
  go_wp2_with fail
  go_loopw [8] (fun iV wr => ∃ (k : Nat), iV = .int .i64 (k : Int) ∧ k ≤ n ∧ (∀ j (hj : j < L.length), j < k → rightS L[j] = true) ∧ Below w.heap.size w wr) (fun iV _ => (200000 - intOf iV).toNat)
  case atStart => exact ⟨0, rfl, Nat.zero_le _, fun _ _ h => absurd h (by omega), Below.refl _ _⟩
  case round =>
    obtain ⟨k, rfl, hk, hj, hb⟩ := hrel
    have HJ := Lib.hid hj
    have B5 := Lib.hid hb
    clear hj hb
    by_cases hlt : k < n
    · have t0 : decide ((k : Int) < (n : Int)) = true := decide_eq_true (by omega)
      have hkL : k < L.length := by rw [HL.out]; exact hlt
      obtain ⟨b, off, rfl, hbl⟩ := HR.out.form (by omega)
      have RG := Lib.hid ((HR.out.below B5.out).range k hkL)
      have s6 := HR.out.2.1 _ (List.getElem_mem hkL)
      have SZ : Hid ((Try.prog.info? 30).map (·.size) = some (scL L[k]).length) := Lib.hid (by rw [scL_len s6, Try.sizeS s6, scells_size s6])
      have C1 := Lib.hid (fun W => wrong_any L[k] W s6)
      have i0 : (0 : Int) ≤ (k : Int) := by omega
      have i1 : (k : Int) < (n : Int) := by omega
      have HD := Lib.hid (fun h => idx_here hkL (fun j hj => HJ.out j (by omega) hj) h)
      have HN := Lib.hid (fun (h : rightS L[k] = true) j (hj : j < L.length) (h2 : j < k + 1) => (by
        rcases Nat.lt_or_ge j k with h3 | h3
        · exact HJ.out j hj h3
        · obtain rfl : j = k := by omega
          exact h : rightS L[j] = true))
      have HI : Hid ((L.takeWhile rightS).length = k → idxZ L = (k : Int)) := Lib.hid (fun h => by
        unfold idxZ
        rw [h, if_neg (by omega)])
      clear s6
      generalize hs : L[k] = s at *
      generalize hq : rightZ s.v s.lo s.hi = q at *
      have hq' : rightS s = q := hq
      rw [hq'] at HD HN
      clear hs hq hq' HR HL HJ
      cases q with
      | true =>
        have HN2 := Lib.hid (HN.out rfl)
        clear HN HD HI
        go_wp2_with (first
          | (refine wpList_load_mid rfl 30 (.tmp 14) rfl b (off + k * 33) rfl (scL s) _ RG.out Try.underlying30 rfl SZ.out ?_)
          | (refine (C1.out _).mono ?_
             rintro r w6 ⟨rfl, hb6⟩
             have B6 := Lib.hid (Below.step B5.out hb6)
             clear hb6))
        go_roundw
        case rel => exact ⟨k + 1, by go_num, by omega, HN2.out, B6.out⟩
        case measure => simp only [intOf]; omega
      | false =>
        have HD2 := Lib.hid (HI.out (HD.out rfl))
        clear HN HD HI
        go_wp2_with (first
          | (refine wpList_load_mid rfl 30 (.tmp 14) rfl b (off + k * 33) rfl (scL s) _ RG.out Try.underlying30 rfl SZ.out ?_)
          | (refine (C1.out _).mono ?_
             rintro r w6 ⟨rfl, hb6⟩
             have B6 := Lib.hid (Below.step B5.out hb6)
             clear hb6))
        go_ret
        exact ⟨by rw [HD2.out]; rfl, B6.out⟩
    · obtain rfl : k = n := by omega
      have t0 : decide ((k : Int) < (k : Int)) = false := decide_eq_false (by omega)
      have HI : Hid (idxZ L = -1) := Lib.hid (by
        unfold idxZ
        rw [if_pos (idx_none (fun j hj => HJ.out j hj (by rw [← HL.out]; exact hj)))])
      clear HR HL HJ
      go_wp2_with fail
      go_ret
      exact ⟨by rw [HI.out]; rfl, B5.out⟩

end Go.Proofs.Yteddeebhfnpchaa

namespace Go.Proofs.Yteddeebhfnpchaa
open Go.RowKit
set_option linter.unusedVariables false

/-- A row of the caller's own, in memory newer than W0, that is handed back. -/
def GivesIn (W0 : World) (L : List SpanZ) (e : Ending) (w' : World) : Prop := ∃ V, e = .returned V ∧ SpOut W0 w' V L
/-- A new block that is written whole is a new block. -/
theorem alloc_setRow (w : World) (cs ds : Array Value) (t : TypeId) : (w.alloc (.cells cs t)).setRow w.heap.size ds = w.alloc (.cells ds t) := by
  unfold World.setRow World.alloc
  simp only
  congr 1
  apply Array.ext_getElem?
  intro k
  rw [Array.getElem?_modify]
  by_cases h : w.heap.size = k
  · subst h
    simp
  · rw [if_neg h, Array.getElem?_push, Array.getElem?_push, if_neg (fun e => h e.symm), if_neg (fun e => h e.symm)]

/-- What DeleteFunc's loop has come to: of the first j those that may be stand first. -/
def DelAt (L : List SpanZ) (i j : Nat) (R : List SpanZ) : Prop := R.length = L.length ∧ i < j ∧ R.take i = (L.take j).filter rightS ∧ R.drop j = L.drop j
theorem del_start {L : List SpanZ} (h : ¬ (L.takeWhile rightS).length = L.length) : (L.takeWhile rightS).length < L.length ∧ DelAt L (L.takeWhile rightS).length ((L.takeWhile rightS).length + 1) L := by
  have key : ∀ M : List SpanZ, ¬ (M.takeWhile rightS).length = M.length → (M.takeWhile rightS).length < M.length ∧ M.take (M.takeWhile rightS).length = (M.take ((M.takeWhile rightS).length + 1)).filter rightS := by
    intro M
    induction M with
    | nil => intro h; exact absurd rfl h
    | cons s r ih =>
      intro h
      cases hs : rightS s with
      | true =>
        simp only [List.takeWhile, hs, List.length_cons] at h ⊢
        obtain ⟨h1, h2⟩ := ih (by omega)
        refine ⟨by omega, ?_⟩
        rw [List.take_succ_cons, List.take_succ_cons, List.filter_cons_of_pos hs, ← h2]
      | false =>
        simp [List.takeWhile, hs]
  obtain ⟨h1, h2⟩ := key L h
  exact ⟨h1, rfl, Nat.lt_succ_self _, h2, rfl⟩
theorem all_right : ∀ {L : List SpanZ}, (L.takeWhile rightS).length = L.length → L.filter rightS = L
  | [], _ => rfl
  | s :: r, h => by
    cases hs : rightS s with
    | true =>
      simp only [List.takeWhile, hs, List.length_cons] at h
      rw [List.filter_cons_of_pos hs, all_right (by omega)]
    | false => simp [List.takeWhile, hs] at h
theorem del_at {L R : List SpanZ} {i j : Nat} (h : DelAt L i j R) (hj : j < L.length) : R[j]'(by rw [h.1]; exact hj) = L[j] := by
  have hR : j < R.length := by rw [h.1]; exact hj
  have e := h.2.2.2
  rw [List.drop_eq_getElem_cons hR, List.drop_eq_getElem_cons hj] at e
  injection e
theorem del_next {L R : List SpanZ} {i j : Nat} (h : DelAt L i j R) (hj : j < L.length) : R.drop (j + 1) = L.drop (j + 1) := by
  have hR : j < R.length := by rw [h.1]; exact hj
  have e := h.2.2.2
  rw [List.drop_eq_getElem_cons hR, List.drop_eq_getElem_cons hj] at e
  injection e
theorem del_keep {L R : List SpanZ} {i j : Nat} (h : DelAt L i j R) (hj : j < L.length) (hr : rightS L[j] = true) : DelAt L (i + 1) (j + 1) (R.set i L[j]) := by
  have hi : i < R.length := by have := h.1; have := h.2.1; omega
  refine ⟨by rw [List.length_set]; exact h.1, by have := h.2.1; omega, ?_, ?_⟩
  · rw [(list_split L[j] hi).1, h.2.2.1, List.take_add_one, List.filter_append, List.getElem?_eq_getElem hj]
    simp [hr]
  · rw [List.drop_set_of_lt (by have := h.2.1; omega), del_next h hj]
theorem del_skip {L R : List SpanZ} {i j : Nat} (h : DelAt L i j R) (hj : j < L.length) (hr : rightS L[j] = false) : DelAt L i (j + 1) R := by
  refine ⟨h.1, by have := h.2.1; omega, ?_, del_next h hj⟩
  rw [h.2.2.1, List.take_add_one, List.filter_append, List.getElem?_eq_getElem hj]
  simp [hr]
theorem del_end {L R : List SpanZ} {i : Nat} (h : DelAt L i L.length R) : R.take i = L.filter rightS := by
  have := h.2.2.1
  rwa [List.take_length] at this

/-- clear of spans that stand in a row of the call's own. -/
theorem run_clear_span (w : World) (ty : TypeId) (g o n c : Nat) (hn : 0 < n) (ht : w.there g o (n * 33)) :
    (Builtin.clear_ #[22] ty #[.slice (some ⟨g, o, none⟩) n c]).run Try.prog w = .ok (.tuple #[]) (w.setCells g o (Builtin.zeroCells (scells zeroS) n).toList) ∧ (Builtin.zeroCells (scells zeroS) n).toList.length = n * 33 := by
  have hl : (Builtin.zeroCells (scells zeroS) n).toList.length = n * 33 := by
    simp [Builtin.zeroCells, scells_size zeroS_six]
  have hv : ∀ w, (zeroValue 30).run Try.prog w = .ok (.agg (scells zeroS)) w := fun w => by kernel_rfl
  have hst := run_storeCells_cells (P := Try.prog) g o (Builtin.zeroCells (scells zeroS) n).toList 0 w (fun j hj => (ht j (by rw [hl] at hj; exact hj)).1) (fun j hj => (ht j (by rw [hl] at hj; exact hj)).2) (fun v hv => by
    have hall := Array.all_eq_true_iff_forall_mem.1 (scells_one zeroS)
    obtain ⟨i, _, rfl⟩ := Array.mem_map.1 (Array.mem_toList_iff.1 hv)
    have hi : i % (scells zeroS).size < (scells zeroS).size := Nat.mod_lt _ (by rw [scells_size zeroS_six]; decide)
    rw [getElem!_pos (scells zeroS) (i % (scells zeroS).size) hi]
    exact hall _ (Array.getElem_mem hi))
  refine ⟨?_, hl⟩
  simp only [Nat.add_zero] at hst
  obtain ⟨m, rfl⟩ : ∃ m, n = m + 1 := ⟨n - 1, by omega⟩
  simp [Builtin.clear_, run_underlying Try.underlying22, hv, hst, Value.cells]

set_option maxHeartbeats 2000000 in
set_option maxRecDepth 10000 in
theorem delete_any (W0 w : World) (V : Value) (L : List SpanZ) (ho : SpOut W0 w V L) (hl : L.length ≤ 90000) :
    Calls Try.prog 36 #[V, .func (.func 38) #[] #[]] w (GivesIn W0 (L.filter rightS)) := by
  obtain ⟨a, c, rfl, hr, hA⟩ := ho.row
  have CI := Lib.hid (index_any a L.length c L w hr hl)
  have HO := Lib.hid ho
  by_cases hall : (L.takeWhile rightS).length = L.length
  · have ix : idxZ L = -1 := by unfold idxZ; rw [if_pos hall]
    rw [ix] at CI
    have FL := Lib.hid (all_right hall)
    clear ho hr hA ix hall
    go_enter Try.func36, Try.ntmps36
    go_wp2_with (refine CI.out.mono ?_; rintro r w2 ⟨rfl, hb2⟩; have O2 := Lib.hid (HO.out.below hb2); clear hb2)
    go_ret
    exact ⟨_, rfl, by rw [FL.out]; exact O2.out⟩
  · obtain ⟨hk, hst⟩ := del_start hall
    have ix : idxZ L = ((L.takeWhile rightS).length : Int) := by unfold idxZ; rw [if_neg hall]
    rw [ix] at CI
    have form := ho.form
    obtain ⟨g, cap, hV, hg0, hg1, hcap⟩ : ∃ g cap, Value.slice a L.length c = .slice (some ⟨g, 0, none⟩) L.length cap ∧ W0.heap.size ≤ g ∧ g < w.heap.size ∧ L.length ≤ cap := by
      rcases form with ⟨_, h0⟩ | h
      · rw [h0] at hk
        exact absurd hk (by simp)
      · exact h
    injection hV with e1 _ e2
    subst e1 e2
    have DS := Lib.hid hst
    have HK := Lib.hid hk
    generalize (L.takeWhile rightS).length = k at *
    clear ho hr hA ix hall form hst
    obtain ⟨n, hn⟩ : ∃ n, L.length = n := ⟨_, rfl⟩
    have HN := Lib.hid hn
    rw [hn] at CI HO hk hl hcap ⊢
    clear hn
    have kI : IntKind.i64.wrap ((k : Int) + 1) = (k : Int) + 1 := IntWalk.i64_in _ (by omega)
    go_enter Try.func36, Try.ntmps36
    have k1 : ((k : Int) == -1) = false := by simp
    go_wp2_with (refine CI.out.mono ?_; rintro r w2 ⟨rfl, hb2⟩; have O2 := Lib.hid (HO.out.below hb2); clear hb2)
    clear HO CI
    go_loopw [5, 6] (fun iV jV wr => ∃ (i j : Nat) (R : List SpanZ), iV = .int .i64 (i : Int) ∧ jV = .int .i64 (j : Int) ∧ j ≤ n ∧ DelAt L i j R ∧ SpOut W0 wr (.slice (some ⟨g, 0, none⟩) n c) R) (fun _ jV _ => ((n : Int) - intOf jV).toNat)
    case atStart => exact ⟨k, k + 1, L, rfl, by go_num, by omega, DS.out, O2.out⟩
    case round =>
      obtain ⟨i, j, R, rfl, rfl, hj, hd, ho⟩ := hrel
      have D5 := Lib.hid hd
      have O5 := Lib.hid ho
      have RL : Hid (R.length = n) := Lib.hid (by rw [hd.1]; exact HN.out)
      have hij := hd.2.1
      clear hd ho DS O2
      by_cases hlt : j < n
      · have t0 : decide ((j : Int) < (n : Int)) = true := decide_eq_true (by omega)
        have hjL : j < L.length := by rw [HN.out]; exact hlt
        have hjR : j < R.length := by rw [RL.out]; exact hlt
        obtain ⟨a', c', hV, hrow, _⟩ := O5.out.row
        injection hV with e1 e2 e3
        subst e1
        have ra := hrow.range j hjR
        rw [del_at D5.out hjL] at ra
        rw [Nat.zero_add] at ra
        have RG := Lib.hid ra
        have s6 := O5.out.2.2 _ (List.getElem_mem hjR)
        rw [del_at D5.out hjL] at s6
        have SZ : Hid ((Try.prog.info? 30).map (·.size) = some (scL L[j]).length) := Lib.hid (by rw [scL_len s6, Try.sizeS s6, scells_size s6])
        have SA : Hid ((Try.prog.info? 30).map (·.size) = some (scells L[j]).size) := Lib.hid (Try.sizeS s6)
        have ZA : Hid ((scells zeroS).size = (scells L[j]).size) := Lib.hid (by rw [scells_size s6, scells_size zeroS_six])
        have OA := Lib.hid (scells_one L[j])
        have C1 := Lib.hid (fun W => wrong_any L[j] W s6)
        have NK := Lib.hid (fun h => del_keep D5.out hjL h)
        have NS := Lib.hid (fun h => del_skip D5.out hjL h)
        have ST := Lib.hid (fun (W : World) (h : SpOut W0 W (.slice (some ⟨g, 0, none⟩) n c) R) => h.set RL.out.symm hg0 i (by rw [RL.out]; omega) s6)
        have TH := Lib.hid (fun (W : World) (h : SpOut W0 W (.slice (some ⟨g, 0, none⟩) n c) R) => h.there RL.out.symm (i * 33) (scells L[j]).size (by rw [scells_size s6]; omega))
        have BX : Hid (Blk (wr.alloc (.cells (scells L[j]) 30)) wr.heap.size 30 (scells L[j])) := Lib.hid (sbox wr L[j])
        have OX := Lib.hid (O5.out.below (box_below wr (.cells (scells L[j]) 30)))
        have i0 : (0 : Int) ≤ (j : Int) := by omega
        have i1 : (j : Int) < (n : Int) := by omega
        have i2 : (0 : Int) ≤ (i : Int) := by omega
        have i3 : (i : Int) < (n : Int) := by omega
        have iI : IntKind.i64.wrap ((i : Int) + 1) = (i : Int) + 1 := IntWalk.i64_in _ (by omega)
        have jI : IntKind.i64.wrap ((j : Int) + 1) = (j : Int) + 1 := IntWalk.i64_in _ (by omega)
        have AZ : Hid (Blk (wr.alloc (.cells (scells zeroS) 30)) wr.heap.size 30 (scells zeroS)) := Lib.hid (sbox wr zeroS)
        clear s6 hrow ra e2 e3 HN RL
        generalize hs : L[j] = s at *
        have hq' : rightS s = rightZ s.v s.lo s.hi := rfl
        rw [hq'] at NK NS
        generalize rightZ s.v s.lo s.hi = q at *
        clear hs hq' D5
        have SL : Hid ((scL s).toArray = scells s) := Lib.hid rfl
        go_upto_region 8 with (first
          | (refine wpList_load_mid rfl 30 (.tmp 24) rfl g (j * 33) rfl (scL s) _ RG.out Try.underlying30 rfl SZ.out ?_; rw [SL.out])
          | (refine Great.wpList_allocTo rfl (some 7) rfl (.pointer (some ⟨wr.heap.size, 0, none⟩)) (.cells (scells zeroS) 30) rfl ?_)
          | (refine wpList_store_rowTo rfl 30 (.tmp 7) (.tmp 25) rfl rfl wr.heap.size (scells s) rfl rfl 30 (scells zeroS) AZ.out SA.out ZA.out OA.out ?_; rw [alloc_setRow]))
        clear O5 RG AZ
        generalize wr.alloc (.cells (scells s) 30) = w3 at *
        generalize wr.heap.size = gb at *
        have SM : Hid (wr = wr) := Lib.hid rfl
        clear SM
        cases q with
        | true =>
          have N7 := Lib.hid (NK.out rfl)
          clear NK NS
          go_wp2_with (first
            | (refine wpList_load_row rfl 30 (.tmp 7) rfl gb rfl 30 (scells s) (0, 0) _ BX.out Try.underlying30 rfl SA.out ?_)
            | (refine (C1.out _).mono ?_
               rintro r w6 ⟨rfl, hb6⟩
               have O6 := Lib.hid (OX.out.below hb6)
               replace BX := Lib.hid (BX.out.below hb6 BX.out.lt)
               have T6 := Lib.hid (TH.out _ O6.out)
               have S6 := Lib.hid (ST.out _ O6.out)
               clear hb6)
            | (refine wpList_store_mid rfl 30 (.tmp 33) (.tmp 32) rfl g (i * 33) (scells s) rfl rfl T6.out SA.out OA.out ?_))
          go_roundw
          case rel => exact ⟨i + 1, j + 1, _, by go_num, by go_num, by omega, N7.out, S6.out⟩
          case measure => simp only [intOf]; omega
        | false =>
          have N7 := Lib.hid (NS.out rfl)
          clear NK NS
          go_wp2_with (first
            | (refine wpList_load_row rfl 30 (.tmp 7) rfl gb rfl 30 (scells s) (0, 0) _ BX.out Try.underlying30 rfl SA.out ?_)
            | (refine (C1.out _).mono ?_
               rintro r w6 ⟨rfl, hb6⟩
               have O6 := Lib.hid (OX.out.below hb6)
               clear hb6))
          go_roundw
          case rel => exact ⟨i, j + 1, R, rfl, by go_num, by omega, N7.out, O6.out⟩
          case measure => simp only [intOf]; omega
      · obtain rfl : j = n := by omega
        have t0 : decide ((j : Int) < (j : Int)) = false := decide_eq_false (by omega)
        have e0 := O5.out
        obtain ⟨e1, e2⟩ := run_clear_span wr 0 g (i * 33) (j - i) (c - i) (by omega) (e0.there RL.out.symm _ _ (by omega))
        have hcl : ∀ ty, (Builtin.clear_ #[22] ty #[.slice (some ⟨g, i * 33, none⟩) (j - i) (c - i)]).run Try.prog wr = .ok (.tuple #[]) (wr.setCells g (i * 33) (Builtin.zeroCells (scells zeroS) (j - i)).toList) := fun ty => (run_clear_span wr ty g (i * 33) (j - i) (c - i) (by omega) (e0.there RL.out.symm _ _ (by omega))).1
        have O7 := Lib.hid (e0.clear RL.out.symm hg0 i (by rw [RL.out]; omega) _ (by rw [RL.out]; exact e2))
        have DE := Lib.hid (del_end (show DelAt L i L.length R by rw [HN.out]; exact D5.out))
        rw [DE.out] at O7
        have i0 : (0 : Int) ≤ (i : Int) := by omega
        have i1 : (i : Int) ≤ (j : Int) := by omega
        have i2 : (j : Int) ≤ (c : Int) := by omega
        have i3 : (i : Int) ≤ (c : Int) := by omega
        clear e0 e1 e2 O5 D5 HN RL DE
        generalize wr.setCells g (i * 33) (Builtin.zeroCells (scells zeroS) (j - i)).toList = w7 at *
        go_wp2_with fail
        go_ret
        exact ⟨_, rfl, O7.out⟩

end Go.Proofs.Yteddeebhfnpchaa

namespace Go.Proofs.Yteddeebhfnpchaa
open Go.RowKit
set_option linter.unusedVariables false

theorem results_row_val {P : Program} {fn : Func} {p u : Tmp} {ty : TypeId} (h : fn.results = #[.cell p ty, .tmp u]) (tmps : Array Value) (w : World) (g : Nat) (t : TypeId) (cs : Array Value) (fr : Nat × Nat) (d : TypeDesc)
    (hp : tmps.getD p undef = .pointer (some ⟨g, 0, none⟩)) (hg : w.heap[g]? = some (.cells cs t fr))
    (hu : P.underlying ty = some d) (hd : (match d with | .struct _ | .array _ _ => true | _ => false) = true) (hi : (P.info? ty).map (·.size) = some cs.size) :
    (results fn tmps).run P w = .ok (.tuple #[.agg cs, tmps.getD u undef]) w := by
  rw [results_cell_tmp h, hp]
  simp [asAddr, run_loadVar_row w g t ty cs fr d hg hu hd hi, Result.andThen]
theorem build1_to {P : Program} {ops : Array Oper} {rest : List Oper} {o : Oper} {a : Act} {w : World} {Q : Exit → Act → World → Prop} (hg : o.guard = none) (t : TypeId) (parts : Array (Nat × Operand)) (ho : o.op = .build t parts)
    (d : Option Tmp) (hd : o.dst = d) (cells : Array Value) (ps : List (Nat × Value)) (hb : P.built t ps = some cells) (hps : (parts.map fun (i, x) => (i, a.eval x)).toList = ps)
    (h : wpList P ops Q rest (a.put d (.agg cells)) w) : wpList P ops Q (o :: rest) a w := by
  subst hps
  exact wpList_buildTo hg t parts ho d hd cells hb h
/-- The span of a prefix's addresses. -/
def ofS (v : Bool) (A : List Int) (L : Int) : SpanZ := if rightA v A L then ⟨v, A, hiA v A L⟩ else zeroS
def ofE (v : Bool) (A : List Int) (L : Int) : Int := if rightA v A L then 0 else 1
theorem ofS_six {v : Bool} {A : List Int} {L : Int} (hA : Sixteen A) : SixS (ofS v A L) := by
  unfold ofS
  split
  · exact ⟨hA, hiA_ok hA (by assumption)⟩
  · exact zeroS_six
theorem built_zero : Try.prog.built 30 [] = some (scells zeroS) := by kernel_rfl

set_option maxHeartbeats 2000000 in
set_option maxRecDepth 10000 in
theorem of_any (v : Bool) (A : List Int) (L : Int) (w : World) (hA : Sixteen A) (l0 : -9223372036854775808 ≤ L) (l1 : L ≤ 9223372036854775807) :
    Calls Try.prog 18 #[.agg (pcells v A L)] w fun e w' => e = .returned (.tuple #[.agg (scells (ofS v A L)), .int .i64 (ofE v A L)]) ∧ Below w.heap.size w w' := by
  have BX : Hid (PBlk ((w.alloc (.cells (pcells v A L) 37)).alloc (.cells (scells zeroS) 30)) w.heap.size v A L) := Lib.hid (Blk.alloc (pbox w v A L) _)
  have BZ : Hid (Blk ((w.alloc (.cells (pcells v A L) 37)).alloc (.cells (scells zeroS) 30)) (w.heap.size + 1) 30 (scells zeroS)) := Lib.hid (by
    have := Blk.new (w.alloc (.cells (pcells v A L) 37)) 30 (scells zeroS)
    rwa [World.size_alloc] at this)
  have BW := Lib.hid (Below.step (box_below w (.cells (pcells v A L) 37)) (box_below _ (.cells (scells zeroS) 30)))
  have C1 := Lib.hid (fun W => right_any v A L W hA l0 l1)
  have C2 := Lib.hid (fun W => bytesof_any v W)
  have HA := Lib.hid hA
  have SP := Lib.hid (Try.sizeP (v := v) (L := L) hA.1)
  have SZ := Lib.hid (Try.sizeA hA.1)
  have Z0 := Lib.hid (Try.sizeS zeroS_six)
  have O0 := Lib.hid (scells_one zeroS)
  have UZ := Lib.hid built_zero
  have US := Lib.hid (built_span v A A hA.1 hA.1)
  have SA : Hid ((Try.prog.info? 30).map (·.size) = some (scells ⟨v, A, A⟩).size) := Lib.hid (Try.sizeS ⟨hA, hA⟩)
  have ZA : Hid ((scells zeroS).size = (scells ⟨v, A, A⟩).size) := Lib.hid (by rw [scells_size (s := ⟨v, A, A⟩) ⟨hA, hA⟩, scells_size zeroS_six])
  have OA := Lib.hid (scells_one ⟨v, A, A⟩)
  have OT : rightA v A L = true → Hid (ofS v A L = ⟨v, A, hiTo A L.toNat (famN v)⟩ ∧ ofE v A L = 0) := fun h => Lib.hid ⟨by unfold ofS; rw [if_pos h]; rfl, by unfold ofE; rw [if_pos h]⟩
  have OF : rightA v A L = false → Hid (ofS v A L = zeroS ∧ ofE v A L = 1) := fun h => Lib.hid ⟨by unfold ofS; rw [if_neg (by rw [h]; simp)], by unfold ofE; rw [if_neg (by rw [h]; simp)]⟩
  have RB : rightA v A L = true → Hid ((0 ≤ L ∧ L ≤ 128) ∧ ∀ j, j < 16 → A[j]?.getD 0 = keepB (A[j]?.getD 0) (keepK L.toNat j)) := fun h => Lib.hid ⟨by have := (right_is v A L).1 h; have := most_le v; omega, fun j hj => right_byte hA h hj⟩
  have HO : rightA v A L = true → Hid (∀ i, Sixteen (hiTo A L.toNat i)) := fun h => Lib.hid (fun i => hiTo_ok hA h i)
  have cv := BX.out.v
  have cl := BX.out.l hA.1
  have RA := Lib.hid (PBlk.range BX.out hA.1)
  clear hA
  go_enter Try.func18, Try.ntmps18
  go_upto_region 1 with (fail)
  change Code.wp _ _ _ _ ((w.alloc (.cells (pcells v A L) 37)).alloc (.cells (scells zeroS) 30))
  generalize (w.alloc (.cells (pcells v A L) 37)).alloc (.cells (scells zeroS) 30) = w2 at *
  cases hr : rightA v A L with
  | false =>
    rw [hr] at C1
    obtain ⟨E1, E2⟩ := (OF hr).out
    have F1 := Lib.hid E1
    have F2 := Lib.hid E2
    clear OT OF RB HO E1 E2 hr cl cv RA
    unfold PBlk at BX
    generalize pcells v A L = PC at *
    go_wp2_with (first
      | (refine wpList_load_row rfl 37 (.tmp 1) rfl w.heap.size rfl 37 PC (0, 0) _ BX.out Try.underlying37 rfl SP.out ?_)
      | (refine (C1.out _).mono ?_; rintro r w3 ⟨rfl, hb3⟩; have B3 := Lib.hid (Below.step BW.out hb3); have Z3 := Lib.hid (Blk.below BZ.out hb3 BZ.out.lt); clear hb3)
      | (refine build1_to rfl 30 #[] rfl (some 9) rfl (scells zeroS) _ UZ.out (by kernel_rfl) ?_)
      | (refine wpList_store_rowTo rfl 30 (.tmp 2) (.tmp 9) rfl rfl (w.heap.size + 1) (scells zeroS) rfl rfl 30 (scells zeroS) Z3.out Z0.out rfl O0.out ?_))
    exact bodyPost_ret (results_row_val (p := 2) (u := 3) rfl _ _ (w.heap.size + 1) 30 (scells zeroS) (0, 0) _ rfl (setRow_heap _ _ _ _ 30 _ Z3.out) Try.underlying30 rfl Z0.out) rfl ⟨by rw [F1.out, F2.out]; rfl, below_setRow B3.out (by omega) _⟩
  | true =>
    rw [hr] at C1
    obtain ⟨E1, E2⟩ := (OT hr).out
    have F1 := Lib.hid E1
    have F2 := Lib.hid E2
    obtain ⟨⟨b0, b1⟩, e3⟩ := (RB hr).out
    have RB2 := Lib.hid e3
    have HO2 := HO hr
    clear OT OF RB HO E1 E2 hr e3 UZ cl cv RA
    obtain ⟨c, rfl⟩ : ∃ c : Nat, L = (c : Int) := ⟨L.toNat, by omega⟩
    rw [Int.toNat_natCast] at RB2 HO2 F1
    have X2 := BX
    unfold PBlk at X2
    generalize hpc : pcells v A (c : Int) = PC at *
    go_upto_region 3 with (first
      | (refine wpList_load_row rfl 37 (.tmp 1) rfl w.heap.size rfl 37 PC (0, 0) _ X2.out Try.underlying37 rfl SP.out ?_)
      | (refine (C1.out _).mono ?_; rintro r w3 ⟨rfl, hb3⟩; have B3 := Lib.hid (Below.step BW.out hb3); have Z3 := Lib.hid (Blk.below BZ.out hb3 BZ.out.lt); have X3 := Lib.hid (PBlk.below BX.out hb3 BX.out.lt); clear hb3))
    clear X2 BX BZ BW SP C1 hpc
    have cv := X3.out.v
    have RA := Lib.hid (PBlk.range X3.out HA.out.1)
    have AZ : Hid (Blk (w3.alloc (.cells (scells zeroS) 30)) w3.heap.size 30 (scells zeroS)) := Lib.hid (sbox w3 zeroS)
    have S4 : Hid (SBlk (w3.alloc (.cells (scells ⟨v, A, A⟩) 30)) w3.heap.size ⟨v, A, A⟩) := Lib.hid (sbox w3 ⟨v, A, A⟩)
    have X4 := Lib.hid (PBlk.below X3.out (box_below w3 (.cells (scells ⟨v, A, A⟩) 30)) X3.out.lt)
    have Z4 := Lib.hid (Blk.below Z3.out (box_below w3 (.cells (scells ⟨v, A, A⟩) 30)) Z3.out.lt)
    have B4 := Lib.hid (Below.step B3.out (box_below w3 (.cells (scells ⟨v, A, A⟩) 30)))
    have HG4 : Hid (w.heap.size < w3.heap.size ∧ (w.heap.size + 1) < w3.heap.size) := Lib.hid ⟨X3.out.lt, Z3.out.lt⟩
    go_upto_region 4 with (first
      | (refine wpList_load_mid rfl 28 (.tmp 12) rfl w.heap.size 1 rfl (acells A) _ RA.out Try.underlying28 rfl SZ.out ?_)
      | (refine wpList_load_mid rfl 28 (.tmp 14) rfl w.heap.size 1 rfl (acells A) _ RA.out Try.underlying28 rfl SZ.out ?_)
      | (refine build1_to rfl 30 #[(0, .tmp 11), (1, .tmp 13), (2, .tmp 15)] rfl (some 16) rfl (scells ⟨v, A, A⟩) _ US.out (by kernel_rfl) ?_)
      | (refine Great.wpList_allocTo rfl (some 4) rfl (.pointer (some ⟨w3.heap.size, 0, none⟩)) (.cells (scells zeroS) 30) rfl ?_)
      | (refine wpList_store_rowTo rfl 30 (.tmp 4) (.tmp 16) rfl rfl w3.heap.size (scells ⟨v, A, A⟩) rfl rfl 30 (scells zeroS) AZ.out SA.out ZA.out OA.out ?_; rw [alloc_setRow]))
    clear AZ X3 Z3 B3 RA cv SA ZA OA US
    generalize w3.alloc (.cells (scells ⟨v, A, A⟩) 30) = w4 at *
    generalize w3.heap.size = gs at *
    have cv := X4.out.v
    go_wp2_with (refine (C2.out _).mono ?_; rintro r w5 ⟨rfl, rfl⟩)
    clear C2 cv
    go_loopw [20] (fun iV wr => ∃ i : Nat, iV = .int .i64 (i : Int) ∧ i ≤ famN v ∧ SBlk wr gs ⟨v, A, hiTo A c i⟩ ∧ PBlk wr w.heap.size v A (c : Int) ∧ Blk wr (w.heap.size + 1) 30 (scells zeroS) ∧ Below w.heap.size w wr) (fun iV _ => ((famN v : Int) - intOf iV).toNat)
    case atStart => exact ⟨0, rfl, Nat.zero_le _, by rw [hiTo_start HA.out.1]; exact S4.out, X4.out, Z4.out, B4.out⟩
    case round =>
      obtain ⟨i, rfl, hi, hs, hx, hz, hb⟩ := hrel
      have S5 := Lib.hid hs
      have X5 := Lib.hid hx
      have Z5 := Lib.hid hz
      have B5 := Lib.hid hb
      clear hs hx hz hb S4 X4 Z4 B4
      have f16 : famN v ≤ 16 := by cases v <;> simp [famN]
      by_cases hlt : i < famN v
      · have t0 : decide ((i : Int) < (famN v : Int)) = true := decide_eq_true (by omega)
        have hi16 : i < 16 := by omega
        have ha : Sixteen (hiTo A c i) := HO2.out i
        have e1 : (hiTo A c i)[i]?.getD 0 = A[i]?.getD 0 := by rw [hiTo_at A c i hi16, if_neg (by omega)]
        have cz := (Blk.cell S5.out (17 + i)).trans (scells_hi (s := ⟨v, A, hiTo A c i⟩) ⟨HA.out, ha⟩ i hi16)
        rw [show ((⟨v, A, hiTo A c i⟩ : SpanZ).hi)[i]?.getD 0 = A[i]?.getD 0 from e1] at cz
        have fz := Blk.free S5.out (17 + i)
        have cl := X5.out.l HA.out.1
        have zr := sixteen_at0 HA.out i hi16
        have kb := RB2.out i hi16
        have OR := or_fill zr.1 zr.2 (keepK_le c i) kb
        obtain ⟨m, hm⟩ : ∃ m : Nat, max ((c : Int) - 8 * (i : Int)) 0 = (m : Int) := ⟨(max ((c : Int) - 8 * (i : Int)) 0).toNat, by omega⟩
        have hmk : keepK c i = min m 8 := by unfold keepK; omega
        have SH := shr_any (m := m) (by omega)
        have SH2 : (255 : Int) / 2 ^ min m 8 = 2 ^ (8 - keepK c i) - 1 := by rw [← hmk]; exact shr_keep (keepK_le c i)
        clear SH
        have NX := Lib.hid (hiTo_next A c hi16)
        have ST := Lib.hid (fun (W : World) (h : SBlk W gs ⟨v, A, hiTo A c i⟩) (x : Int) => SBlk.setHi h ⟨HA.out, ha⟩ i hi16 x)
        have m1 : IntKind.i64.wrap (8 * (i : Int)) = 8 * (i : Int) := IntWalk.i64_in _ (by omega)
        have m2 : IntKind.i64.wrap ((c : Int) - 8 * (i : Int)) = (c : Int) - 8 * (i : Int) := IntWalk.i64_in _ (by omega)
        have iI : (i : Int) < 16 := by omega
        have i0 : (0 : Int) ≤ (i : Int) := by omega
        have jI : IntKind.i64.wrap ((i : Int) + 1) = (i : Int) + 1 := IntWalk.i64_in _ (by omega)
        unfold oneB at NX
        clear kb e1 hmk ha
        generalize (2 : Int) ^ (8 - keepK c i) - 1 = y at *
        generalize A[i]?.getD 0 = z at *
        go_upto_region 7 with (fail)
        have cz' : ∀ W, KeepL w.heap.size wr.drew W → Hid (W = wr.drew) → W.cell? ⟨gs, 17 + i, none⟩ = some (.int .u8 z) := fun W _ h => by rw [h.out]; exact cz
        have cz2 : wr.drew.cell? ⟨gs, 17 + i, none⟩ = some (.int .u8 z) := cz
        have cl' : wr.drew.cell? ⟨w.heap.size, 17, none⟩ = some (.int .i64 (c : Int)) := cl
        have fz' : wr.drew.frozen? ⟨gs, 17 + i, none⟩ = false := fz
        clear cz'
        go_region
        have S7 : Hid (SBlk (wr.setCell ⟨gs, 17 + i, none⟩ (.int .u8 (z + y))).drew gs ⟨v, A, hiTo A c (i + 1)⟩) := Lib.hid (show SBlk (wr.setCell ⟨gs, 17 + i, none⟩ (.int .u8 (z + y))) gs ⟨v, A, hiTo A c (i + 1)⟩ from by rw [← NX.out]; exact ST.out wr S5.out _)
        have X7 : Hid (PBlk (wr.setCell ⟨gs, 17 + i, none⟩ (.int .u8 (z + y))).drew w.heap.size v A (c : Int)) := Lib.hid (show Blk (wr.setCell ⟨gs, 17 + i, none⟩ (.int .u8 (z + y))) w.heap.size _ _ from Blk.far X5.out (by have := HG4.out; omega) (17 + i) _)
        have Z7 : Hid (Blk (wr.setCell ⟨gs, 17 + i, none⟩ (.int .u8 (z + y))).drew (w.heap.size + 1) 30 (scells zeroS)) := Lib.hid (show Blk (wr.setCell ⟨gs, 17 + i, none⟩ (.int .u8 (z + y))) (w.heap.size + 1) _ _ from Blk.far Z5.out (by have := HG4.out; omega) (17 + i) _)
        have B7 : Hid (Below w.heap.size w (wr.setCell ⟨gs, 17 + i, none⟩ (.int .u8 (z + y))).drew) := Lib.hid (Below.step (Below.setCell B5.out (p := ⟨gs, 17 + i, none⟩) (by have := HG4.out; show w.heap.size ≤ gs; omega) _) (drewN_below _ 1))
        clear S5 X5 Z5 B5 ST NX cz fz cl cz2 cl' fz' OR SH2
        generalize (wr.setCell ⟨gs, 17 + i, none⟩ (.int .u8 (z + y))).drew = w7 at *
        go_wp2_with fail
        go_roundw
        case rel => exact ⟨i + 1, by go_num, by omega, S7.out, X7.out, Z7.out, B7.out⟩
        case measure => simp only [intOf]; omega
      · obtain rfl : i = famN v := by omega
        have t0 : decide ((famN v : Int) < (famN v : Int)) = false := decide_eq_false (by omega)
        have s6 : SixS ⟨v, A, hiTo A c (famN v)⟩ := ⟨HA.out, HO2.out _⟩
        have SA : Hid ((Try.prog.info? 30).map (·.size) = some (scells ⟨v, A, hiTo A c (famN v)⟩).size) := Lib.hid (Try.sizeS s6)
        have ZA : Hid ((scells zeroS).size = (scells ⟨v, A, hiTo A c (famN v)⟩).size) := Lib.hid (by rw [scells_size s6, scells_size zeroS_six])
        have OA := Lib.hid (scells_one ⟨v, A, hiTo A c (famN v)⟩)
        clear s6 RB2 HO2
        unfold SBlk at S5
        generalize hsp : scells ⟨v, A, hiTo A c (famN v)⟩ = F at *
        go_wp2_with (first
          | (refine wpList_load_row rfl 30 (.tmp 4) rfl gs rfl 30 F (0, 0) _ S5.out Try.underlying30 rfl SA.out ?_)
          | (refine wpList_store_rowTo rfl 30 (.tmp 2) (.tmp 38) rfl rfl (w.heap.size + 1) F rfl rfl 30 (scells zeroS) Z5.out SA.out ZA.out OA.out ?_))
        exact bodyPost_ret (results_row_val (p := 2) (u := 3) rfl _ _ (w.heap.size + 1) 30 F (0, 0) _ rfl (setRow_heap _ _ _ _ 30 _ Z5.out) Try.underlying30 rfl SA.out) rfl ⟨by rw [F1.out, F2.out, hsp]; rfl, below_setRow B5.out (by omega) _⟩

end Go.Proofs.Yteddeebhfnpchaa

namespace Go.Proofs.Yteddeebhfnpchaa
open Go.RowKit
set_option linter.unusedVariables false

/-- The blocks of O that there are lie as they lay. -/
structure Kept (O : Nat → Prop) (W W' : World) : Prop where
  os : W'.os = W.os
  tape : W'.tape = W.tape
  output : W'.output = W.output
  size : W.heap.size ≤ W'.heap.size
  block : ∀ k, k < W.heap.size → O k → W'.heap[k]? = W.heap[k]?
theorem Kept.refl (O : Nat → Prop) (W : World) : Kept O W W := ⟨rfl, rfl, rfl, Nat.le_refl _, fun _ _ _ => rfl⟩
theorem Kept.trans {O : Nat → Prop} {A B C : World} (h : Kept O A B) (k : Kept O B C) : Kept O A C :=
  ⟨k.os.trans h.os, k.tape.trans h.tape, k.output.trans h.output, Nat.le_trans h.size k.size, fun i hi ho => (k.block i (Nat.lt_of_lt_of_le hi h.size) ho).trans (h.block i hi ho)⟩
theorem Kept.fewer {O O' : Nat → Prop} {A B : World} (h : Kept O A B) (hO : ∀ k, O' k → O k) : Kept O' A B := ⟨h.os, h.tape, h.output, h.size, fun i hi ho => h.block i hi (hO i ho)⟩
theorem Kept.of_below {O : Nat → Prop} {A B : World} (h : Below A.heap.size A B) : Kept O A B := ⟨h.os, h.tape, h.output, h.size, fun i hi _ => h.block i hi⟩
theorem Kept.setCell {O : Nat → Prop} {A B : World} (h : Kept O A B) {p : Addr} (hp : ¬ O p.block) (v : Value) : Kept O A (B.setCell p v) :=
  h.trans ⟨rfl, rfl, rfl, by simp [World.setCell], fun i hi ho => Below.heap_setCell _ _ _ _ (fun e => hp (e ▸ ho))⟩
theorem Kept.putObj {O : Nat → Prop} {A B : World} (h : Kept O A B) {l : Nat} (hl : ¬ O l) (o : Obj) : Kept O A (B.putObj l o) :=
  h.trans ⟨rfl, rfl, rfl, by simp, fun i hi ho => World.putObj_heap_other (fun e => hl (e ▸ ho))⟩
theorem Kept.all_below {B : Nat} {A W : World} (h : Kept (fun k => k < B) A W) (hB : B ≤ A.heap.size) : Below B A W := ⟨h.os, h.tape, h.output, h.size, fun i hi => h.block i (by omega) hi⟩

/-- An iterator's contract: the xs come, one by one, in this order, or a round says 'no more'. -/
def IterAt {α : Type} (P : Program) (g : FuncId) (lb : Array Value) (encs : α → Array Value) (xs : List α) (Cap : Nat → Prop) (W : World) : Prop :=
  ∀ (n m l : Nat) (J : List α → (Nat → Prop) → World → Prop) (Jx : World → Prop) (O : Nat → Prop),
    (∀ pre O W1 W2, J pre O W1 → Kept O W1 W2 → J pre O W2) → (∀ pre O W1, J pre O W1 → ∀ k, O k → k < W1.heap.size) →
    (∀ pre x O W1, J pre O W1 → pre ++ [x] <+: xs → YieldAt Fence.wide m P l (encs x) W1 fun e W' =>
      (e = .returned (.bool true) ∧ ∃ O', J (pre ++ [x]) O' W' ∧ Kept (fun k => ¬ O k) W1 W' ∧ ∀ k, O' k → O k ∨ W1.heap.size ≤ k) ∨ (e = .returned (.bool false) ∧ Jx W')) →
    J [] O W → (∀ k, Cap k → ¬ O k) →
    CallsIn Fence.wide n P g (#[.func (.yield l) #[] #[]] ++ lb) W fun e W' => (∃ v, e = .returned v) ∧ ((∃ O', J xs O' W') ∨ Jx W')

theorem zip_one (t : Array Value) (p : Tmp) (v : Value) : (#[p].zip #[v]).foldl (fun t (p, v) => t.setIfInBounds p v) t = t.setIfInBounds p v := by simp

/-- How the body of a round may be left. -/
def RoundEnd {α : Type} (I : List α → (Nat → Prop) → World → Prop) (Ix : Code → World → Prop) (xs : List α) (O : Nat → Prop) (s : Nat) (W : World) : Exit → Act → World → Prop
  | .normal, _, W' => Kept (fun k => ¬ O k) W W' ∧ ∃ O', I xs O' W' ∧ ∀ k, O' k → O k ∨ s ≤ k
  | .exit id, _, W' => Kept (fun k => ¬ O k) W W' ∧ Ix (.exit id) W'
  | _, _, _ => False

set_option maxHeartbeats 1000000 in
/-- THE LAW. -/
theorem wp_range {α : Type} {P : Program} {n : Nat} {g : Operand} {ps : Array Tmp} {assign body : Code} {Q : Exit → Act → World → Prop} {a : Act} {w : World}
    {gf : Nat} {lb : Array Value} (hg : a.eval g = .func (.func gf) #[] lb) (eg : ∀ args w, (callFunc gf args).run P w = .ok (.enter gf args) w)
    {encs : α → Array Value} {xs : List α} {Cap : Nat → Prop} (hseq : ∀ W, Below w.heap.size w W → IterAt P gf lb encs xs Cap W) (hps : ∀ x, (encs x).size = ps.size) (hcap : ∀ k, Cap k → k < w.heap.size)
    (I : List α → (Nat → Prop) → World → Prop) (Ix : Code → World → Prop) (hI : ∀ pre O W1 W2, I pre O W1 → Kept O W1 W2 → I pre O W2) (hlt : ∀ pre O W1, I pre O W1 → ∀ k, O k → k < W1.heap.size)
    (hIx : ∀ c W1 W2, Ix c W1 → Kept (fun k => k ≠ w.heap.size + 1) W1 W2 → Ix c W2) (O0 : Nat → Prop) (h0 : I [] O0 w) (hc0 : ∀ k, Cap k → ¬ O0 k)
    (hround : ∀ (l : Nat) (pre : List α) (x : α) (O : Nat → Prop) (W : World), l = w.heap.size + 1 → I pre O W → ¬ O l → pre ++ [x] <+: xs → w.heap.size + 2 ≤ W.heap.size →
      assign.wpIn (Fence.wide.inRound l) n P (Exit.then (fun a₁ W₁ => Kept (fun k => ¬ O k) W W₁ ∧ ∀ W₂, Kept (fun k => k ≠ l) W₁ W₂ → W₂.heap.size = W₁.heap.size → body.wpIn (Fence.wide.inRound l) n P (RoundEnd I Ix (pre ++ [x]) O W.heap.size W₂) a₁ W₂) (fun _ _ _ => False))
        { tmps := (ps.zip (encs x)).foldl (fun t (p, v) => t.setIfInBounds p v) a.tmps, defers := [] } W)
    (hdone : ∀ (O : Nat → Prop) (W : World), I xs O W → W.heap[w.heap.size]? = some (.deferred (some [])) → w.heap.size < W.heap.size → Q .normal { a with defers := { target := .collected w.heap.size, args := #[] } :: a.defers } W)
    (hstop : ∀ (c : Code) (W : World), Ix c W → W.heap[w.heap.size]? = some (.deferred (some [])) → w.heap.size < W.heap.size → c.wpIn Fence.wide n P Q { a with defers := { target := .collected w.heap.size, args := #[] } :: a.defers } W) :
    (Code.rangeFunc g ps assign body).wpIn Fence.wide n P Q a w := by
  refine wpIn_rangeFunc ?_
  intro fn hfn
  obtain ⟨rec, hrec⟩ : ∃ rec : LoopState → Option Code → Loop, rec = fun st pe => { state := st, pending := pe, fn, tmps := a.tmps, params := ps, assign, body, defers := w.heap.size } := ⟨_, rfl⟩
  obtain ⟨l, hl⟩ : ∃ l, w.heap.size + 1 = l := ⟨_, rfl⟩
  obtain ⟨D, hD⟩ : ∃ D, w.heap.size = D := ⟨_, rfl⟩
  obtain ⟨W1, hW1⟩ : ∃ W1, (w.alloc (.deferred (some []))).alloc (.loop (rec .ready none)) = W1 := ⟨_, rfl⟩
  have b1 : Below w.heap.size w W1 := by
    rw [← hW1]
    exact ((Below.refl _ _).alloc (Nat.le_refl _) _).alloc (by simp) _
  have hL1 : W1.heap[l]? = some (.loop (rec .ready none)) := by
    rw [← hW1, ← hl]
    have := World.alloc_heap_new (w.alloc (.deferred (some []))) (.loop (rec .ready none))
    rwa [World.size_alloc] at this
  have hD1 : W1.heap[D]? = some (.deferred (some [])) := by
    rw [← hW1, ← hD]
    exact (Below.heap_alloc _ _ _ (by simp)).trans (World.alloc_heap_new w _)
  have hs1 : w.heap.size + 2 ≤ W1.heap.size := by rw [← hW1]; simp
  refine ⟨l, [{ target := .collected w.heap.size, args := #[] }], W1, { target := .fn (.func gf) lb, args := #[.func (.yield l) #[] #[]] }, W1, gf, #[.func (.yield l) #[] #[]] ++ lb, W1, ?_, ?_, ?_, ?_, ?_, ?_⟩
  · rw [← hW1, hrec, ← hl]
    exact run_enterLoop_outer _ _ _ _ _
  · simp only [resolve, hg]
    simp [go_sem]
  · intro f' hf'
    trivial
  · simp [invoke, go_sem, eg]
  · intro h
    cases h
  · refine (hseq W1 b1 (n - 1) n l
      (fun pre O W => ∃ O1, (∀ k, O k ↔ O1 k ∨ k = l ∨ k = D) ∧ I pre O1 W ∧ ¬ O1 l ∧ ¬ O1 D ∧ W.heap[l]? = some (.loop (rec .ready none)) ∧ W.heap[D]? = some (.deferred (some [])) ∧ w.heap.size + 2 ≤ W.heap.size)
      (fun W => ∃ c, Ix c W ∧ W.heap[l]? = some (.loop (rec .done (some c))) ∧ W.heap[D]? = some (.deferred (some [])) ∧ w.heap.size + 2 ≤ W.heap.size)
      (fun k => O0 k ∨ k = l ∨ k = D) ?_ ?_ ?_ ?_ ?_).mono ?_
    · rintro pre O A B ⟨O1, ho, hi, nl, nd, h1, h2, h3⟩ hk
      refine ⟨O1, ho, hI _ _ _ _ hi (hk.fewer (fun k h => (ho k).2 (.inl h))), nl, nd, ?_, ?_, Nat.le_trans h3 hk.size⟩
      · exact (hk.block l (by omega) ((ho l).2 (.inr (.inl rfl)))).trans h1
      · exact (hk.block D (by omega) ((ho D).2 (.inr (.inr rfl)))).trans h2
    · rintro pre O A ⟨O1, ho, hi, nl, nd, h1, h2, h3⟩ k hk
      rcases (ho k).1 hk with h | rfl | rfl
      · exact hlt _ _ _ hi k h
      · omega
      · omega
    · rintro pre x O W ⟨O1, ho, hi, nl, nd, h1, h2, h3⟩ hpre
      have hy := run_yield (P := P) (args := encs x) h1 (by rw [hrec]; exact hps x)
      rw [hrec] at hy
      refine ⟨fn, _, assign, body, hy, roundIn_of_wpIn hfn ?_⟩
      refine wpIn_mono (hround l pre x O1 W hl.symm hi nl hpre h3) ?_
      rintro e a1 Wa hp
      cases e with
      | normal =>
        obtain ⟨hka, hbody⟩ := hp
        have la : Wa.heap[l]? = some (.loop (rec .ready none)) := (hka.block l (by omega) nl).trans h1
        have da : Wa.heap[D]? = some (.deferred (some [])) := (hka.block D (by omega) nd).trans h2
        have sa := hka.size
        refine ⟨_, run_beginRound la (by rw [hrec]), ?_⟩
        have lb2 : (Wa.putObj l (.loop { rec .ready none with state := .busy })).heap[l]? = some (.loop { rec .ready none with state := .busy }) := World.putObj_heap_same (by omega)
        have db2 : (Wa.putObj l (.loop { rec .ready none with state := .busy })).heap[D]? = some (.deferred (some [])) := (World.putObj_heap_other (by omega)).trans da
        refine wpIn_mono (hbody _ ((Kept.refl _ _).putObj (fun h => h rfl) _) (by simp)) ?_
        rintro e2 a2 Wb hq
        have fin : ∀ (jump : Option Code), Kept (fun k => ¬ O1 k) (Wa.putObj l (.loop { rec .ready none with state := .busy })) Wb →
            (Instr.endRound l jump).run P Wb = .ok (.bool jump.isNone) (Wb.putObj l (.loop (rec (if jump.isNone then .ready else .done) jump))) ∧ l < Wb.heap.size ∧
            (Wb.putObj l (.loop (rec (if jump.isNone then .ready else .done) jump))).heap[D]? = some (.deferred (some [])) := fun jump hk => by
          have lc := (hk.block l (by simp; omega) nl).trans lb2
          have dc := (hk.block D (by simp; omega) nd).trans db2
          have := run_endRound (P := P) jump lc
          rw [hrec] at this ⊢
          exact ⟨this, (Array.getElem?_eq_some_iff.1 lc).1, (World.putObj_heap_other (by omega)).trans dc⟩
        cases e2 with
        | normal =>
          obtain ⟨hkb, O2, hi2, ho2⟩ := hq
          obtain ⟨hr, hlb, hdb⟩ := fin none hkb
          have sb := hkb.size
          simp only [World.putObj_size] at sb
          have nl2 : ¬ O2 l := fun h => by rcases ho2 l h with h | h; exact nl h; omega
          have nd2 : ¬ O2 D := fun h => by rcases ho2 D h with h | h; exact nd h; omega
          refine ⟨_, _, hr, .inl ⟨rfl, fun k => O2 k ∨ k = l ∨ k = D, ⟨O2, fun k => Iff.rfl, hI _ _ _ _ hi2 ((Kept.refl _ _).putObj nl2 _), nl2, nd2, ?_, hdb, by simp; omega⟩, ?_, fun k hk => ?_⟩⟩
          · exact World.putObj_heap_same hlb
          · have k1 : Kept (fun k => ¬ O k) W Wa := hka.fewer (fun k h h' => h ((ho k).2 (.inl h')))
            have nlO : ¬ (fun k => ¬ O k) l := fun h => h ((ho l).2 (.inr (.inl rfl)))
            have k2 : Kept (fun k => ¬ O k) W (Wa.putObj l (.loop { rec .ready none with state := .busy })) := k1.putObj nlO _
            exact (k2.trans (hkb.fewer (fun k h h' => h ((ho k).2 (.inl h'))))).putObj nlO _
          · rcases hk with h | rfl | rfl
            · rcases ho2 k h with h | h
              · exact .inl ((ho k).2 (.inl h))
              · exact .inr h
            · exact .inl ((ho k).2 (.inr (.inl rfl)))
            · exact .inl ((ho k).2 (.inr (.inr rfl)))
        | exit id =>
          obtain ⟨hkb, hx⟩ := hq
          obtain ⟨hr, hlb, hdb⟩ := fin (some (.exit id)) hkb
          have sb := hkb.size
          simp only [World.putObj_size] at sb
          refine ⟨_, _, hr, .inr ⟨rfl, .exit id, hIx _ _ _ hx (by rw [hl]; exact (Kept.refl _ _).putObj (fun h => h rfl) _), World.putObj_heap_same hlb, hdb, by simp; omega⟩⟩
        | ret => exact hq.elim
        | goto t => exact hq.elim
        | panic ch => exact hq.elim
        | outgrown => exact hq.elim
      | exit id => exact hp.elim
      | ret => exact hp.elim
      | goto t => exact hp.elim
      | panic ch => exact hp.elim
      | outgrown => exact hp.elim
    · exact ⟨O0, fun k => Iff.rfl, hI _ _ _ _ h0 (Kept.of_below b1), fun h => by have := hlt _ _ _ h0 _ h; omega, fun h => by have := hlt _ _ _ h0 _ h; omega, hL1, hD1, hs1⟩
    · rintro k hk (h | rfl | rfl)
      · exact hc0 k hk h
      · have := hcap _ hk; omega
      · have := hcap _ hk; omega
    · rintro e W2 ⟨⟨v, rfl⟩, (⟨O', O1, ho, hi, nl, nd, h1, h2, h3⟩ | ⟨c, hx, h1, h2, h3⟩)⟩
      · have he := run_endLoop (P := P) h1 (by rw [hrec]; simp)
        rw [hrec] at he
        refine ⟨none, _, he, ?_⟩
        exact hdone O1 _ (hI _ _ _ _ hi ((Kept.refl _ _).putObj nl _)) (by rw [hD]; exact (World.putObj_heap_other (by omega)).trans h2) (by simp; omega)
      · have he := run_endLoop (P := P) h1 (by rw [hrec]; simp)
        rw [hrec] at he
        refine ⟨some c, _, he, ?_⟩
        exact hstop c _ (hIx c _ _ hx (by rw [hl]; exact (Kept.refl _ _).putObj (fun h => h rfl) _)) (by rw [hD]; exact (World.putObj_heap_other (by omega)).trans h2) (by simp; omega)

end Go.Proofs.Yteddeebhfnpchaa

namespace Go.Proofs.Yteddeebhfnpchaa
open Go.RowKit
set_option linter.unusedVariables false

section
variable {F : Fence} {n : Nat} {P : Program} {ops : Array Oper} {rest : List Oper} {o : Oper} {a : Act} {Q : Exit → Act → World → Prop} {w : World}
theorem in_value (hF : ∀ f, F.fn f) (hg : o.guard = none) (hnd : ∀ c, o.op ≠ .defer c) (v : Value) (w' : World) (hrun : (execOp a.eval o).run P w = .ok (.value v) w') (h : wpListIn F n P ops Q rest (a.put o.dst v) w') : wpListIn F n P ops Q (o :: rest) a w := by
  refine wpListIn_plain hg fun K hK => ⟨fun f _ => hF f, ?_⟩
  rw [Oper.semAt_plain F _ _ hnd, hrun]
  exact hK _ _ h
theorem in_skip (hF : ∀ f, F.fn f) (hg : o.guard = none) (hnd : ∀ c, o.op ≠ .defer c) (w' : World) (hrun : (execOp a.eval o).run P w = .ok .skip w') (h : wpListIn F n P ops Q rest (a.put o.dst undef) w') : wpListIn F n P ops Q (o :: rest) a w := by
  refine wpListIn_plain hg fun K hK => ⟨fun f _ => hF f, ?_⟩
  rw [Oper.semAt_plain F _ _ hnd, hrun]
  exact hK _ _ h
theorem in_load_row (hF : ∀ f, F.fn f) (hg : o.guard = none) (ty : TypeId) (x : Operand) (ho : o.op = .load ty x) (g : Nat) (hx : a.eval x = .pointer (some ⟨g, 0, none⟩)) (t : TypeId) (cs : Array Value) (d : TypeDesc) (hb : Blk w g t cs)
    (hu : P.underlying ty = some d) (hd : (match d with | .struct _ | .array _ _ => true | _ => false) = true) (hi : (P.info? ty).map (·.size) = some cs.size)
    (h : wpListIn F n P ops Q rest (a.put o.dst (.agg cs)) w) : wpListIn F n P ops Q (o :: rest) a w := by
  refine in_value hF hg (by rw [ho]; intro c hc; cases hc) (.agg cs) w ?_ h
  unfold execOp
  simp only [ho, hx, Instr.loadAt, Instr.sureAddr, Sem.run_bind, Sem.run_pure, Result.andThen_ok, run_loadVar_row w g t ty cs (0, 0) d hb hu hd hi]
theorem in_load_rowG (hF : ∀ f, F.fn f) (hw : Region.wanted o (yielded ops a.tmps) = true) (ty : TypeId) (x : Operand) (ho : o.op = .load ty x) (g : Nat) (hx : a.eval x = .pointer (some ⟨g, 0, none⟩)) (t : TypeId) (cs : Array Value) (d : TypeDesc) (hb : Blk w g t cs)
    (hu : P.underlying ty = some d) (hd : (match d with | .struct _ | .array _ _ => true | _ => false) = true) (hi : (P.info? ty).map (·.size) = some cs.size)
    (h : wpListIn F n P ops Q rest (a.put o.dst (.agg cs)) w) : wpListIn F n P ops Q (o :: rest) a w := by
  refine wpListIn_step fun K hK => ?_
  rw [if_pos hw]
  refine ⟨fun f _ => hF f, ?_⟩
  have hrun : (execOp a.eval o).run P w = .ok (.value (.agg cs)) w := by
    unfold execOp
    simp only [ho, hx, Instr.loadAt, Instr.sureAddr, Sem.run_bind, Sem.run_pure, Result.andThen_ok, run_loadVar_row w g t ty cs (0, 0) d hb hu hd hi]
  rw [Oper.semAt_plain F _ _ (by rw [ho]; intro c hc; cases hc), hrun]
  exact hK _ _ h
theorem in_store_row (hF : ∀ f, F.fn f) (hg : o.guard = none) (ty : TypeId) (x y : Operand) (ho : o.op = .store ty x y) (hdst : o.dst = none) (g : Nat) (cells : Array Value) (hx : a.eval x = .pointer (some ⟨g, 0, none⟩)) (hy : a.eval y = .agg cells)
    (t : TypeId) (old : Array Value) (hb : Blk w g t old) (hi : (P.info? ty).map (·.size) = some cells.size) (hold : old.size = cells.size) (h1 : cells.all (·.oneCell') = true)
    (h : wpListIn F n P ops Q rest a (w.setRow g cells)) : wpListIn F n P ops Q (o :: rest) a w := by
  refine in_skip hF hg (by rw [ho]; intro c hc; cases hc) (w.setRow g cells) ?_ (by rw [hdst]; exact h)
  unfold execOp
  simp only [ho, hx, hy, Instr.storeAt, Instr.sureAddr, Sem.run_bind, Sem.run_pure, Result.andThen_ok, run_storeVar_row w g t ty old cells hb hi hold h1]
theorem in_alloc (hF : ∀ f, F.fn f) (hg : o.guard = none) (hnd : ∀ c, o.op ≠ .defer c) (dst : Option Tmp) (hdst : o.dst = dst) (v : Value) (ob : Obj) (hrun : (execOp a.eval o).run P w = .ok (.value v) (w.alloc ob))
    (h : wpListIn F n P ops Q rest (a.put dst v) (w.alloc ob)) : wpListIn F n P ops Q (o :: rest) a w :=
  in_value hF hg hnd v _ hrun (by rw [hdst]; exact h)
theorem in_buildSlice (hF : ∀ f, F.fn f) (hg : o.guard = none) (t e : TypeId) (len : Nat) (parts : Array (Nat × Operand)) (ho : o.op = .buildSlice t len parts)
    (N : Nat) (hN : w.heap.size = N) (dst : Option Tmp) (hdst : o.dst = dst) (hu : P.underlying t = some (.slice e)) (cells : Array Value) (ps : List (Nat × Value)) (hb : P.builtSlice e len ps = some cells) (hps : (parts.map fun (i, x) => (i, a.eval x)).toList = ps)
    (h : wpListIn F n P ops Q rest (a.put dst (.slice (some ⟨N, 0, none⟩) len len)) (w.alloc (.cells cells e))) : wpListIn F n P ops Q (o :: rest) a w := by
  subst hN hps
  refine in_alloc hF hg (by rw [ho]; intro c hc; cases hc) dst hdst _ _ ?_ h
  unfold Program.builtSlice at hb
  cases hie : P.info? e with
  | none => simp [hie] at hb
  | some ie =>
    simp only [hie] at hb
    cases hz : ie.zero with
    | none => simp [hz] at hb
    | some z =>
      simp only [hz] at hb
      by_cases hc : len * ie.size > 2 ^ 24 ∨ len * ie.size = 0
      · simp [hc] at hb
      · rw [if_neg hc] at hb
        unfold execOp
        simp only [ho, Sem.run_bind, run_buildSlice w t e len _ cells ie z hu hie hz (fun h' => hc (Or.inl h')) (fun h' => hc (Or.inr h')) hb, Result.andThen_ok, Sem.run_pure]
end

/-- An operation that is no defer statement, met outside a round, is met in it. -/
theorem oper_in_round {l n : Nat} {P : Program} {o : Oper} {a : Act} {w : World} {next next' : Act → World → Prop} {Q : Exit → Act → World → Prop} (hnd : ∀ c, o.op ≠ .defer c) (hn : ∀ a w, next a w → next' a w)
    (h : o.wp P a w next Q) : o.wpIn (Fence.wide.inRound l) n P a w next' Q := by
  refine ⟨fun _ _ => trivial, ?_⟩
  rw [Oper.semAt_plain (Fence.wide.inRound l) _ _ hnd]
  unfold Oper.wp at h
  cases hr : (execOp a.eval o).run P w with
  | halt e w' =>
    rw [hr] at h
    cases e <;> first | exact h | exact h.elim
  | ok nx w' =>
    rw [hr] at h
    cases nx with
    | value v => exact hn _ _ h
    | skip => exact hn _ _ h
    | defer d => exact hn _ _ h
    | enter f args =>
      refine ⟨fun h' => (by cases h'), CallsIn.inRound l (callsIn_wide.2 (Calls.mono h ?_))⟩
      intro e w2 h2
      cases e with
      | returned v => exact hn _ _ h2
      | panicked c => exact h2
      | outgrown => exact h2
    | row r args =>
      refine ⟨fun h' => (by cases h'), fun c cs _ => ?_⟩
      obtain ⟨v, w2, h2, h3⟩ := h c cs
      exact ⟨v, w2, hn _ _ h2, stepsIn_wide.2 h3⟩
    | _ => exact h.elim

theorem ops_in_round {l n : Nat} {P : Program} {ops : Array Oper} {Q : Exit → Act → World → Prop} (hnd : ∀ (i : Nat) (o : Oper), ops[i]? = some o → ∀ c, o.op ≠ .defer c) (hQ : ¬ LetsOut Q) : ∀ (is : List Nat) (a : Act) (w : World), wpOps P ops Q is a w → wpOpsIn (Fence.wide.inRound l) n P ops Q is a w
  | [], _, _, h => h
  | i :: is, a, w, h => by
    unfold wpOps at h
    unfold wpOpsIn
    cases ho : ops[i]? with
    | none =>
      simp only [ho] at h ⊢
      exact ops_in_round hnd hQ is a w h
    | some o =>
      simp only [ho] at h ⊢
      split
      · rename_i hw
        rw [if_pos hw] at h
        rcases h with h | h
        · exact oper_in_round (hnd i o ho) (fun a w h' => ops_in_round hnd hQ is a w h') h
        · exact absurd h.2 hQ
      · rename_i hw
        rw [if_neg hw] at h
        exact ⟨fun _ _ => trivial, ops_in_round hnd hQ is _ w h⟩

/-- A region that draws its order, in a round. -/
theorem in_region_ord {k n : Nat} {P : Program} {Q : Exit → Act → World → Prop} {id : Nat} {a : Act} {w : World} {l : List Oper} (hnd : ∀ o ∈ l, ∀ c, o.op ≠ .defer c) (hQo : ¬ LetsOut Q) (R : World → World → Prop) (hrefl : ∀ w, R w w) (htrans : ∀ a b c, R a b → R b c → R a c) (order : List (Nat × Bool)) (hm : P.follows .mixedOrders = true) (hs : Region.noSelect l.toArray = true) (hn : order.length = l.length)
    (hB : ordB l order (Array.replicate l.length false) = true) (hQ : ∀ d v c a w, Q (.panic c) (a.put (some d) v) w → Q (.panic c) a w) (h : wpOrd P l R Q order a w.drew) : (Code.region id l.toArray true).wpIn (Fence.wide.inRound k) n P Q a w := by
  have hQ' : ∀ d v c a w, Q (.panic c) (a.put d v) w → Q (.panic c) a w := fun d => by
    cases d with
    | none => exact fun _ _ _ _ h => h
    | some d => exact hQ d
  have hh := held_of_ord hrefl htrans hs hQ' order (Array.replicate l.length false) a w.drew hB h
  rw [hn] at hh
  refine wpIn_region_draw fun t => ?_
  simp only [Region.schedule, hm, Bool.true_or, if_true]
  refine ops_in_round (fun i o ho => hnd o ?_) hQo _ _ _ ?_
  · simp only [List.getElem?_toArray] at ho
    exact List.mem_of_getElem? ho
  · have := wpAny_sound l.toArray.size t _ a _ (wpAny_of_held _ _ _ _ (show wpAnyH P .any l.toArray Q (R w.drew) l.toArray.size (Array.replicate l.toArray.size false) a w.drew by simpa using hh))
    exact this

end Go.Proofs.Yteddeebhfnpchaa
