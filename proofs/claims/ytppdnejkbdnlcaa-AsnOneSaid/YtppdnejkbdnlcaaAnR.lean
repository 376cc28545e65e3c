/-
  Rows of ranges in memory, for stage 12 (asn).
-/
import Derived.Test.YtppdnejkbdnlcaaAnQ
import Derived.Test.YtppdnejkbdnlcaaBlk
import Derived.Deep.OwnRows
import Derived.Deep.MidRow
import Derived.Great.Walk
namespace Go.Proofs.Ytppdnejkbdnlcaa
open Go.RowKit
set_option linter.unusedVariables false

theorem boxR_below (w : World) (o : Obj) : Below w.heap.size w (w.alloc o) := (Below.refl _ _).alloc (Nat.le_refl _) o
/-- A range's cells. -/
def rcL (s : Nat × Nat) : List Value := [.int .u32 (s.1 : Int), .int .u32 (s.2 : Int)]
def rcells (s : Nat × Nat) : Array Value := (rcL s).toArray
def OkR (s : Nat × Nat) : Prop := s.1 < 4294967296 ∧ s.2 < 4294967296
theorem zeroR_ok : OkR (0, 0) := ⟨by decide, by decide⟩
theorem rcL_len {s : Nat × Nat} (h : OkR s) : (rcL s).length = 2 := rfl
theorem rcL_arr (s : Nat × Nat) : (rcL s).toArray = rcells s := rfl
theorem rcells_size {s : Nat × Nat} (h : OkR s) : (rcells s).size = 2 := rfl
theorem rcells_one (s : Nat × Nat) : (rcells s).all (·.oneCell') = true := by simp [rcells, rcL, Value.oneCell']
theorem Try.sizeR {s : Nat × Nat} (h : OkR s) : (Try.prog.info? 33).map (·.size) = some (rcells s).size := by
  rw [rcells_size h]
  kernel_rfl
/-- The cells of several ranges. -/
def flatR (L : List (Nat × Nat)) : List Value := L.flatMap rcL
def OkL (L : List (Nat × Nat)) : Prop := ∀ s ∈ L, OkR s
theorem flatR_len : ∀ {L : List (Nat × Nat)}, OkL L → (flatR L).length = L.length * 2
  | [], _ => rfl
  | s :: r, h => by
    show (rcL s ++ flatR r).length = _
    rw [List.length_append, rcL_len (h s (by simp)), flatR_len (fun x hx => h x (by simp [hx])), List.length_cons]
    omega
theorem flatR_app (L M : List (Nat × Nat)) : flatR (L ++ M) = flatR L ++ flatR M := List.flatMap_append
theorem flatR_at : ∀ {L : List (Nat × Nat)} (_ : OkL L) (j i : Nat) (hj : j < L.length), i < 2 → (flatR L)[j * 2 + i]? = (rcL (L[j]))[i]?
  | [], _, j, i, hj, _ => absurd hj (by simp)
  | s :: r, h, 0, i, hj, hi => by
    show (rcL s ++ flatR r)[0 * 2 + i]? = _
    rw [List.getElem?_append_left (by rw [rcL_len (h s (by simp))]; omega), Nat.zero_mul, Nat.zero_add]
    rfl
  | s :: r, h, j + 1, i, hj, hi => by
    show (rcL s ++ flatR r)[(j + 1) * 2 + i]? = _
    have l := rcL_len (h s (by simp))
    rw [List.getElem?_append_right (by rw [l]; omega), l, show (j + 1) * 2 + i - 2 = j * 2 + i by omega, flatR_at (fun x hx => h x (by simp [hx])) j i (by simpa using hj) hi]
    rfl
theorem flatR_one (L : List (Nat × Nat)) : ∀ u ∈ flatR L, u.oneCell' = true := by
  intro u hu
  obtain ⟨s, _, hs⟩ := List.mem_flatMap.1 hu
  exact (Array.all_eq_true_iff_forall_mem.1 (rcells_one s)) u (by rw [← rcL_arr]; exact List.mem_toArray.2 hs)
theorem flatR_take : ∀ {L : List (Nat × Nat)} (_ : OkL L) (k : Nat), k ≤ L.length → flatR (L.take k) = (flatR L).take (k * 2)
  | [], _, k, hk => by
    obtain rfl : k = 0 := by simpa using hk
    rfl
  | s :: r, h, 0, hk => by simp [flatR]
  | s :: r, h, k + 1, hk => by
    have l := rcL_len (h s (by simp))
    show rcL s ++ flatR (r.take k) = (rcL s ++ flatR r).take ((k + 1) * 2)
    rw [flatR_take (fun x hx => h x (by simp [hx])) k (by simpa using hk), List.take_append, l, List.take_of_length_le (l := rcL s) (by rw [l]; omega), show (k + 1) * 2 - 2 = k * 2 by omega]

/-- A slice value with n elements reads as these ranges; where there is an element, it lies in a block of this world. -/
def RgRow (w : World) (a : Option Addr) (n : Nat) (L : List (Nat × Nat)) : Prop :=
  L.length = n ∧ OkL L ∧ (0 < n → ∃ b off, a = some ⟨b, off, none⟩ ∧ b < w.heap.size ∧ ∀ i, i < n * 2 → w.cell? ⟨b, off + i, none⟩ = (flatR L)[i]?)
theorem RgRow.below {w w' : World} {a : Option Addr} {n : Nat} {L : List (Nat × Nat)} (h : RgRow w a n L) (hb : Below w.heap.size w w') : RgRow w' a n L := by
  refine ⟨h.1, h.2.1, fun hn => ?_⟩
  obtain ⟨b, off, e, hlt, hc⟩ := h.2.2 hn
  exact ⟨b, off, e, Nat.lt_of_lt_of_le hlt hb.size, fun i hi => (hb.cell (p := ⟨b, off + i, none⟩) hlt).trans (hc i hi)⟩
/-- One of them. -/
theorem RgRow.range {w : World} {b off n : Nat} {L : List (Nat × Nat)} (h : RgRow w (some ⟨b, off, none⟩) n L) (j : Nat) (hj : j < L.length) : w.rangeAt b (off + j * 2) (rcL L[j]) := by
  intro i v hv
  obtain ⟨b', off', e, _, hc⟩ := h.2.2 (by have := h.1; omega)
  injection e with e
  injection e with e1 e2
  subst e1 e2
  have s6 := h.2.1 _ (List.getElem_mem hj)
  have hi : i < 2 := by
    have := (List.getElem?_eq_some_iff.1 hv).1
    rwa [rcL_len s6] at this
  rw [Nat.add_assoc, hc (j * 2 + i) (by have := h.1; omega), flatR_at h.2.1 j i hj hi]
  exact hv
theorem RgRow.form {w : World} {a : Option Addr} {n : Nat} {L : List (Nat × Nat)} (h : RgRow w a n L) (h0 : 0 < n) : ∃ b off, a = some ⟨b, off, none⟩ ∧ b < w.heap.size := by
  obtain ⟨b, off, e, hlt, _⟩ := h.2.2 h0
  exact ⟨b, off, e, hlt⟩
theorem RgRow.nil (w : World) (a : Option Addr) : RgRow w a 0 [] := ⟨rfl, fun _ h => absurd h (by simp), fun h => absurd h (by omega)⟩
/-- What stands behind the first k. -/
theorem RgRow.rest {w : World} {b off n : Nat} {L : List (Nat × Nat)} (h : RgRow w (some ⟨b, off, none⟩) n L) (k : Nat) (hk : k ≤ n) : RgRow w (some ⟨b, off + k * 2, none⟩) (n - k) (L.drop k) := by
  have hl := h.1
  refine ⟨by rw [List.length_drop]; omega, fun s hs => h.2.1 s (List.mem_of_mem_drop hs), fun h0 => ?_⟩
  obtain ⟨b', off', e, hb, hc⟩ := h.2.2 (by omega)
  injection e with e
  injection e with e1 e2
  subst e1 e2
  refine ⟨_, _, rfl, hb, fun i hi => ?_⟩
  have e : flatR L = (flatR (L.take k)) ++ flatR (L.drop k) := by rw [← flatR_app, List.take_append_drop]
  have l : (flatR (L.take k)).length = k * 2 := by rw [flatR_take h.2.1 k (by omega), List.length_take, flatR_len h.2.1]; omega
  rw [Nat.add_assoc, hc (k * 2 + i) (by omega), e, List.getElem?_append_right (by rw [l]; omega), l, show k * 2 + i - k * 2 = i by omega]

theorem Try.infoRange : (Try.prog.info? 33).map (fun i => (i.zero, i.size, i.bytes)) = some (some (.agg (rcells (0, 0))), 2, 8) := by kernel_rfl

/-- The slice V is the call's own, in memory newer than W0, and reads as these ranges. -/
def RgOut (W0 wr : World) (V : Value) (L : List (Nat × Nat)) : Prop := wr.ownsRow W0.heap.size 33 2 V L.length (flatR L) ∧ Below W0.heap.size W0 wr ∧ OkL L
theorem RgOut.below {W0 wr w' : World} {V : Value} {L : List (Nat × Nat)} (h : RgOut W0 wr V L) (hb : Below wr.heap.size wr w') : RgOut W0 w' V L := by
  refine ⟨⟨h.1.1, ?_⟩, Below.step h.2.1 hb, h.2.2⟩
  rcases h.1.2 with h' | ⟨g, cap, cur, e, h1, h2, h3⟩
  · exact .inl h'
  · exact .inr ⟨g, cap, cur, e, h1, (hb.block g (Array.getElem?_eq_some_iff.1 h2).1).trans h2, h3⟩
theorem RgOut.alloc {W0 wr : World} {V : Value} {L : List (Nat × Nat)} (h : RgOut W0 wr V L) (o : Obj) : RgOut W0 (wr.alloc o) V L := h.below (boxR_below _ _)
theorem RgOut.wider {w W0 wr : World} {V : Value} {L : List (Nat × Nat)} (h : RgOut W0 wr V L) (hb : Below w.heap.size w W0) : RgOut w wr V L := by
  refine ⟨⟨h.1.1, ?_⟩, Below.step hb h.2.1, h.2.2⟩
  rcases h.1.2 with h' | ⟨g, cap, cur, e, h1, h2⟩
  · exact .inl h'
  · exact .inr ⟨g, cap, cur, e, Nat.le_trans hb.size h1, h2⟩
theorem RgOut.start (w : World) : RgOut w w (.slice none 0 0) [] := ⟨World.ownsRow_nil _ _ _ _, Below.refl _ _, fun _ h => absurd h (by simp)⟩
theorem RgOut.row {W0 wr : World} {V : Value} {L : List (Nat × Nat)} (h : RgOut W0 wr V L) : ∃ a c, V = .slice a L.length c ∧ RgRow wr a L.length L ∧ (a = none → L = [] ∧ c = 0) := by
  rcases h.1.2 with ⟨rfl, h0⟩ | ⟨g, cap, cur, rfl, h1, h2, h3⟩
  · have : L = [] := List.eq_nil_of_length_eq_zero h0
    subst this
    exact ⟨none, 0, rfl, RgRow.nil _ _, fun _ => ⟨rfl, rfl⟩⟩
  · refine ⟨_, cap, rfl, ⟨rfl, h.2.2, fun hn => ⟨g, 0, rfl, (h.1.lt g rfl).2, fun i hi => ?_⟩⟩, fun e => by cases e⟩
    rw [Nat.zero_add, h.1.cellAt i hi]
/-- Its form, where it has a block. -/
theorem RgOut.form {W0 wr : World} {V : Value} {L : List (Nat × Nat)} (h : RgOut W0 wr V L) : (V = .slice none 0 0 ∧ L = []) ∨ ∃ g cap, V = .slice (some ⟨g, 0, none⟩) L.length cap ∧ W0.heap.size ≤ g ∧ g < wr.heap.size ∧ L.length ≤ cap := by
  rcases h.1.2 with ⟨rfl, h0⟩ | ⟨g, cap, cur, rfl, h1, h2, h3, _⟩
  · exact .inl ⟨rfl, List.eq_nil_of_length_eq_zero h0⟩
  · exact .inr ⟨g, cap, rfl, h1, (h.1.lt g rfl).2, h3⟩

/-- Spans are appended. -/
theorem rg_append {ops : Array Oper} {rest : List Oper} {o : Oper} {a : Act} {Q : Exit → Act → World → Prop} {W0 w : World} {V : Value} {L zs : List (Nat × Nat)} {A : Option Addr} {m c : Nat} (hgd : o.guard = none) (s x : Operand)
    (hop : o.op = .call { callee := .builtin .append, args := #[s, x], argTypes := #[22, 22] }) (hs : a.eval s = V) (hout : RgOut W0 w V L) (hx : a.eval x = .slice A m c) (hr : RgRow w A m zs) (hA : A = none → m = 0 ∧ c = 0) (hl : L.length + m ≤ 100000)
    (h : ∀ V' w', RgOut W0 w' V' (L ++ zs) → wpList Try.prog ops Q rest (a.put o.dst V') w') : wpList Try.prog ops Q (o :: rest) a w := by
  obtain ⟨i0, hi5, hz0, hz1, hz2⟩ := info_parts Try.infoRange
  cases A with
  | none =>
    obtain ⟨rfl, rfl⟩ := hA rfl
    obtain rfl : zs = [] := List.eq_nil_of_length_eq_zero hr.1
    refine wpList_append_own_none hgd s x 22 hop W0.heap.size 33 i0 2 Try.underlying22 hi5 V L.length _ hs hout.1 hx ?_
    have := h V w (by simpa using hout)
    exact this
  | some ad =>
    have hcl : (flatR zs).length = m * 2 := by rw [flatR_len hr.2.1, hr.1]
    refine wpList_append_own _ hgd s x 22 hop W0.heap.size 33 i0 (.agg (rcells (0, 0))) 2 8 Try.underlying22 hi5 hz0 hz1 hz2 (rcells_size zeroR_ok) (by decide) V L.length (flatR L) hs hout.1 ad m c (flatR zs) hx hcl ?_ (flatR_one zs) (by unfold maxLen; omega) (by omega) hout.2.1.size ?_
    · intro j u hu
      have hj : j < m * 2 := by
        have := (List.getElem?_eq_some_iff.1 hu).1
        omega
      obtain ⟨b, off, e, _, hc⟩ := hr.2.2 (by omega)
      injection e with e
      subst e
      rw [Addr.add_lit, hc j hj]
      exact hu
    · intro V' w' hown hg _
      refine h V' w' ⟨?_, hout.2.1.grown hg hout.2.1.size (fun k hk => (hout.1.lt k hk).1), fun z hz => ?_⟩
      · rw [List.length_append, hr.1, flatR_app]
        exact hown
      · rcases List.mem_append.1 hz with hz | hz
        · exact hout.2.2 z hz
        · exact hr.2.1 z hz

/-- One of them, cell by cell. -/
theorem RgRow.lo {w : World} {b off n : Nat} {L : List (Nat × Nat)} (h : RgRow w (some ⟨b, off, none⟩) n L) (j : Nat) (hj : j < L.length) : w.cell? ⟨b, off + j * 2, none⟩ = some (.int .u32 ((L[j]).1 : Int)) := h.range j hj 0 _ rfl
theorem RgRow.hi {w : World} {b off n : Nat} {L : List (Nat × Nat)} (h : RgRow w (some ⟨b, off, none⟩) n L) (j : Nat) (hj : j < L.length) : w.cell? ⟨b, off + j * 2 + 1, none⟩ = some (.int .u32 ((L[j]).2 : Int)) := h.range j hj 1 _ rfl
/-- A slice of ranges, as an argument. -/
def RgArg (w : World) (a : Option Addr) (n c : Nat) (L : List (Nat × Nat)) : Prop := RgRow w a n L ∧ (a = none → n = 0 ∧ c = 0)
theorem RgArg.below {w W : World} {a : Option Addr} {n c : Nat} {L : List (Nat × Nat)} (h : RgArg w a n c L) (hb : Below w.heap.size w W) : RgArg W a n c L := ⟨h.1.below hb, h.2⟩
theorem RgArg.under {w : World} {a : Option Addr} {n c : Nat} {L : List (Nat × Nat)} (h : RgArg w a n c L) : Under 4294967296 L := fun s hs => h.1.2.1 s hs
theorem RgOut.arg {W0 wr : World} {V : Value} {L : List (Nat × Nat)} (h : RgOut W0 wr V L) : ∃ a c, V = .slice a L.length c ∧ RgArg wr a L.length c L := by
  obtain ⟨a, c, hV, hr, hn⟩ := h.row
  exact ⟨a, c, hV, hr, fun e => by
    obtain ⟨h1, h2⟩ := hn e
    subst h1
    exact ⟨rfl, h2⟩⟩
theorem RgOut.under {W0 wr : World} {V : Value} {L : List (Nat × Nat)} (h : RgOut W0 wr V L) : Under 4294967296 L := fun s hs => h.2.2 s hs
def GivesRg (L : List (Nat × Nat)) (w : World) (e : Ending) (w' : World) : Prop := ∃ V, e = .returned V ∧ RgOut w w' V L
theorem rbox (w : World) (s : Nat × Nat) : Blk (w.alloc (.cells (rcells s) 33)) w.heap.size 33 (rcells s) := Blk.new _ _ _
theorem rg_one (w : World) {s : Nat × Nat} (hs : OkR s) : RgRow (w.alloc (.cells (rcells s) 33)) (some ⟨w.heap.size, 0, none⟩) 1 [s] := by
  refine ⟨rfl, fun x hx => by rw [List.mem_singleton.1 hx]; exact hs, fun _ => ⟨w.heap.size, 0, rfl, by simp, fun i hi => ?_⟩⟩
  rw [Nat.zero_add, Blk.cell (rbox w s) i]
  show (rcL s).toArray[i]? = (rcL s ++ [])[i]?
  rw [List.append_nil, List.getElem?_toArray]
theorem rbuilt_one (s : Nat × Nat) : Try.prog.builtSlice 33 1 [(0, .agg (rcells s))] = some (rcells s) := by kernel_rfl
theorem rbuilt (a b : Int) : Try.prog.built 33 [(0, .int .u32 a), (1, .int .u32 b)] = some #[.int .u32 a, .int .u32 b] := by kernel_rfl

end Go.Proofs.Ytppdnejkbdnlcaa
