/-
  Stores into rows of ranges; Clone, for stage 12 (asn).
-/
import Derived.Test.YtppdnejkbdnlcaaAnT
import Derived.Test.YtppdnejkbdnlcaaAnK
namespace Go.Proofs.Ytppdnejkbdnlcaa
open Go.RowKit
set_option linter.unusedVariables false

theorem belowR_setCells {B g : Nat} {w : World} (hg : B ≤ g) : ∀ (vs : List Value) (o : Nat) (w' : World), Below B w w' → Below B w (w'.setCells g o vs)
  | [], _, _, h => h
  | v :: r, o, w', h => belowR_setCells hg r (o + 1) _ (Below.setCell h (p := ⟨g, o, none⟩) hg v)
theorem listR_split {α : Type} {A : List α} {q : Nat} (x : α) (hq : q < A.length) : (A.set q x).take (q + 1) = A.take q ++ [x] ∧ ∀ m, (A.set q x).drop (q + 1 + m) = A.drop (q + 1 + m) := by
  refine ⟨?_, fun m => ?_⟩
  · rw [List.take_add_one, List.take_set_of_le (Nat.le_refl _), List.getElem?_set_self hq]
    rfl
  · rw [List.drop_set_of_lt (by omega)]
theorem ownR_setCells {e : TypeId} {size base g n cap : Nat} : ∀ (vs : List Value) (o : Nat) (w : World) (xs : List Value), w.ownsRow base e size (.slice (some ⟨g, 0, none⟩) n cap) n xs → o + vs.length ≤ xs.length →
    (w.setCells g o vs).ownsRow base e size (.slice (some ⟨g, 0, none⟩) n cap) n (xs.take o ++ vs ++ xs.drop (o + vs.length))
  | [], o, w, xs, h, hl => by
    have e1 : xs.take o ++ [] ++ xs.drop (o + ([] : List Value).length) = xs := by rw [List.append_nil, List.length_nil, Nat.add_zero, List.take_append_drop]
    rw [e1]
    exact h
  | v :: r, o, w, xs, h, hl => by
    simp only [List.length_cons] at hl
    have ih := ownR_setCells r (o + 1) _ (xs.set o v) (h.stored o v).1 (by rw [List.length_set]; omega)
    obtain ⟨e1, e2⟩ := listR_split v (show o < xs.length by omega)
    rw [e1, e2, List.append_assoc (xs.take o)] at ih
    have e3 : xs.take o ++ v :: r ++ xs.drop (o + (v :: r).length) = xs.take o ++ ([v] ++ r) ++ xs.drop (o + 1 + r.length) := by
      rw [List.length_cons, show o + (r.length + 1) = o + 1 + r.length by omega]
      rfl
    rw [e3]
    exact ih
theorem ownR_cut {e : TypeId} {size base g n cap : Nat} {w : World} {xs : List Value} (h : w.ownsRow base e size (.slice (some ⟨g, 0, none⟩) n cap) n xs) (k : Nat) (hk : k ≤ n) : w.ownsRow base e size (.slice (some ⟨g, 0, none⟩) k cap) k (xs.take (k * size)) := by
  have hks : k * size ≤ n * size := Nat.mul_le_mul_right _ hk
  refine ⟨by rw [List.length_take, h.1]; omega, ?_⟩
  rcases h.2 with ⟨e', _⟩ | ⟨g', cap', cur, e', hb, hg, hnc, hcm, hcs, htake⟩
  · cases e'
  · injection e' with e1 e2 e3
    subst e3
    refine .inr ⟨g', cap, cur, ?_, hb, hg, by omega, hcm, hcs, ?_⟩
    · rw [e1]
    · rw [← htake, List.take_take, Nat.min_eq_left hks]
theorem flatR_drop {L : List (Nat × Nat)} (h : OkL L) (k : Nat) (hk : k ≤ L.length) : flatR (L.drop k) = (flatR L).drop (k * 2) := by
  have e : flatR L = flatR (L.take k) ++ flatR (L.drop k) := by rw [← flatR_app, List.take_append_drop]
  have l : (flatR (L.take k)).length = k * 2 := by rw [flatR_take h k hk, List.length_take, flatR_len h]; omega
  rw [e, ← l, List.drop_left]
theorem ok_set {L : List (Nat × Nat)} (h : OkL L) (k : Nat) {s : (Nat × Nat)} (hs : OkR s) : OkL (L.set k s) := fun x hx => by
  rcases List.mem_or_eq_of_mem_set hx with hx | rfl
  · exact h x hx
  · exact hs
theorem flatR_set {L : List (Nat × Nat)} (h : OkL L) (k : Nat) (hk : k < L.length) {s : (Nat × Nat)} (hs : OkR s) : flatR (L.set k s) = (flatR L).take (k * 2) ++ rcL s ++ (flatR L).drop (k * 2 + (rcL s).length) := by
  rw [rcL_len hs, show k * 2 + 2 = (k + 1) * 2 by omega, ← flatR_take h k (by omega), ← flatR_drop h (k + 1) (by omega), List.set_eq_take_append_cons_drop, if_pos hk]
  show flatR (L.take k ++ s :: L.drop (k + 1)) = _
  rw [flatR_app]
  show flatR (L.take k) ++ (rcL s ++ flatR (L.drop (k + 1))) = _
  rw [List.append_assoc]
/-- A range is stored into a row of the call's own. -/
theorem RgOut.set {W0 wr : World} {g cap n : Nat} {L : List (Nat × Nat)} (h : RgOut W0 wr (.slice (some ⟨g, 0, none⟩) n cap) L) (hn : n = L.length) (hg : W0.heap.size ≤ g) (k : Nat) (hk : k < L.length) {s : (Nat × Nat)} (hs : OkR s) : RgOut W0 (wr.setCells g (k * 2) (rcL s)) (.slice (some ⟨g, 0, none⟩) n cap) (L.set k s) := by
  subst hn
  have h1 := ownR_setCells (rcL s) (k * 2) wr _ h.1 (by rw [rcL_len hs, flatR_len h.2.2]; omega)
  rw [← flatR_set h.2.2 k hk hs] at h1
  refine ⟨by rw [List.length_set]; exact h1, belowR_setCells hg _ _ _ h.2.1, ok_set h.2.2 k hs⟩
/-- The last addresses of one of them are stored. -/
theorem RgOut.cut {W0 wr : World} {g cap n : Nat} {L : List (Nat × Nat)} (h : RgOut W0 wr (.slice (some ⟨g, 0, none⟩) n cap) L) (hn : n = L.length) (k : Nat) (hk : k ≤ L.length) : RgOut W0 wr (.slice (some ⟨g, 0, none⟩) k cap) (L.take k) := by
  subst hn
  have h1 := ownR_cut h.1 k hk
  rw [← flatR_take h.2.2 k hk] at h1
  exact ⟨by rw [List.length_take, Nat.min_eq_left hk]; exact h1, h.2.1, fun s hs => h.2.2 s (List.mem_of_mem_take hs)⟩
/-- What stands behind is cleared. -/
theorem RgOut.clear {W0 wr : World} {g cap n : Nat} {L : List (Nat × Nat)} (h : RgOut W0 wr (.slice (some ⟨g, 0, none⟩) n cap) L) (hn : n = L.length) (hg : W0.heap.size ≤ g) (k : Nat) (hk : k ≤ L.length) (vs : List Value) (hv : vs.length = (L.length - k) * 2) : RgOut W0 (wr.setCells g (k * 2) vs) (.slice (some ⟨g, 0, none⟩) k cap) (L.take k) := by
  subst hn
  have h1 := ownR_cut (ownR_setCells vs (k * 2) wr _ h.1 (by rw [hv, flatR_len h.2.2]; omega)) k hk
  have l : ((flatR L).take (k * 2)).length = k * 2 := by rw [List.length_take, flatR_len h.2.2]; omega
  rw [List.append_assoc, List.take_append, l, Nat.sub_self, List.take_zero, List.append_nil, List.take_take, Nat.min_self, ← flatR_take h.2.2 k hk] at h1
  exact ⟨by rw [List.length_take, Nat.min_eq_left hk]; exact h1, belowR_setCells hg _ _ _ h.2.1, fun s hs => h.2.2 s (List.mem_of_mem_take hs)⟩
/-- The cells there, to be written. -/
theorem RgOut.there {W0 wr : World} {g cap n : Nat} {L : List (Nat × Nat)} (h : RgOut W0 wr (.slice (some ⟨g, 0, none⟩) n cap) L) (hn : n = L.length) (o m : Nat) (hm : o + m ≤ n * 2) : wr.there g o m := by
  subst hn
  intro j hj
  refine ⟨?_, h.1.frozenAt _⟩
  rw [h.1.cellAt (o + j) (by omega), List.getElem?_eq_getElem (by rw [flatR_len h.2.2]; omega)]
  rfl

theorem rg_zero (w : World) : RgOut w (w.alloc (.cells #[] 33)) (.slice (some ⟨w.heap.size, 0, none⟩) 0 0) [] :=
  ⟨World.ownsRow_made w _ 0 (Nat.le_refl _) (by unfold maxLen; omega) rfl, boxR_below _ _, fun _ h => absurd h (by simp)⟩

set_option maxHeartbeats 500000 in
set_option maxRecDepth 10000 in
theorem cloneR_any (a : Option Addr) (n c : Nat) (L : List (Nat × Nat)) (w : World) (hr : RgRow w a n L) (hA : a = none → n = 0 ∧ c = 0) (hn : n ≤ 90000) :
    Calls Try.prog 21 #[.slice a n c] w (GivesRg L w) := by
  have q22 : ∀ (w : World) (a : Option Addr) (n c n' c' : Nat), (binOp .eql 22 (.slice a n c) (.slice none n' c')).run Try.prog w = .ok (.bool a.isNone) w := fun w a n c n' c' => Lib.run_eql_slice_nil w _ _ a n c n' c' Try.underlying22
  go_enter Try.func21, Try.ntmps21
  cases a with
  | none =>
    obtain ⟨rfl, rfl⟩ := hA rfl
    obtain rfl : L = [] := List.eq_nil_of_length_eq_zero hr.1
    clear hA hr
    go_wp2_with fail
    go_ret
    exact ⟨_, rfl, RgOut.start w⟩
  | some ad =>
    have RX := Lib.hid (hr.below (boxR_below w (.cells #[] 33)))
    clear hA hr
    go_wp2_with (at_builtin; go_must (refine rg_append (W0 := w) (L := []) (zs := L) rfl _ _ rfl rfl (rg_zero w) rfl RX.out (fun e => by cases e) (by simp; omega) ?_; intro V1 w1 ho1; rw [List.nil_append] at ho1; have HO := Lib.hid ho1; clear ho1))
    go_ret
    exact ⟨_, rfl, HO.out⟩


theorem flatR_setHi : ∀ {L : List (Nat × Nat)} (k : Nat) (hk : k < L.length) (y : Nat), (flatR L).set (k * 2 + 1) (.int .u32 (y : Int)) = flatR (L.set k ((L[k]).1, y))
  | [], k, hk, _ => absurd hk (by simp)
  | s :: r, 0, _, y => rfl
  | s :: r, k + 1, hk, y => by
    show (rcL s ++ flatR r).set ((k + 1) * 2 + 1) _ = rcL s ++ flatR (r.set k ((r[k]'(by simpa using hk)).1, y))
    rw [← flatR_setHi k (by simpa using hk) y, show (k + 1) * 2 + 1 = (k * 2 + 1) + 1 + 1 by omega]
    rfl
/-- The last number of one of them is put in. -/
theorem RgOut.setHi {W0 wr : World} {g cap n : Nat} {L : List (Nat × Nat)} (h : RgOut W0 wr (.slice (some ⟨g, 0, none⟩) n cap) L) (hn : n = L.length) (hg : W0.heap.size ≤ g) (k : Nat) (hk : k < L.length) {y : Nat} (hy : y < 4294967296) : RgOut W0 (wr.setCell ⟨g, k * 2 + 1, none⟩ (.int .u32 (y : Int))) (.slice (some ⟨g, 0, none⟩) n cap) (L.set k ((L[k]).1, y)) := by
  subst hn
  have s6 := h.2.2 _ (List.getElem_mem hk)
  have e := (h.1.stored (k * 2 + 1) (.int .u32 (y : Int))).1
  rw [flatR_setHi k hk y] at e
  refine ⟨by rw [List.length_set]; exact e, Below.setCell h.2.1 (p := ⟨g, k * 2 + 1, none⟩) hg _, fun x hx => ?_⟩
  rcases List.mem_or_eq_of_mem_set hx with hx | rfl
  · exact h.2.2 x hx
  · exact ⟨s6.1, hy⟩

/-! A loop's variable: made, set, read; a cell that is set. -/
theorem allocR_run {o : Oper} {a : Act} {w : World} (ho : o.op = .alloc 33) : (execOp a.eval o).run Try.prog w = .ok (.value (.pointer (some ⟨w.heap.size, 0, none⟩))) (w.alloc (.cells (rcells (0, 0)) 33)) := by
  unfold execOp
  simp only [ho]
  rfl
theorem allocR_at {ops : Array Oper} {rest : List Oper} {a : Act} {w : World} {Q : Exit → Act → World → Prop} {dst : Option Tmp} {t' : TypeId} {pos : String} {aft : Array Edge}
    (h : wpList Try.prog ops Q rest (a.put dst (.pointer (some ⟨w.heap.size, 0, none⟩))) (w.alloc (.cells (rcells (0, 0)) 33))) :
    wpList Try.prog ops Q ({ dst := dst, op := .alloc 33, type := t', pos := pos, after := aft, guard := none } :: rest) a w :=
  Great.wpList_allocTo rfl dst rfl _ _ (allocR_run rfl) h
theorem allocR_setRow (w : World) (cs ds : Array Value) (t : TypeId) : (w.alloc (.cells cs t)).setRow w.heap.size ds = w.alloc (.cells ds t) := by
  unfold World.setRow World.alloc
  simp only
  congr 1
  apply Array.ext_getElem?
  intro k
  rw [Array.getElem?_modify]
  by_cases h : w.heap.size = k
  · subst h
    simp
  · rw [if_neg h, Array.getElem?_push, Array.getElem?_push, if_neg (fun e => h e.symm), if_neg (fun e => h e.symm)]
theorem storeR_at {ops : Array Oper} {rest : List Oper} {a : Act} {w : World} {Q : Exit → Act → World → Prop} {t' : TypeId} {pos : String} {aft : Array Edge} (k j : Nat) (w0 : World) (s : Nat × Nat) (hx : a.eval (.tmp k) = .pointer (some ⟨w0.heap.size, 0, none⟩)) (hy : a.eval (.tmp j) = .agg (rcells s)) (hw : w = w0.alloc (.cells (rcells (0, 0)) 33))
    (h : wpList Try.prog ops Q rest a (w0.alloc (.cells (rcells s) 33))) :
    wpList Try.prog ops Q ({ dst := none, op := .store 33 (.tmp k) (.tmp j), type := t', pos := pos, after := aft, guard := none } :: rest) a w := by
  subst hw
  refine wpList_store_rowTo rfl 33 (.tmp k) (.tmp j) rfl rfl w0.heap.size (rcells s) hx hy 33 (rcells (0, 0)) (Blk.new _ _ _) (by kernel_rfl) rfl (rcells_one s) ?_
  rw [allocR_setRow]
  exact h
theorem wholeR_at {ops : Array Oper} {rest : List Oper} {a : Act} {w : World} {Q : Exit → Act → World → Prop} {dst : Option Tmp} {t' : TypeId} {pos : String} {aft : Array Edge} (k : Nat) (g : Nat) (s : Nat × Nat) (hx : a.eval (.tmp k) = .pointer (some ⟨g, 0, none⟩)) (hb : Blk w g 33 (rcells s))
    (h : wpList Try.prog ops Q rest (a.put dst (.agg (rcells s))) w) :
    wpList Try.prog ops Q ({ dst := dst, op := .load 33 (.tmp k), type := t', pos := pos, after := aft, guard := none } :: rest) a w :=
  wpList_load_row rfl 33 (.tmp k) rfl g hx 33 (rcells s) (0, 0) _ hb Try.underlying33 rfl (by kernel_rfl) h
theorem opR_store {o : Oper} {a : Act} {w : World} {K : Act → World → Prop} {Q : Exit → Act → World → Prop} (x y : Operand) (ho : o.op = .store 23 x y) (hdst : o.dst = none) (g off : Nat) (old : Value) (v : Int) (hx : a.eval x = .pointer (some ⟨g, off, none⟩)) (hy : a.eval y = .int .u32 v)
    (hc : w.cell? ⟨g, off, none⟩ = some old) (hf : w.frozen? ⟨g, off, none⟩ = false) (hK : K a (w.setCell ⟨g, off, none⟩ (.int .u32 v))) : o.wp Try.prog a w K Q := by
  have u3 : Try.prog.underlying 23 = some (.int .u32) := Try.underlying23
  have r : (execOp a.eval o).run Try.prog w = .ok .skip (w.setCell ⟨g, off, none⟩ (.int .u32 v)) := by
    unfold execOp
    simp only [ho, hx, hy]
    go_simp
  unfold Oper.wp
  rw [r]
  show K (a.put o.dst undef) _
  rw [hdst]
  exact hK

end Go.Proofs.Ytppdnejkbdnlcaa
