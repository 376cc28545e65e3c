/-
  The block of a Hash, and what New and putWord answer, for stage 6 (sha).
-/
import Derived.Test.YtgldoppcillljaaDoorShaB
import Derived.Test.YtgldoppcillljaaDoorShaZ
namespace Go.Proofs.YtgldoppcillljaaDoor
open Go.RowKit
set_option linter.unusedVariables false

/-- A Hash's cells: the words, the number of bytes, the rest. -/
def hcells (s : V8) (m : Int) (rs : List Int) : Array Value := (s.cells.toList ++ (Value.int .u64 m :: rs.map (Value.int .u8))).toArray
theorem hcells_size (s : V8) (m : Int) (rs : List Int) (h : rs.length = 64) : (hcells s m rs).size = 73 := by
  unfold hcells
  simp [h, V8.cells]
theorem hcells_many (s : V8) (m : Int) (rs : List Int) : (hcells s m rs)[8]? = some (.int .u64 m) := rfl
theorem hcells_word (s : V8) (m : Int) (rs : List Int) (j : Nat) (v : Value) (h : s.cells.toList[j]? = some v) : (hcells s m rs)[j]? = some v := by
  unfold hcells
  have hj : j < s.cells.toList.length := (List.getElem?_eq_some_iff.1 h).1
  rw [List.getElem?_toArray, List.getElem?_append_left hj]
  exact h
theorem hcells_rest (s : V8) (m : Int) (rs : List Int) (j : Nat) (h : j < rs.length) : (hcells s m rs)[9 + j]? = some (.int .u8 (rs[j]?.getD 0)) := by
  unfold hcells
  rw [List.getElem?_toArray, List.getElem?_append_right (by simp [V8.cells]; omega), show 9 + j - s.cells.toList.length = j + 1 by simp [V8.cells]; omega, List.getElem?_cons_succ, List.getElem?_map, List.getElem?_eq_getElem h]
  rfl
theorem hcells_setMany (s : V8) (m m' : Int) (rs : List Int) : (hcells s m rs).setIfInBounds 8 (.int .u64 m') = hcells s m' rs := rfl
theorem hcells_setWords (s s' : V8) (m : Int) (rs : List Int) : ((hcells s m rs).toList.take 0 ++ s'.cells.toList ++ (hcells s m rs).toList.drop (0 + s'.cells.toList.length)).toArray = hcells s' m rs := by
  unfold hcells
  simp [V8.cells]
theorem hcells_setRest (s : V8) (m : Int) (rs cs : List Int) (k : Nat) (h : k + cs.length ≤ rs.length) : (splice (hcells s m rs).toList (9 + k) (cs.map (Value.int .u8))).toArray = hcells s m (rs.take k ++ cs ++ rs.drop (k + cs.length)) := by
  unfold splice hcells
  have e : s.cells.toList.length = 8 := by simp [V8.cells]
  apply Array.ext'
  simp only [List.map_append, List.map_take, List.map_drop, List.length_map]
  rw [List.take_append, List.drop_append, e, show 9 + k - 8 = k + 1 by omega, show 9 + k + cs.length - 8 = (k + cs.length) + 1 by omega, List.take_succ_cons, List.drop_succ_cons, List.take_of_length_le (by omega), List.drop_of_length_le (by omega)]
  simp [List.append_assoc]

/-- Block g is a Hash's. -/
def HBlk (w : World) (g : Nat) (s : V8) (m : Int) (rs : List Int) : Prop := Blk w g 45 (hcells s m rs)
theorem HBlk.row {w : World} {g : Nat} {s : V8} {m : Int} {rs : List Int} (h : HBlk w g s m rs) (hl : rs.length = 64) (hb : ∀ x ∈ rs, 0 ≤ x ∧ x ≤ 255) : Row w (some ⟨g, 9, none⟩) 64 rs :=
  ⟨hl, hb, fun _ => ⟨g, 9, rfl, Blk.lt h, fun i hi => (Blk.cell h (9 + i)).trans (hcells_rest s m rs i (by omega))⟩⟩
theorem HBlk.range {w : World} {g : Nat} {s : V8} {m : Int} {rs : List Int} (h : HBlk w g s m rs) : w.rangeAt g 0 s.cells.toList := by
  intro j v hj
  rw [Nat.zero_add, Blk.cell h j]
  exact hcells_word s m rs j v hj

/-- It holds the bytes that have been written: L. -/
def Holds (w : World) (g : Nat) (L : List Int) : Prop :=
  ∃ rs : List Int, rs.length = 64 ∧ (∀ x ∈ rs, 0 ≤ x ∧ x ≤ 255) ∧ rs.take (L.length % 64) = L.drop (64 * (L.length / 64)) ∧ HBlk w g (runV (L.length / 64) H0 L) (L.length : Int) rs
theorem Holds.kept {w w' : World} {g : Nat} {L : List Int} (h : Holds w g L) (hb : w'.heap[g]? = w.heap[g]?) : Holds w' g L := by
  obtain ⟨rs, h1, h2, h3, h4⟩ := h
  exact ⟨rs, h1, h2, h3, hb.trans h4⟩
theorem Holds.lt {w : World} {g : Nat} {L : List Int} (h : Holds w g L) : g < w.heap.size := by
  obtain ⟨rs, h1, h2, h3, h4⟩ := h
  exact Blk.lt h4
theorem Holds.below {w w' : World} {g : Nat} {L : List Int} (h : Holds w g L) (hb : Below w.heap.size w w') : Holds w' g L := h.kept (hb.block g h.lt)
theorem ok_run (k : Nat) : ∀ {s : V8} (l : List Int), s.ok → (runV k s l).ok := by
  induction k with
  | zero => intro s l h; exact h
  | succ k ih => intro s l h; exact ih _ (ok_block _ _)

def NewHash : Array Value := hcells H0 0 (List.replicate 64 0)
set_option maxHeartbeats 500000 in
set_option maxRecDepth 100000 in
theorem new_any (w : World) (ht : Tab w) : Calls Tryd.prog 12 #[] w fun e w' => e = .returned (.pointer (some ⟨w.heap.size, 0, none⟩)) ∧ w' = w.alloc (.cells NewHash 45) := by
  obtain ⟨tt, fr, hg⟩ := ht.2.1
  have HG := Lib.hid hg
  clear hg ht
  go_enter Tryd.func12, Tryd.ntmps12
  go_wp2_with (first
    | (refine wpList_load_row rfl 41 (.global 0) rfl 0 rfl tt H0.cells fr (.array 8 37) HG.out Tryd.underlying41 rfl (Tryd.size41 _) ?_)
    | (refine wpList_buildTo rfl 45 #[(0, .tmp 1)] rfl (some 2) rfl NewHash (by kernel_rfl) ?_)
    | (refine Great.wpList_boxTo rfl 45 (.tmp 2) rfl (some 3) rfl w.heap.size rfl NewHash rfl ?_))
  go_ret
  exact ⟨rfl, rfl⟩
theorem new_holds (w : World) : Holds (w.alloc (.cells NewHash 45)) w.heap.size [] :=
  ⟨List.replicate 64 0, by simp, by intro x hx; have := List.eq_of_mem_replicate hx; omega, rfl, Blk.new w _ _⟩

end Go.Proofs.YtgldoppcillljaaDoor
