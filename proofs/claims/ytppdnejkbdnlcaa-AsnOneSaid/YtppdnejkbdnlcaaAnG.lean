/-
  The sort's world at ranges, for stage 12 (asn).
-/
import Derived.Test.YtppdnejkbdnlcaaAnU
import Derived.Shelf.SlSortCmp.WholeK
namespace Go.Proofs.Ytppdnejkbdnlcaa
open Go.RowKit
set_option linter.unusedVariables false

/-! The sort. -/
abbrev Rg6 := { s : (Nat × Nat) // OkR s }
instance : Inhabited Rg6 := ⟨⟨(0, 0), zeroR_ok⟩⟩
def encR (x : Rg6) : List Value := rcL x.1
theorem encR_len (x : Rg6) : (encR x).length = 2 := rcL_len x.2
theorem encR_one (x : Rg6) : ∀ v ∈ encR x, v.oneCell' = true := fun v hv => (Array.all_eq_true_iff_forall_mem.1 (rcells_one x.1)) v (by rw [← rcL_arr]; exact List.mem_toArray.2 hv)
def withR (L : List (Nat × Nat)) (h : OkL L) : Array Rg6 := (L.attach.map fun x => (⟨x.1, h x.1 x.2⟩ : Rg6)).toArray
def bareR (d : Array Rg6) : List (Nat × Nat) := d.toList.map (·.1)
theorem withR_size (L : List (Nat × Nat)) (h : OkL L) : (withR L h).size = L.length := by simp [withR]
theorem bareR_with (L : List (Nat × Nat)) (h : OkL L) : bareR (withR L h) = L := by
  unfold bareR withR
  rw [List.map_map]
  show L.attach.map Subtype.val = L
  exact List.attach_map_subtype_val L
theorem bareR_six (d : Array Rg6) : OkL (bareR d) := fun s hs => by
  obtain ⟨x, _, rfl⟩ := List.mem_map.1 hs
  exact x.2
theorem bareR_len (d : Array Rg6) : (bareR d).length = d.size := by simp [bareR]
theorem bareR_at (d : Array Rg6) (j : Nat) (hj : j < d.size) : (bareR d)[j]'(by rw [bareR_len]; exact hj) = (d[j]!).1 := by
  rw [getElem!_pos d j hj]
  simp [bareR]
/-- A cell of the flat row. -/
theorem flatRg_at (d : Array Rg6) (t : Nat) (ht : t < d.size * 2) : (flatR (bareR d))[t]? = some (Sort.flatK encR 2 d)[t]! := by
  have hq : t / 2 < d.size := Nat.div_lt_of_lt_mul (by omega)
  have e := flatR_at (bareR_six d) (t / 2) (t % 2) (by rw [bareR_len]; exact hq) (Nat.mod_lt _ (by decide))
  rw [show t / 2 * 2 + t % 2 = t by omega, bareR_at d _ hq] at e
  rw [e, Sort.get_flatK encR 2 d t ht]
  have hm : t % 2 < (encR d[t / 2]!).length := by rw [encR_len]; exact Nat.mod_lt _ (by decide)
  show (encR d[t / 2]!)[t % 2]? = _
  rw [List.getElem?_eq_getElem hm, getElem!_pos (encR d[t / 2]!) (t % 2) hm]
theorem RgOut.holds {W0 wr : World} {g cap n : Nat} {d : Array Rg6} (h : RgOut W0 wr (.slice (some ⟨g, 0, none⟩) n cap) (bareR d)) (hn : n = d.size) : Sort.HoldsK encR 2 wr g 0 d := by
  subst hn
  intro j hj
  rw [Sort.size_flatK] at hj
  have hc := h.1
  rw [bareR_len] at hc
  rw [Nat.zero_add]
  exact ⟨by rw [hc.cellAt j hj]; exact flatRg_at d j hj, hc.frozenAt j⟩
/-- Behind the sort. -/
theorem RgOut.sorted {W0 wr : World} {g cap n m : Nat} {d d' : Array Rg6} {os : Array Obj} (h : RgOut W0 wr (.slice (some ⟨g, 0, none⟩) n cap) (bareR d)) (hn : n = d.size) (hd : d'.size = d.size) : RgOut W0 (sortWorldK encR 2 wr g 0 m d' os) (.slice (some ⟨g, 0, none⟩) n cap) (bareR d') := by
  subst hn
  have hc := h.1
  rw [bareR_len] at hc
  have hlt : g < wr.heap.size := (hc.lt g rfl).2
  rcases hc.2 with ⟨e', _⟩ | ⟨g', cap', cur, e', hb, hg, hnc, hcm, hcs, htake⟩
  · cases e'
  injection e' with e1 e2 e3
  injection e1 with e1
  injection e1 with e1
  subst e1 e3
  have hg2 : (sortWorldK encR 2 wr g 0 m d' os).heap[g]? = some (.cells (Sort.putCells id 0 (Sort.flatK encR 2 d') cur) 33 (0, 0)) := by
    unfold sortWorldK Sort.grow Sort.putRowK Sort.putRow Sort.mapBlock
    show ((wr.heap.modify g _) ++ os)[g]? = _
    rw [Array.getElem?_append_left (by rw [Array.size_modify]; exact hlt), Array.getElem?_modify, if_pos rfl, hg]
    rfl
  refine ⟨⟨by rw [flatR_len (bareR_six d')], .inr ⟨g, cap, _, by rw [bareR_len, hd], hb, hg2, by rw [bareR_len, hd]; exact hnc, hcm, ?_, ?_⟩⟩, ⟨h.2.1.os, h.2.1.tape, h.2.1.output, ?_, fun k hk => ?_⟩, bareR_six d'⟩
  · unfold Sort.putCells
    rw [Array.size_mapIdx]
    exact hcs
  · apply List.ext_getElem?
    intro t
    rcases Nat.lt_or_ge t ((bareR d').length * 2) with ht | ht
    · rw [List.getElem?_take, if_pos ht]
      have ht' : t < d'.size * 2 := by rwa [bareR_len] at ht
      rw [flatRg_at d' t ht', Array.getElem?_toList]
      unfold Sort.putCells
      have hcur : t < cur.size := by
        rw [hcs]
        have : d.size * 2 ≤ cap * 2 := Nat.mul_le_mul_right _ hnc
        omega
      rw [Array.getElem?_mapIdx, Array.getElem?_eq_getElem hcur]
      simp only [Option.map_some, Nat.sub_zero, Nat.zero_add, id]
      rw [if_pos ⟨Nat.zero_le _, by rw [Sort.size_flatK]; exact ht'⟩]
    · rw [List.getElem?_eq_none (by rw [List.length_take]; omega), List.getElem?_eq_none (by rw [flatR_len (bareR_six d')]; omega)]
  · unfold sortWorldK Sort.grow Sort.putRowK Sort.putRow Sort.mapBlock
    show W0.heap.size ≤ ((wr.heap.modify g _) ++ os).size
    rw [Array.size_append, Array.size_modify]
    have := h.2.1.size
    omega
  · unfold sortWorldK Sort.grow Sort.putRowK Sort.putRow Sort.mapBlock
    show ((wr.heap.modify g _) ++ os)[k]? = _
    have hk2 : k < wr.heap.size := Nat.lt_of_lt_of_le hk h.2.1.size
    rw [Array.getElem?_append_left (by rw [Array.size_modify]; exact hk2), Array.getElem?_modify, if_neg (by omega)]
    exact h.2.1.block k hk

end Go.Proofs.Ytppdnejkbdnlcaa
