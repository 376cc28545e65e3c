/-
  Blocks of 32 bytes, for a seat that lacks the functions of sha (stage 9, rsa).
-/
import Derived.Test.YtdhablbfblkagaaBlk
import Derived.Great.Walk
import Derived.Laws.CopyOwn
import Derived.Laws.ResultCell
import Derived.Deep.MidRow
namespace Go.Proofs.Ytdhablbfblkagaa
open Go.RowKit
set_option linter.unusedVariables false

theorem u8_one (cs : List Int) : ∀ v ∈ cs.map (Value.int .u8), v.oneCell' = true := by
  intro v hv
  obtain ⟨_, _, rfl⟩ := List.mem_map.1 hv
  rfl
/-- The block of 32 bytes, as far as they are laid. -/
def bcells (l : List Int) : Array Value := ((l ++ List.replicate (32 - l.length) 0).map (Value.int .u8)).toArray
def Z32 : Array Value := (List.replicate 32 (Value.int .u8 0)).toArray
theorem bcells_nil : bcells [] = Z32 := rfl
theorem bcells_size (l : List Int) (h : l.length ≤ 32) : (bcells l).size = 32 := by
  unfold bcells
  simp
  omega
theorem bcells_set (l : List Int) (x : Int) (k : Nat) (hk : k = l.length) (h : l.length < 32) : (bcells l).setIfInBounds k (.int .u8 x) = bcells (l ++ [x]) := by
  subst hk
  unfold bcells
  apply Array.ext'
  rw [Array.toList_setIfInBounds, List.length_append, List.length_singleton]
  show ((l ++ List.replicate (32 - l.length) 0).map (Value.int .u8)).set l.length (.int .u8 x) = (l ++ [x] ++ List.replicate (32 - (l.length + 1)) 0).map (Value.int .u8)
  rw [← List.map_set, List.set_append_right _ _ (Nat.le_refl _), Nat.sub_self, show 32 - l.length = (32 - (l.length + 1)) + 1 by omega, List.replicate_succ, List.set_cons_zero, List.append_assoc]
  rfl
theorem bcells_get (l : List Int) (i : Nat) (h : i < 32) : (bcells l)[i]? = some (.int .u8 (l[i]?.getD 0)) := by
  unfold bcells
  rw [List.getElem?_toArray, List.getElem?_map, List.getElem?_append]
  split
  · rename_i hi
    rw [List.getElem?_eq_getElem hi]
    rfl
  · rename_i hi
    rw [List.getElem?_replicate, if_pos (by omega), List.getElem?_eq_none (by omega)]
    rfl
theorem bcells_one (l : List Int) : (bcells l).all (·.oneCell') = true := by
  unfold bcells
  exact all_oneCell_toArray (u8_one _)
theorem Try.size24 (l : List Int) (h : l.length ≤ 32) : (Try.prog.info? 22).map (·.size) = some (bcells l).size := by
  rw [bcells_size l h]
  kernel_rfl
theorem hash_row {w : World} {S : Nat} {hz : List Int} (h : Blk w S 22 (bcells hz)) (hl : hz.length = 32) (hb : ∀ x ∈ hz, 0 ≤ x ∧ x ≤ 255) : Row w (some ⟨S, 0, none⟩) 32 hz :=
  ⟨hl, hb, fun _ => ⟨S, 0, rfl, h.lt, fun i hi => by rw [Nat.zero_add]; exact (h.cell i).trans (bcells_get hz i hi)⟩⟩


end Go.Proofs.Ytdhablbfblkagaa
