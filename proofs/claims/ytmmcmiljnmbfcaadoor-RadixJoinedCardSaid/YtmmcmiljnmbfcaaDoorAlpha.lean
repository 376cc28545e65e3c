/-
  What radix.alphabet answers, for stage 2 (radix): the 64 characters, as an array of numbers.
-/
import Derived.Test.YtmmcmiljnmbfcaaDoorRows
import Derived.Test.YtmmcmiljnmbfcaaDoorMath
import Derived.WalkKit
import Derived.WalkSpells
import Derived.WalkLawsBesides
import Derived.Deep.WholeRow
import Derived.Lib.Hide
import Derived.Great.BuildSlice
namespace Go.Proofs.YtmmcmiljnmbfcaaDoor
open Go.RowKit

/-- The character that stands for a number from 0 to 63. -/
def sg (v : Nat) : Nat := if v < 26 then v + 65 else if v < 52 then v + 71 else if v < 62 then v - 4 else if v = 62 then 43 else 47

def alphaCells : Array Value := ((List.range 64).map fun v => Value.int .u8 (sg v)).toArray
def zeroCells (n : Nat) : Array Value := (List.replicate n (Value.int .u8 0)).toArray

theorem Tryd.info40 : (Tryd.prog.info? 40).map (fun i => (i.zero, i.size)) = some (some (.agg (zeroCells 64)), 64) := by kernel_rfl
theorem Tryd.size40 : (Tryd.prog.info? 40).map (·.size) = some alphaCells.size := by kernel_rfl

theorem alpha_size : alphaCells.size = 64 := by kernel_rfl
theorem alpha_store (w : World) : (storeCells ⟨w.heap.size, 0, none⟩ alphaCells.toList 0).run Tryd.prog (w.alloc (.cells (zeroCells 64) 40)) = .ok () (w.alloc (.cells alphaCells 40)) :=
  run_storeCells_new w 40 _ _ Tryd.size40 (by kernel_rfl) (by kernel_rfl)
theorem alpha_load (w : World) : (loadCellsFrom ⟨w.heap.size, 0, none⟩ 0 64 #[]).run Tryd.prog (w.alloc (.cells alphaCells 40)) = .ok alphaCells (w.alloc (.cells alphaCells 40)) :=
  run_loadCellsFrom_new w 40 _ 64 alpha_size

set_option maxHeartbeats 400000 in
theorem alpha_any (w : World) : Calls Tryd.prog 18 #[] w fun e w' => e = .returned (.agg alphaCells) ∧ w' = w.alloc (.cells alphaCells 40) := by
  have hz := (zero_of_info Tryd.info40).1
  have hs := alpha_store w
  have hl := alpha_load w
  have hsz := alpha_size
  go_enter Tryd.func18, Tryd.ntmps18
  go_wp2_with (refine wpList_buildTo rfl 40 _ rfl (some 1) rfl alphaCells (by kernel_rfl) ?_)
  (try simp only [Exit.inBlock, Exit.then])
  exact bodyPost_ret (results_cell_row rfl _ _ w.heap.size 40 alphaCells (0, 0) (.array 64 5) rfl (heap_alloc_new _ _) Tryd.underlying40 rfl Tryd.size40) rfl ⟨rfl, rfl⟩

/-- The letter that stands at a place of the alphabet. -/
theorem alpha_at (v : Nat) (h : v < 64) : alphaCells[v]? = some (.int .u8 (sg v)) := by
  simp [alphaCells, h]

end Go.Proofs.YtmmcmiljnmbfcaaDoor
