/-
  The walk of radix.valuesOfCharacters, for stage 2 (radix).
-/
import Derived.Test.YtmmcmiljnmbfcaaDoorVals
namespace Go.Proofs.YtmmcmiljnmbfcaaDoor
open Go.RowKit

theorem Tryd.info36 : (Tryd.prog.info? 36).map (fun i => (i.zero, i.size)) = some (some (.agg (zeroCells 256)), 256) := by kernel_rfl
theorem Tryd.size36 (f : Nat → Nat) : (Tryd.prog.info? 36).map (·.size) = some (tabOf f).size := by rw [tabOf_size]; kernel_rfl
theorem zero_tab : zeroCells 256 = tabOf (preF 0) := by kernel_rfl

theorem tab_start (w : World) : Tab w ((w.alloc (.cells (zeroCells 256) 36)).alloc (.cells (zeroCells 256) 36)) (preF 0) := by
  refine ⟨?_, ?_, ((Below.refl _ _).alloc (Nat.le_refl _) _).alloc (by simp) _⟩
  · rw [Below.heap_alloc _ _ _ (by simp)]
    exact heap_alloc_new _ _
  · have := heap_alloc_new (w.alloc (.cells (zeroCells 256) 36)) (.cells (zeroCells 256) 36)
    rw [← zero_tab]
    simpa using this

theorem preF_next (k j : Nat) : preF (k + 1) j = if j = k then 64 else preF k j := by
  unfold preF
  by_cases h : j = k
  · rw [if_pos h, if_pos (by omega)]
  · rw [if_neg h]
    by_cases h1 : j < k
    · rw [if_pos h1, if_pos (by omega)]
    · rw [if_neg h1, if_neg (by omega)]

theorem alpha_index (v : Nat) (h : v < 64) (W : World) : (Instr.index 40 (.agg alphaCells) (.int .i64 (v : Int))).run Tryd.prog W = .ok (.int .u8 (sg v)) W := by
  have h1 : (0 : Int) ≤ v ∧ (v : Int) < 64 := by omega
  have h2 := alpha_at v h
  simp [Instr.index, run_underlying Tryd.underlying40, asIntOf, h1, go_sem]
  rw [if_pos h, h2]
  rfl

set_option maxRecDepth 4000 in
set_option maxHeartbeats 1000000 in
theorem vals_any (w : World) : Calls Tryd.prog 16 #[] w fun e w' => e = .returned (.agg (tabOf vl)) ∧ Below w.heap.size w w' := by
  have hz := (zero_of_info Tryd.info36).1
  have HS := Lib.hid (tab_start w)
  go_enter Tryd.func16, Tryd.ntmps16
  go_wp2
  clear hz
  go_loopw [5] (fun i wr => ∃ k : Nat, k ≤ 256 ∧ i = .int .i64 (k : Int) ∧ Tab w wr (preF k)) (fun i _ => 256 - (intOf i).toNat)
  case atStart => exact ⟨0, by omega, rfl, HS.out⟩
  case round =>
    obtain ⟨k, hk, rfl, ht⟩ := hrel
    have HT := Lib.hid ht
    clear ht HS
    by_cases hlt : k < 256
    · have c1 := HT.out.cell k hlt
      have f1 := HT.out.free k
      have HN := Lib.hid (HT.out.set (g := preF (k + 1)) k 64 hlt (fun j _ => preF_next k j))
      clear HT
      go_wp2
      go_roundw
      case rel => exact ⟨k + 1, by omega, by go_num, HN.out⟩
      case measure => simp [intOf]; omega
    · obtain rfl : k = 256 := by omega
      have H64 : Hid (Tab w wr (vlUpto 0)) := by
        refine ⟨HT.out.1, ?_, HT.out.2.2⟩
        rw [HT.out.2.1, tabOf_congr (g := vlUpto 0) (fun i hi => by simp [preF, vlUpto, hi])]
      clear HT
      go_wp2_with fail
      refine (alpha_any wr).mono ?_
      rintro e w1 ⟨rfl, rfl⟩
      have HA := Lib.hid (H64.out.below ((Below.refl _ _).alloc (Nat.le_refl _) (.cells alphaCells 40)))
      clear H64
      go_wp2
      go_loopw [12] (fun i wr => ∃ k : Nat, k ≤ 64 ∧ i = .int .i64 (k : Int) ∧ Tab w wr (vlUpto k)) (fun i _ => 64 - (intOf i).toNat)
      case atStart => exact ⟨0, by omega, rfl, HA.out⟩
      case round =>
        obtain ⟨k, hk, rfl, ht⟩ := hrel
        have HT := Lib.hid ht
        clear ht HA
        by_cases hlt : k < 64
        · have hi := alpha_index k hlt
          have hsl := sg_lt k hlt
          have c1 := HT.out.cell (sg k) hsl
          have f1 := HT.out.free (sg k)
          have HN := Lib.hid (HT.out.set (g := vlUpto (k + 1)) (sg k) k hsl (fun j _ => vlUpto_next k j hlt))
          clear HT
          go_wp2
          go_roundw
          case rel => exact ⟨k + 1, by omega, by go_num, HN.out⟩
          case measure => simp [intOf]; omega
        · obtain rfl : k = 64 := by omega
          have HV : Hid (wr.heap[w.heap.size + 1]? = some (.cells (tabOf vl) 36 (0, 0))) := by
            rw [← tabOf_congr (fun i _ => vlUpto_all i)]
            exact HT.out.2.1
          have HZ := Lib.hid HT.out.1
          have HB := Lib.hid HT.out.2.2
          clear HT
          go_wp2_with (first | refine wpList_load_row rfl 36 (.tmp 1) rfl (w.heap.size + 1) rfl 36 (tabOf vl) (0, 0) (.array 256 5) HV.out Tryd.underlying36 rfl (Tryd.size36 _) ?_ | refine wpList_store_rowTo rfl 36 (.tmp 0) (.tmp 21) rfl rfl w.heap.size (tabOf vl) rfl rfl 36 (zeroCells 256) HZ.out (Tryd.size36 _) (by rw [tabOf_size]; rfl) (tabOf_one _) ?_)
          (try simp only [Exit.inBlock, Exit.then])
          exact bodyPost_ret (results_cell_row rfl _ _ w.heap.size 36 (tabOf vl) (0, 0) (.array 256 5) rfl (setRow_heap _ _ _ _ 36 _ HZ.out) Tryd.underlying36 rfl (Tryd.size36 _)) rfl ⟨rfl, below_setRow HB.out (Nat.le_refl _) _⟩

end Go.Proofs.YtmmcmiljnmbfcaaDoor
