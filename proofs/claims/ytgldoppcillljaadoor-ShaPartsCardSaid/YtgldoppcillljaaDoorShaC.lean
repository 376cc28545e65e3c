/-
  What the reference's constants and filled answer, for stage 6 (sha).
-/
import Derived.Test.YtgldoppcillljaaDoorShaT
import Derived.Test.YtgldoppcillljaaDoorLeastC
import Derived.Great.BuildSlice
import Derived.Deep.LoopGhost
namespace Go.Proofs.YtgldoppcillljaaDoor
open Go.RowKit
set_option linter.unusedVariables false

theorem consts_row (w : World) : Row32 (w.alloc (.cells (CONSTS.map (Value.int .u32)).toArray 37)) (some ⟨w.heap.size, 0, none⟩) 64 CONSTS := row32_const w CONSTS consts_range
set_option maxHeartbeats 1000000 in
theorem rconsts_any (w : World) : Calls Tryd.prog 27 #[] w fun e w' => e = .returned (.slice (some ⟨w.heap.size, 0, none⟩) 64 64) ∧ w' = w.alloc (.cells (CONSTS.map (Value.int .u32)).toArray 37) := by
  go_enter Tryd.func27, Tryd.ntmps27
  go_wp2_with (refine wpList_buildFlatAt rfl 38 37 64 _ rfl .u32 CONSTS w.heap.size rfl (some 1) rfl Tryd.underlying38 (by kernel_rfl) (by kernel_rfl) rfl (by decide) (by decide) (by kernel_rfl) ?_)
  go_ret
  exact ⟨rfl, rfl⟩

theorem GivesNew.of {zs : List Int} {w w' : World} {V : Value} (h : Out w w' V zs) : GivesNew zs w (.returned V) w' := ⟨V, rfl, h⟩
theorem fill_byte {zs : List Int} (h : ∀ x ∈ zs, 0 ≤ x ∧ x ≤ 255) : ∀ x ∈ fillZ zs, 0 ≤ x ∧ x ≤ 255 := by
  intro x hx
  unfold fillZ at hx
  rcases List.mem_append.1 hx with hx | hx
  · rcases List.mem_append.1 hx with hx | hx
    · rcases List.mem_append.1 hx with hx | hx
      · exact h x hx
      · simp only [List.mem_cons, List.not_mem_nil, or_false] at hx
        omega
    · have := List.eq_of_mem_replicate hx
      omega
  · exact beZ_byte _ _ x hx

theorem pad_step {n j : Nat} (h : j < padN n) : ¬ (n + 1 + j) % 64 = 56 := by unfold padN at h; omega
theorem pad_end {n j : Nat} (h : j = padN n) : (n + 1 + j) % 64 = 56 := by unfold padN at h; omega
theorem pad_le (n : Nat) : padN n ≤ 63 := by unfold padN; omega

set_option maxHeartbeats 2000000 in
set_option maxRecDepth 10000 in
theorem rfilled_any (a : Option Addr) (n ca : Nat) (zs : List Int) (w : World) (hr : Row w a n zs) (hn : n ≤ 100000) (hnil : a = none → ca = 0) : Calls Tryd.prog 16 #[.slice a n ca] w (GivesNew (fillZ zs) w) := by
  obtain rfl := hr.1
  have RX := Lib.hid (hr.below ((Below.refl w.heap.size w).alloc (Nat.le_refl _) (.cells #[] 5)))
  have NI := Lib.hid hnil
  have HBN : Hid (([] : List Int).length + zs.length ≤ 1000000) := Lib.hid (by simp; omega)
  have HB1 : Hid (zs.length + 1 ≤ 1000000) := Lib.hid (by omega)
  clear hr hnil
  go_enter Tryd.func16, Tryd.ntmps16
  go_wp2_with (at_builtin; first
    | (refine out_append (W0 := w) (L := []) (zs := zs) rfl _ _ rfl rfl (out_zero w) rfl RX.out NI.out HBN.out ?_; intro V1 w1 ho1; rw [List.nil_append] at ho1; have O1 := Lib.hid (ho1.alloc (.cells #[.int .u8 128] 5)); have R1 := Lib.hid (row_const w1 [128] (0, 0) (by intro y hy; simp at hy; omega)); clear ho1)
    | (refine out_append (W0 := w) (L := zs) (zs := [128]) rfl _ _ rfl rfl O1.out rfl R1.out (fun e => by cases e) HB1.out ?_; intro V2 w2 ho2; have O2 := Lib.hid ho2; clear ho2))
  have hpl := pad_le zs.length
  clear RX HBN HB1
  go_loopw [3] (fun V wr => ∃ j : Nat, j ≤ padN zs.length ∧ Out w wr V (zs ++ [128] ++ List.replicate j 0)) (fun V _ => zs.length + 100 - lenS V)
  case atStart => exact ⟨0, by omega, by simpa using O2.out⟩
  case round =>
    obtain ⟨j, hj, ho⟩ := hrel
    have HO := Lib.hid ho
    have hll : (zs ++ [128] ++ List.replicate j 0).length = zs.length + 1 + j := by simp; omega
    obtain ⟨a', c', rfl⟩ := ho.shape
    clear ho
    by_cases hlt : j < padN zs.length
    · have NE : Hid (zs ++ [128] ++ List.replicate (j + 1) 0 = (zs ++ [128] ++ List.replicate j 0) ++ [0]) := by
        rw [List.replicate_succ', List.append_assoc, List.append_assoc, List.append_assoc]
        exact Lib.hid rfl
      have ps := pad_step hlt
      generalize zs ++ [128] ++ List.replicate j 0 = L at *
      have t0 : ((L.length : Int) % 64 != 56) = true := by simp; omega
      have HBN : Hid (L.length + 1 ≤ 1000000) := Lib.hid (by omega)
      have hl1 : L.length ≤ zs.length + 1 + j := by omega
      clear hll ps
      have O3 := Lib.hid (HO.out.alloc (.cells #[.int .u8 0] 5))
      have R3 := Lib.hid (row_const wr [0] (0, 0) (by intro y hy; simp at hy; omega))
      go_wp2_with (at_builtin; go_must (refine out_append (W0 := w) (L := L) (zs := [0]) rfl _ _ rfl rfl O3.out rfl R3.out (fun e => by cases e) HBN.out ?_; intro V4 w4 ho4; obtain ⟨a4, c4, e4⟩ := ho4.shape; rw [List.length_append, List.length_singleton] at e4; subst e4; have O4 := Lib.hid ho4; clear ho4))
      go_roundw
      case rel => exact ⟨j + 1, by omega, by rw [NE.out]; exact O4.out⟩
      case measure => simp only [lenS]; omega
    · obtain rfl : j = padN zs.length := by omega
      have pe := pad_end (n := zs.length) rfl
      have F : Hid (fillZ zs = (zs ++ [128] ++ List.replicate (padN zs.length) 0) ++ beZ 8 (8 * (zs.length : Int))) := rfl
      generalize zs ++ [128] ++ List.replicate (padN zs.length) 0 = L at *
      have t0 : ((L.length : Int) % 64 != 56) = false := by simp; omega
      have HBN : Hid (L.length + 8 ≤ 1000000) := Lib.hid (by omega)
      have w1 : IntKind.u64.wrap (zs.length : Int) = (zs.length : Int) := IntWalk.u64_in _ (by omega)
      have w8 : IntKind.u64.wrap ((zs.length : Int) * 8) = 8 * (zs.length : Int) := by rw [Int.mul_comm]; exact IntWalk.u64_in _ (by omega)
      have hz : (8 * (zs.length : Int)) / 256 ^ 8 = 0 := by
        rw [show (256 : Int) ^ 8 = 18446744073709551616 by rfl]; omega
      have CB := Lib.hid (fun W => rbytes_ok (8 * (zs.length : Int)) 8 8 W rfl (by omega) (by omega) (by omega) hz)
      have BB := Lib.hid (beZ_byte 8 (8 * (zs.length : Int)))
      clear hz hll pe
      generalize beZ 8 (8 * (zs.length : Int)) = B8 at *
      go_wp2_with fail
      refine (CB.out _).mono ?_
      rintro e w5 ⟨a5, c5, rfl, hr5, hb5, hc5⟩
      have O5 := Lib.hid (HO.out.below hb5)
      have R5 := Lib.hid hr5
      have N5 : Hid (a5 = none → c5 = 0) := by
        obtain ⟨b, off, e, _⟩ := hr5.2.2 (by omega)
        exact Lib.hid (fun h => by rw [e] at h; cases h)
      clear hr5 hb5 HO CB
      go_wp2_with (at_builtin; go_must (refine out_append (W0 := w) (L := L) (zs := B8) rfl _ _ rfl rfl O5.out rfl R5.out N5.out HBN.out ?_; intro V4 w4 ho4; have O4 := Lib.hid ho4; clear ho4))
      go_ret
      rw [F.out]
      exact ⟨V4, rfl, O4.out⟩

end Go.Proofs.YtgldoppcillljaaDoor
