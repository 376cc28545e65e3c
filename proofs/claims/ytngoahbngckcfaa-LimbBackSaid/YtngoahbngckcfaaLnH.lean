/-
  What the reference's From answers, for stage 7 (limb).
-/
import Derived.Test.YtngoahbngckcfaaLimX
import Derived.Test.YtngoahbngckcfaaLnG
namespace Go.Proofs.Ytngoahbngckcfaa
open Go.RowKit
set_option linter.unusedVariables false

set_option maxHeartbeats 2000000 in
set_option maxRecDepth 10000 in
theorem rfrom_any (a : Option Addr) (n ca : Nat) (zs : List Int) (w : World) (hr : Row w a n zs) (hn : n ≤ 100000) : Calls Try.prog 17 #[.slice a n ca] w (GivesL (beV zs) w) := by
  obtain ⟨i0, hi, hz0, hz1, hz2⟩ := info_parts Try.info32
  have HA := Lib.hid hr
  have HL : Hid (zs.length = n) := Lib.hid hr.1
  clear hr
  obtain ⟨N, hN⟩ : ∃ N, n / 4 + 1 = N := ⟨_, rfl⟩
  have g1 : (n : Int) / 4 + 1 = (N : Int) := by omega
  have w1 : IntKind.i64.wrap ((n : Int) / 4) = (n : Int) / 4 := IntWalk.i64_in _ (by omega)
  have w2 : IntKind.i64.wrap ((n : Int) / 4 + 1) = (N : Int) := by rw [g1]; exact IntWalk.i64_in _ (by omega)
  go_enter Try.func17, Try.ntmps17
  go_wp2_with (at_make; refine wpList_make_full _ rfl _ _ 22 rfl w.heap.size 36 i0 (.int .u32 0) 1 Try.underlying22 hi hz0 hz1 _ _ _ _ N rfl rfl ?b0 ?b00 ?b1 ?b2 ?b3 ?_)
  case b0 => first | rfl | omega
  case b00 => first | rfl | omega
  case b1 => rw [hz2]; omega
  case b2 => unfold maxLen; omega
  case b3 => exact Nat.le_refl _
  intro w1 hown0 hgrow
  have HO := Lib.hid (out_made32 hown0 hgrow)
  clear hown0 hgrow hz2 hz1 hz0 hi
  go_wp2_with fail
  go_loopw [4] (fun iV wr => ∃ (i : Nat) (L : List Int), iV = .int .i64 (i : Int) ∧ i ≤ n ∧ Out32 w wr (.slice (some ⟨w.heap.size, 0, none⟩) N N) L ∧ Limbs L ∧ L.length = N ∧ valZ L = beV (zs.take i) * 256 ^ (n - i)) (fun iV _ => (1000001 - intOf iV).toNat)
  case atStart => exact ⟨0, _, rfl, by omega, HO.out, limbs_zeros _, by simp, by rw [valZ_zeros]; simp [beV_nil]⟩
  case round =>
    obtain ⟨i, L, rfl, hi, ho, hL, hlen, hval⟩ := hrel
    have HO2 := Lib.hid ho
    have HLL := Lib.hid hL
    have HN := Lib.hid hlen
    have HV := Lib.hid hval
    clear ho hL hlen hval HO
    by_cases hmore : i < n
    · have t1 : decide ((i : Int) < (n : Int)) = true := decide_eq_true (by omega)
      obtain ⟨k, hk⟩ : ∃ k, n - 1 - i = k := ⟨_, rfl⟩
      obtain ⟨q, hq⟩ : ∃ q, k / 4 = q := ⟨_, rfl⟩
      have r4 := Nat.mod_lt k (show 0 < 4 by omega)
      obtain ⟨r, hr⟩ : ∃ r, k % 4 = r := ⟨_, rfl⟩
      rw [hr] at r4
      obtain ⟨b, off, rfl, hbl0, hcell0⟩ := HA.out.2.2 (by omega)
      have cb : wr.drew.cell? ⟨b, off + i, none⟩ = some (.int .u8 (zs[i]?.getD 0)) := ((show Below w.heap.size w wr.drew from { HO2.out.2 with }).cell (p := ⟨b, off + i, none⟩) hbl0).trans (hcell0 i hmore)
      have br := HA.out.byte i
      have qN : q < N := by omega
      have HV1 : valZ L = beV (zs.take i) * 256 ^ (4 * q + r + 1) := by rw [HV.out, show n - i = 4 * q + r + 1 by omega]
      have S := from_step (b := zs[i]?.getD 0) (by rw [HN.out]; exact qN) HV1
      rw [← beV_take (by rw [HL.out]; exact hmore), show 4 * q + r = n - (i + 1) by omega] at S
      have RM := from_room HLL.out r4 (by rw [HN.out]; exact qN) HV1
      have lr : 0 ≤ L[q]?.getD 0 ∧ L[q]?.getD 0 ≤ 4294967295 := by
        rw [List.getElem?_eq_getElem (by rw [HN.out]; exact qN)]
        exact HLL.out _ (List.getElem_mem _)
      have FT := from_fits r4 lr.1 lr.2 br.1 br.2 RM
      obtain ⟨hc1, hf1⟩ := HO2.out.cell q (by rw [HN.out]; exact qN)
      have HSET := Lib.hid (fun v => HO2.out.set (Nat.le_refl _) q v)
      have LN := Lib.hid (limbs_set HLL.out q (v := L[q]?.getD 0 + zs[i]?.getD 0 * 256 ^ r) (by omega) (by omega))
      have SV := Lib.hid S
      generalize L[q]?.getD 0 = l at *
      generalize zs[i]?.getD 0 = z at *
      have k1 : IntKind.i64.wrap ((n : Int) - 1) = (n : Int) - 1 := IntWalk.i64_in _ (by omega)
      have k2 : IntKind.i64.wrap ((n : Int) - 1 - (i : Int)) = (k : Int) := by rw [show (n : Int) - 1 - (i : Int) = (k : Int) by omega]; exact IntWalk.i64_in _ (by omega)
      have k3 : (k : Int) / 4 = (q : Int) := by omega
      have k4 : (k : Int) % 4 = (r : Int) := by omega
      have k5 : IntKind.i64.wrap (q : Int) = (q : Int) := IntWalk.i64_in _ (by omega)
      have qI : (q : Int) < (N : Int) := by omega
      have iI : (i : Int) < (n : Int) := by omega
      have k6 : IntKind.u32.wrap z = z := IntWalk.u32_in _ (by omega)
      have hiM : i ≤ 1000000 := by omega
      clear hcell0 HV1 S RM HV
      have cz : ∀ W, Below w.heap.size wr.drew W → W.cell? ⟨b, off + i, none⟩ = some (.int .u8 z) := fun W hW => by
        have h1 : W.cell? ⟨b, off + i, none⟩ = wr.drew.cell? ⟨b, off + i, none⟩ := hW.cell (p := ⟨b, off + i, none⟩) hbl0
        exact h1.trans cb
      obtain rfl | rfl | rfl | rfl : r = 0 ∨ r = 1 ∨ r = 2 ∨ r = 3 := by omega
      · have kt : (k : Int).tmod 4 = 0 := by rw [Int.tmod_eq_emod_of_nonneg (by omega)]; omega
        have kp : (256 : Int) ^ 0 = 1 := by decide
        rw [kp, Int.mul_one] at FT LN SV
        have wz : IntKind.u32.wrap (z) = z := IntWalk.u32_in _ (by omega)
        have wl : IntKind.u32.wrap (l + z) = l + z := IntWalk.u32_in _ (by omega)
        have w8 : IntKind.i64.wrap 0 = 0 := by decide
        have hc2 : wr.drew.cell? ⟨w.heap.size, q, none⟩ = some (.int .u32 l) := hc1
        have hf2 : wr.drew.frozen? ⟨w.heap.size, q, none⟩ = false := hf1
        clear FT kp k4 r4
        go_wp2_with fail
        refine wp_region_ord (Below w.heap.size) (Below.refl _) (fun _ _ _ => Below.trans) [(0, false), (1, false), (2, false), (3, false), (4, false), (5, false), (6, false), (8, false), (9, false), (10, false), (11, false), (12, false), (13, false), (14, false), (15, false), (16, false), (7, true), (17, false), (18, false), (19, true)] (by kernel_rfl) (by kernel_rfl) rfl (by kernel_rfl) (fun _ _ _ _ _ h => h) ?_
        repeat (refine ord_take _ rfl (by rfl) (fun W hW => by go_simp; first | done | rfl) ?_; simp only [Act.put, List.setIfInBounds_toArray, List.set_cons_zero, List.set_cons_succ])
        refine ord_sole rfl (by rfl) (fun K1 hK1 => ?_)
        unfold Oper.wp
        go_simp
        refine hK1 _ _ (Below.refl _ _) ?_
        clear hK1 K1 cz
        try simp only [Act.put, List.setIfInBounds_toArray, List.set_cons_zero, List.set_cons_succ]
        repeat (refine ord_take _ rfl (by rfl) (fun W hW => by go_simp; first | done | rfl) ?_; try simp only [Act.put, List.setIfInBounds_toArray, List.set_cons_zero, List.set_cons_succ])
        refine ord_sole rfl (by rfl) (fun K1 hK1 => ?_)
        unfold Oper.wp
        go_simp
        refine hK1 _ _ ((Below.refl _ _).setCell (p := ⟨w.heap.size, q, none⟩) (Nat.le_refl _) _) ?_
        clear hK1 K1 hc1 hc2 hf1 hf2
        refine ord_end ?_
        have O5 := Lib.hid (HO2.out.set (Nat.le_refl _) q (l + z)).drew
        generalize hw5 : (wr.setCell ⟨w.heap.size, q, none⟩ (.int .u32 (l + z))).drew = w5 at *
        clear hw5
        go_wp2_with fail
        go_roundw
        case rel => exact ⟨i + 1, _, by go_num, by omega, O5.out, LN.out, by rw [List.length_set]; exact HN.out, SV.out⟩
        case measure => simp only [intOf]; exact meas_lt hiM
      · have kt : (k : Int).tmod 4 = 1 := by rw [Int.tmod_eq_emod_of_nonneg (by omega)]; omega
        have kp : (256 : Int) ^ 1 = 256 := by decide
        rw [kp] at FT LN SV
        have wz : IntKind.u32.wrap (z * 256) = z * 256 := IntWalk.u32_in _ (by omega)
        have wl : IntKind.u32.wrap (l + z * 256) = l + z * 256 := IntWalk.u32_in _ (by omega)
        have w8 : IntKind.i64.wrap 8 = 8 := by decide
        have hc2 : wr.drew.cell? ⟨w.heap.size, q, none⟩ = some (.int .u32 l) := hc1
        have hf2 : wr.drew.frozen? ⟨w.heap.size, q, none⟩ = false := hf1
        clear FT kp k4 r4
        go_wp2_with fail
        refine wp_region_ord (Below w.heap.size) (Below.refl _) (fun _ _ _ => Below.trans) [(0, false), (1, false), (2, false), (3, false), (4, false), (5, false), (6, false), (8, false), (9, false), (10, false), (11, false), (12, false), (13, false), (14, false), (15, false), (16, false), (7, true), (17, false), (18, false), (19, true)] (by kernel_rfl) (by kernel_rfl) rfl (by kernel_rfl) (fun _ _ _ _ _ h => h) ?_
        repeat (refine ord_take _ rfl (by rfl) (fun W hW => by go_simp; first | done | rfl) ?_; simp only [Act.put, List.setIfInBounds_toArray, List.set_cons_zero, List.set_cons_succ])
        refine ord_sole rfl (by rfl) (fun K1 hK1 => ?_)
        unfold Oper.wp
        go_simp
        refine hK1 _ _ (Below.refl _ _) ?_
        clear hK1 K1 cz
        try simp only [Act.put, List.setIfInBounds_toArray, List.set_cons_zero, List.set_cons_succ]
        repeat (refine ord_take _ rfl (by rfl) (fun W hW => by go_simp; first | done | rfl) ?_; try simp only [Act.put, List.setIfInBounds_toArray, List.set_cons_zero, List.set_cons_succ])
        refine ord_sole rfl (by rfl) (fun K1 hK1 => ?_)
        unfold Oper.wp
        go_simp
        refine hK1 _ _ ((Below.refl _ _).setCell (p := ⟨w.heap.size, q, none⟩) (Nat.le_refl _) _) ?_
        clear hK1 K1 hc1 hc2 hf1 hf2
        refine ord_end ?_
        have O5 := Lib.hid (HO2.out.set (Nat.le_refl _) q (l + z * 256)).drew
        generalize hw5 : (wr.setCell ⟨w.heap.size, q, none⟩ (.int .u32 (l + z * 256))).drew = w5 at *
        clear hw5
        go_wp2_with fail
        go_roundw
        case rel => exact ⟨i + 1, _, by go_num, by omega, O5.out, LN.out, by rw [List.length_set]; exact HN.out, SV.out⟩
        case measure => simp only [intOf]; exact meas_lt hiM
      · have kt : (k : Int).tmod 4 = 2 := by rw [Int.tmod_eq_emod_of_nonneg (by omega)]; omega
        have kp : (256 : Int) ^ 2 = 65536 := by decide
        rw [kp] at FT LN SV
        have wz : IntKind.u32.wrap (z * 65536) = z * 65536 := IntWalk.u32_in _ (by omega)
        have wl : IntKind.u32.wrap (l + z * 65536) = l + z * 65536 := IntWalk.u32_in _ (by omega)
        have w8 : IntKind.i64.wrap 16 = 16 := by decide
        have hc2 : wr.drew.cell? ⟨w.heap.size, q, none⟩ = some (.int .u32 l) := hc1
        have hf2 : wr.drew.frozen? ⟨w.heap.size, q, none⟩ = false := hf1
        clear FT kp k4 r4
        go_wp2_with fail
        refine wp_region_ord (Below w.heap.size) (Below.refl _) (fun _ _ _ => Below.trans) [(0, false), (1, false), (2, false), (3, false), (4, false), (5, false), (6, false), (8, false), (9, false), (10, false), (11, false), (12, false), (13, false), (14, false), (15, false), (16, false), (7, true), (17, false), (18, false), (19, true)] (by kernel_rfl) (by kernel_rfl) rfl (by kernel_rfl) (fun _ _ _ _ _ h => h) ?_
        repeat (refine ord_take _ rfl (by rfl) (fun W hW => by go_simp; first | done | rfl) ?_; simp only [Act.put, List.setIfInBounds_toArray, List.set_cons_zero, List.set_cons_succ])
        refine ord_sole rfl (by rfl) (fun K1 hK1 => ?_)
        unfold Oper.wp
        go_simp
        refine hK1 _ _ (Below.refl _ _) ?_
        clear hK1 K1 cz
        try simp only [Act.put, List.setIfInBounds_toArray, List.set_cons_zero, List.set_cons_succ]
        repeat (refine ord_take _ rfl (by rfl) (fun W hW => by go_simp; first | done | rfl) ?_; try simp only [Act.put, List.setIfInBounds_toArray, List.set_cons_zero, List.set_cons_succ])
        refine ord_sole rfl (by rfl) (fun K1 hK1 => ?_)
        unfold Oper.wp
        go_simp
        refine hK1 _ _ ((Below.refl _ _).setCell (p := ⟨w.heap.size, q, none⟩) (Nat.le_refl _) _) ?_
        clear hK1 K1 hc1 hc2 hf1 hf2
        refine ord_end ?_
        have O5 := Lib.hid (HO2.out.set (Nat.le_refl _) q (l + z * 65536)).drew
        generalize hw5 : (wr.setCell ⟨w.heap.size, q, none⟩ (.int .u32 (l + z * 65536))).drew = w5 at *
        clear hw5
        go_wp2_with fail
        go_roundw
        case rel => exact ⟨i + 1, _, by go_num, by omega, O5.out, LN.out, by rw [List.length_set]; exact HN.out, SV.out⟩
        case measure => simp only [intOf]; exact meas_lt hiM
      · have kt : (k : Int).tmod 4 = 3 := by rw [Int.tmod_eq_emod_of_nonneg (by omega)]; omega
        have kp : (256 : Int) ^ 3 = 16777216 := by decide
        rw [kp] at FT LN SV
        have wz : IntKind.u32.wrap (z * 16777216) = z * 16777216 := IntWalk.u32_in _ (by omega)
        have wl : IntKind.u32.wrap (l + z * 16777216) = l + z * 16777216 := IntWalk.u32_in _ (by omega)
        have w8 : IntKind.i64.wrap 24 = 24 := by decide
        have hc2 : wr.drew.cell? ⟨w.heap.size, q, none⟩ = some (.int .u32 l) := hc1
        have hf2 : wr.drew.frozen? ⟨w.heap.size, q, none⟩ = false := hf1
        clear FT kp k4 r4
        go_wp2_with fail
        refine wp_region_ord (Below w.heap.size) (Below.refl _) (fun _ _ _ => Below.trans) [(0, false), (1, false), (2, false), (3, false), (4, false), (5, false), (6, false), (8, false), (9, false), (10, false), (11, false), (12, false), (13, false), (14, false), (15, false), (16, false), (7, true), (17, false), (18, false), (19, true)] (by kernel_rfl) (by kernel_rfl) rfl (by kernel_rfl) (fun _ _ _ _ _ h => h) ?_
        repeat (refine ord_take _ rfl (by rfl) (fun W hW => by go_simp; first | done | rfl) ?_; simp only [Act.put, List.setIfInBounds_toArray, List.set_cons_zero, List.set_cons_succ])
        refine ord_sole rfl (by rfl) (fun K1 hK1 => ?_)
        unfold Oper.wp
        go_simp
        refine hK1 _ _ (Below.refl _ _) ?_
        clear hK1 K1 cz
        try simp only [Act.put, List.setIfInBounds_toArray, List.set_cons_zero, List.set_cons_succ]
        repeat (refine ord_take _ rfl (by rfl) (fun W hW => by go_simp; first | done | rfl) ?_; try simp only [Act.put, List.setIfInBounds_toArray, List.set_cons_zero, List.set_cons_succ])
        refine ord_sole rfl (by rfl) (fun K1 hK1 => ?_)
        unfold Oper.wp
        go_simp
        refine hK1 _ _ ((Below.refl _ _).setCell (p := ⟨w.heap.size, q, none⟩) (Nat.le_refl _) _) ?_
        clear hK1 K1 hc1 hc2 hf1 hf2
        refine ord_end ?_
        have O5 := Lib.hid (HO2.out.set (Nat.le_refl _) q (l + z * 16777216)).drew
        generalize hw5 : (wr.setCell ⟨w.heap.size, q, none⟩ (.int .u32 (l + z * 16777216))).drew = w5 at *
        clear hw5
        go_wp2_with fail
        go_roundw
        case rel => exact ⟨i + 1, _, by go_num, by omega, O5.out, LN.out, by rw [List.length_set]; exact HN.out, SV.out⟩
        case measure => simp only [intOf]; exact meas_lt hiM
    · obtain rfl : i = n := by omega
      have t1 : decide ((i : Int) < (i : Int)) = false := decide_eq_false (by omega)
      have F : Hid (valZ L = beV zs) := Lib.hid (by rw [HV.out, List.take_of_length_le (by rw [HL.out]; omega), Nat.sub_self]; simp)
      have R3 := (HO2.out.normed HLL.out).1
      have N3 := Lib.hid (rbare_any (some ⟨w.heap.size, 0, none⟩) N N L wr R3 (Nat.le_refl _) (by omega) (fun e => by cases e))
      rw [F.out] at N3
      have B1 := Lib.hid HO2.out.2
      clear R3 HV F
      go_wp2_with fail
      refine N3.out.mono ?_
      rintro e w5 ⟨a5, c5, rfl, h5⟩
      have H5 := Lib.hid h5
      clear h5
      go_wp2_with fail
      go_ret
      exact ⟨a5, c5, rfl, H5.out.1, H5.out.2.1, H5.out.2.2.1, B1.out.trans (H5.out.2.2.2.mono B1.out.size)⟩

end Go.Proofs.Ytngoahbngckcfaa
