/-
  What the package's From answers, for stage 7 (limb).
-/
import Derived.Test.YtngoahbngckcfaaLnH
namespace Go.Proofs.Ytngoahbngckcfaa
open Go.RowKit
set_option linter.unusedVariables false

theorem beV_fold : ∀ (l : List Int) (v : Int), l.foldl (fun v x => v * 256 + x) v = v * 256 ^ l.length + beV l
  | [], v => by simp [beV]
  | x :: xs, v => by
    have e : beV (x :: xs) = xs.foldl (fun v x => v * 256 + x) (0 * 256 + x) := rfl
    rw [List.foldl_cons, beV_fold xs, e, beV_fold xs, List.length_cons, Int.pow_succ, Int.add_mul, Int.zero_mul, Int.zero_add, Int.mul_comm (256 ^ xs.length) 256, Int.mul_assoc, Int.add_assoc]
theorem beV_cons (x : Int) (xs : List Int) : beV (x :: xs) = x * 256 ^ xs.length + beV xs := by
  have e : beV (x :: xs) = xs.foldl (fun v x => v * 256 + x) (0 * 256 + x) := rfl
  rw [e, beV_fold xs, Int.zero_mul, Int.zero_add]
theorem beV_lt : ∀ {l : List Int}, (∀ x ∈ l, 0 ≤ x ∧ x ≤ 255) → beV l < 256 ^ l.length
  | [], _ => by decide
  | x :: xs, h => by
    have ih := beV_lt (l := xs) (fun y hy => h y (by simp [hy]))
    have hx := h x (by simp)
    have p : (0 : Int) < 256 ^ xs.length := Int.pow_pos (by decide)
    rw [beV_cons, List.length_cons, Int.pow_succ]
    generalize (256 : Int) ^ xs.length = P at *
    have := Int.mul_le_mul_of_nonneg_right (show x ≤ 255 by omega) (Int.le_of_lt p)
    omega
theorem beV_drop {zs : List Int} {i : Nat} (hi : i < zs.length) : beV (zs.drop (zs.length - 1 - i)) = zs[zs.length - 1 - i]?.getD 0 * 256 ^ i + beV (zs.drop (zs.length - i)) := by
  have h : zs.length - 1 - i < zs.length := by omega
  rw [List.drop_eq_getElem_cons h, beV_cons, List.length_drop, List.getElem?_eq_getElem h, show zs.length - 1 - i + 1 = zs.length - i by omega, show zs.length - (zs.length - i) = i by omega]
  rfl
theorem limb_low {L : List Int} (hL : Limbs L) {q r : Nat} (hq : q < L.length) (h : valZ L < 256 ^ (4 * q + r)) : L[q]?.getD 0 < 256 ^ r := by
  have e := valZ_parts L q
  rw [valZ_drop L q] at e
  have t := take_lt hL q
  have p := pow_pos32 q
  have d0 := valZ_nonneg (hL.drop (q + 1))
  rw [pow256] at h
  have h2 : 4294967296 ^ q * (L[q]?.getD 0 + 4294967296 * valZ (L.drop (q + 1))) < 4294967296 ^ q * 256 ^ r := by omega
  have := Int.lt_of_mul_lt_mul_left h2 (by omega)
  omega
theorem join_step {L zs : List Int} {q r i : Nat} (hi : i < zs.length) (hir : i = 4 * q + r) (hq : q < L.length) (h : valZ L = beV (zs.drop (zs.length - i))) :
    valZ (L.set q (L[q]?.getD 0 + zs[zs.length - 1 - i]?.getD 0 * 256 ^ r)) = beV (zs.drop (zs.length - (i + 1))) := by
  rw [valZ_set L q _ hq, h, show zs.length - (i + 1) = zs.length - 1 - i by omega, beV_drop hi, hir, pow256]
  generalize zs[zs.length - 1 - (4 * q + r)]?.getD 0 = z
  generalize (4294967296 : Int) ^ q = P
  generalize (256 : Int) ^ r = R
  generalize L[q]?.getD 0 = l
  rw [show l + z * R - l = z * R by omega, Int.mul_left_comm, Int.add_comm]
theorem or_low {l h : Int} (r : Nat) (l0 : 0 ≤ l) (h0 : 0 ≤ h) (l1 : l ≤ 4294967295) (h1 : h ≤ 4294967295) (hl : l < 2 ^ r) (hh : h % 2 ^ r = 0) : bits .or .u32 l h = l + h := by
  obtain ⟨x, rfl⟩ := Int.eq_ofNat_of_zero_le l0
  obtain ⟨y, rfl⟩ := Int.eq_ofNat_of_zero_le h0
  rw [nor x y (by omega) (by omega), Nat.or_comm, ← nor y x (by omega) (by omega), bits_join .u32 32 (by decide) wraps_u32 r _ _ h0 hh (by omega) l0 hl (by omega), Int.add_comm]

set_option maxHeartbeats 2000000 in
set_option maxRecDepth 10000 in
theorem from_any (a : Option Addr) (n ca : Nat) (zs : List Int) (w : World) (hr : Row w a n zs) (hn : n ≤ 100000) : Calls Try.prog 16 #[.slice a n ca] w (GivesL (beV zs) w) := by
  obtain ⟨i0, hi, hz0, hz1, hz2⟩ := info_parts Try.info32
  have HA := Lib.hid hr
  have HL : Hid (zs.length = n) := Lib.hid hr.1
  have HBY : Hid (∀ x ∈ zs, 0 ≤ x ∧ x ≤ 255) := Lib.hid hr.2.1
  clear hr
  obtain ⟨N, hN⟩ : ∃ N, (n + 4 - 1) / 4 = N := ⟨_, rfl⟩
  have g1 : ((n : Int) + 4 - 1) / 4 = (N : Int) := by omega
  have g2 : ((n : Int) + 4 - 1).tdiv 4 = (N : Int) := by rw [Int.tdiv_eq_ediv_of_nonneg (by omega)]; exact g1
  have w0 : IntKind.i64.wrap ((n : Int) + 4) = (n : Int) + 4 := IntWalk.i64_in _ (by omega)
  have w1 : IntKind.i64.wrap ((n : Int) + 4 - 1) = (n : Int) + 4 - 1 := IntWalk.i64_in _ (by omega)
  have w2 : IntKind.i64.wrap (N : Int) = (N : Int) := IntWalk.i64_in _ (by omega)
  go_enter Try.func16, Try.ntmps16
  go_wp2_with (at_make; refine wpList_make_full _ rfl _ _ 22 rfl w.heap.size 36 i0 (.int .u32 0) 1 Try.underlying22 hi hz0 hz1 _ _ _ _ N rfl rfl ?b0 ?b00 ?b1 ?b2 ?b3 ?_)
  case b0 => first | rfl | omega
  case b00 => first | rfl | omega
  case b1 => rw [hz2]; omega
  case b2 => unfold maxLen; omega
  case b3 => exact Nat.le_refl _
  intro w1 hown0 hgrow
  have HO := Lib.hid (out_made32 hown0 hgrow)
  clear hown0 hgrow hz2 hz1 hz0 hi
  go_wp2_with fail
  go_loopw [14] (fun iV wr => ∃ (i : Nat) (L : List Int), iV = .int .i64 (i : Int) ∧ i ≤ n ∧ Out32 w wr (.slice (some ⟨w.heap.size, 0, none⟩) N N) L ∧ Limbs L ∧ L.length = N ∧ valZ L = beV (zs.drop (zs.length - i))) (fun iV _ => (1000001 - intOf iV).toNat)
  case atStart => exact ⟨0, _, rfl, by omega, HO.out, limbs_zeros _, by simp, by rw [valZ_zeros, Nat.sub_zero, List.drop_length]; rfl⟩
  case round =>
    obtain ⟨i, L, rfl, hi, ho, hL, hlen, hval⟩ := hrel
    have HO2 := Lib.hid ho
    have HLL := Lib.hid hL
    have HN := Lib.hid hlen
    have HV := Lib.hid hval
    clear ho hL hlen hval HO
    by_cases hmore : i < n
    · have t1 : decide ((i : Int) < (n : Int)) = true := decide_eq_true (by omega)
      obtain ⟨k, hk⟩ : ∃ k, n - 1 - i = k := ⟨_, rfl⟩
      obtain ⟨q, hq⟩ : ∃ q, i / 4 = q := ⟨_, rfl⟩
      have r4 := Nat.mod_lt i (show 0 < 4 by omega)
      obtain ⟨r, hr⟩ : ∃ r, i % 4 = r := ⟨_, rfl⟩
      rw [hr] at r4
      obtain ⟨b, off, rfl, hbl0, hcell0⟩ := HA.out.2.2 (by omega)
      have cb : wr.cell? ⟨b, off + k, none⟩ = some (.int .u8 (zs[k]?.getD 0)) := (HO2.out.2.cell (p := ⟨b, off + k, none⟩) hbl0).trans (hcell0 k (by omega))
      have br := HA.out.byte k
      have qN : q < N := by omega
      have hir : i = 4 * q + r := by omega
      have S := join_step (zs := zs) (r := r) (by rw [HL.out]; exact hmore) hir (by rw [HN.out]; exact qN) HV.out
      have LOW : L[q]?.getD 0 < 256 ^ r := limb_low HLL.out (by rw [HN.out]; exact qN) (by
        have h1 := beV_lt (l := zs.drop (zs.length - i)) (fun x hx => HBY.out x (List.mem_of_mem_drop hx))
        rw [List.length_drop, HL.out, show n - (n - i) = i by omega] at h1
        have h2 := HV.out
        rw [HL.out] at h2
        rw [h2, ← hir]
        exact h1)
      rw [HL.out, hk] at S
      have lr := HLL.out.at q
      obtain ⟨hc1, hf1⟩ := HO2.out.cell q (by rw [HN.out]; exact qN)
      have LNf := Lib.hid (fun v (h0 : 0 ≤ v) (h1 : v ≤ 4294967295) => limbs_set HLL.out q (v := v) h0 h1)
      have SV := Lib.hid S
      generalize L[q]?.getD 0 = l at *
      generalize zs[k]?.getD 0 = z at *
      have k1 : IntKind.i64.wrap ((n : Int) - 1) = (n : Int) - 1 := IntWalk.i64_in _ (by omega)
      have k2 : IntKind.i64.wrap ((n : Int) - 1 - (i : Int)) = (k : Int) := by rw [show (n : Int) - 1 - (i : Int) = (k : Int) by omega]; exact IntWalk.i64_in _ (by omega)
      have k3 : (i : Int) / 4 = (q : Int) := by omega
      have k5 : IntKind.i64.wrap (q : Int) = (q : Int) := IntWalk.i64_in _ (by omega)
      have qI : (q : Int) < (N : Int) := by omega
      have kI : (k : Int) < (n : Int) := by omega
      have k6 : IntKind.u32.wrap z = z := IntWalk.u32_in _ (by omega)
      have hiM : i ≤ 1000000 := by omega
      clear hcell0 S HV hir
      obtain rfl | rfl | rfl | rfl : r = 0 ∨ r = 1 ∨ r = 2 ∨ r = 3 := by omega
      · have kt : (i : Int).tmod 4 = 0 := by rw [Int.tmod_eq_emod_of_nonneg (by omega)]; omega
        have kp : (256 : Int) ^ 0 = 1 := by decide
        rw [kp, Int.mul_one] at SV
        rw [kp] at LOW
        have wz : IntKind.u32.wrap (z) = z := IntWalk.u32_in _ (by omega)
        have wl : bits .or .u32 l (z) = l + z := or_low 0 lr.1 (by omega) lr.2 (by omega) (by omega) (by omega)
        have w8 : IntKind.i64.wrap 0 = 0 := by decide
        have LN := Lib.hid (LNf.out (l + z) (by omega) (by omega))
        have hc2 : wr.drew.cell? ⟨w.heap.size, q, none⟩ = some (.int .u32 l) := hc1
        have hf2 : wr.drew.frozen? ⟨w.heap.size, q, none⟩ = false := hf1
        clear kp r4 LNf LOW
        go_wp2_with fail
        refine wp_region_ord (Below w.heap.size) (Below.refl _) (fun _ _ _ => Below.trans) [(0, false), (1, false), (2, false), (3, false), (5, false), (6, false), (7, false), (8, false), (9, false), (4, true), (10, false), (11, false), (12, true)] (by kernel_rfl) (by kernel_rfl) rfl (by kernel_rfl) (fun _ _ _ _ _ h => h) ?_
        repeat (refine ord_take _ rfl (by rfl) (fun W hW => by go_simp; first | done | rfl) ?_; simp only [Act.put, List.setIfInBounds_toArray, List.set_cons_zero, List.set_cons_succ])
        refine ord_sole rfl (by rfl) (fun K1 hK1 => ?_)
        unfold Oper.wp
        go_simp
        refine hK1 _ _ (Below.refl _ _) ?_
        clear hK1 K1
        try simp only [Act.put, List.setIfInBounds_toArray, List.set_cons_zero, List.set_cons_succ]
        repeat (refine ord_take _ rfl (by rfl) (fun W hW => by go_simp; first | done | rfl) ?_; try simp only [Act.put, List.setIfInBounds_toArray, List.set_cons_zero, List.set_cons_succ])
        refine ord_sole rfl (by rfl) (fun K1 hK1 => ?_)
        unfold Oper.wp
        go_simp
        refine hK1 _ _ ((Below.refl _ _).setCell (p := ⟨w.heap.size, q, none⟩) (Nat.le_refl _) _) ?_
        clear hK1 K1 hc1 hc2 hf1 hf2
        refine ord_end ?_
        have O5 := Lib.hid (HO2.out.set (Nat.le_refl _) q (l + z)).drew
        generalize hw5 : (wr.setCell ⟨w.heap.size, q, none⟩ (.int .u32 (l + z))).drew = w5 at *
        clear hw5
        go_wp2_with fail
        go_roundw
        case rel => exact ⟨i + 1, _, by go_num, by omega, O5.out, LN.out, by rw [List.length_set]; exact HN.out, by rw [HL.out]; exact SV.out⟩
        case measure => simp only [intOf]; exact meas_lt hiM
      · have kt : (i : Int).tmod 4 = 1 := by rw [Int.tmod_eq_emod_of_nonneg (by omega)]; omega
        have kp : (256 : Int) ^ 1 = 256 := by decide
        rw [kp] at SV
        rw [kp] at LOW
        have wz : IntKind.u32.wrap (z * 256) = z * 256 := IntWalk.u32_in _ (by omega)
        have wl : bits .or .u32 l (z * 256) = l + z * 256 := or_low 8 lr.1 (by omega) lr.2 (by omega) (by omega) (by omega)
        have w8 : IntKind.i64.wrap 8 = 8 := by decide
        have LN := Lib.hid (LNf.out (l + z * 256) (by omega) (by omega))
        have hc2 : wr.drew.cell? ⟨w.heap.size, q, none⟩ = some (.int .u32 l) := hc1
        have hf2 : wr.drew.frozen? ⟨w.heap.size, q, none⟩ = false := hf1
        clear kp r4 LNf LOW
        go_wp2_with fail
        refine wp_region_ord (Below w.heap.size) (Below.refl _) (fun _ _ _ => Below.trans) [(0, false), (1, false), (2, false), (3, false), (5, false), (6, false), (7, false), (8, false), (9, false), (4, true), (10, false), (11, false), (12, true)] (by kernel_rfl) (by kernel_rfl) rfl (by kernel_rfl) (fun _ _ _ _ _ h => h) ?_
        repeat (refine ord_take _ rfl (by rfl) (fun W hW => by go_simp; first | done | rfl) ?_; simp only [Act.put, List.setIfInBounds_toArray, List.set_cons_zero, List.set_cons_succ])
        refine ord_sole rfl (by rfl) (fun K1 hK1 => ?_)
        unfold Oper.wp
        go_simp
        refine hK1 _ _ (Below.refl _ _) ?_
        clear hK1 K1
        try simp only [Act.put, List.setIfInBounds_toArray, List.set_cons_zero, List.set_cons_succ]
        repeat (refine ord_take _ rfl (by rfl) (fun W hW => by go_simp; first | done | rfl) ?_; try simp only [Act.put, List.setIfInBounds_toArray, List.set_cons_zero, List.set_cons_succ])
        refine ord_sole rfl (by rfl) (fun K1 hK1 => ?_)
        unfold Oper.wp
        go_simp
        refine hK1 _ _ ((Below.refl _ _).setCell (p := ⟨w.heap.size, q, none⟩) (Nat.le_refl _) _) ?_
        clear hK1 K1 hc1 hc2 hf1 hf2
        refine ord_end ?_
        have O5 := Lib.hid (HO2.out.set (Nat.le_refl _) q (l + z * 256)).drew
        generalize hw5 : (wr.setCell ⟨w.heap.size, q, none⟩ (.int .u32 (l + z * 256))).drew = w5 at *
        clear hw5
        go_wp2_with fail
        go_roundw
        case rel => exact ⟨i + 1, _, by go_num, by omega, O5.out, LN.out, by rw [List.length_set]; exact HN.out, by rw [HL.out]; exact SV.out⟩
        case measure => simp only [intOf]; exact meas_lt hiM
      · have kt : (i : Int).tmod 4 = 2 := by rw [Int.tmod_eq_emod_of_nonneg (by omega)]; omega
        have kp : (256 : Int) ^ 2 = 65536 := by decide
        rw [kp] at SV
        rw [kp] at LOW
        have wz : IntKind.u32.wrap (z * 65536) = z * 65536 := IntWalk.u32_in _ (by omega)
        have wl : bits .or .u32 l (z * 65536) = l + z * 65536 := or_low 16 lr.1 (by omega) lr.2 (by omega) (by omega) (by omega)
        have w8 : IntKind.i64.wrap 16 = 16 := by decide
        have LN := Lib.hid (LNf.out (l + z * 65536) (by omega) (by omega))
        have hc2 : wr.drew.cell? ⟨w.heap.size, q, none⟩ = some (.int .u32 l) := hc1
        have hf2 : wr.drew.frozen? ⟨w.heap.size, q, none⟩ = false := hf1
        clear kp r4 LNf LOW
        go_wp2_with fail
        refine wp_region_ord (Below w.heap.size) (Below.refl _) (fun _ _ _ => Below.trans) [(0, false), (1, false), (2, false), (3, false), (5, false), (6, false), (7, false), (8, false), (9, false), (4, true), (10, false), (11, false), (12, true)] (by kernel_rfl) (by kernel_rfl) rfl (by kernel_rfl) (fun _ _ _ _ _ h => h) ?_
        repeat (refine ord_take _ rfl (by rfl) (fun W hW => by go_simp; first | done | rfl) ?_; simp only [Act.put, List.setIfInBounds_toArray, List.set_cons_zero, List.set_cons_succ])
        refine ord_sole rfl (by rfl) (fun K1 hK1 => ?_)
        unfold Oper.wp
        go_simp
        refine hK1 _ _ (Below.refl _ _) ?_
        clear hK1 K1
        try simp only [Act.put, List.setIfInBounds_toArray, List.set_cons_zero, List.set_cons_succ]
        repeat (refine ord_take _ rfl (by rfl) (fun W hW => by go_simp; first | done | rfl) ?_; try simp only [Act.put, List.setIfInBounds_toArray, List.set_cons_zero, List.set_cons_succ])
        refine ord_sole rfl (by rfl) (fun K1 hK1 => ?_)
        unfold Oper.wp
        go_simp
        refine hK1 _ _ ((Below.refl _ _).setCell (p := ⟨w.heap.size, q, none⟩) (Nat.le_refl _) _) ?_
        clear hK1 K1 hc1 hc2 hf1 hf2
        refine ord_end ?_
        have O5 := Lib.hid (HO2.out.set (Nat.le_refl _) q (l + z * 65536)).drew
        generalize hw5 : (wr.setCell ⟨w.heap.size, q, none⟩ (.int .u32 (l + z * 65536))).drew = w5 at *
        clear hw5
        go_wp2_with fail
        go_roundw
        case rel => exact ⟨i + 1, _, by go_num, by omega, O5.out, LN.out, by rw [List.length_set]; exact HN.out, by rw [HL.out]; exact SV.out⟩
        case measure => simp only [intOf]; exact meas_lt hiM
      · have kt : (i : Int).tmod 4 = 3 := by rw [Int.tmod_eq_emod_of_nonneg (by omega)]; omega
        have kp : (256 : Int) ^ 3 = 16777216 := by decide
        rw [kp] at SV
        rw [kp] at LOW
        have wz : IntKind.u32.wrap (z * 16777216) = z * 16777216 := IntWalk.u32_in _ (by omega)
        have wl : bits .or .u32 l (z * 16777216) = l + z * 16777216 := or_low 24 lr.1 (by omega) lr.2 (by omega) (by omega) (by omega)
        have w8 : IntKind.i64.wrap 24 = 24 := by decide
        have LN := Lib.hid (LNf.out (l + z * 16777216) (by omega) (by omega))
        have hc2 : wr.drew.cell? ⟨w.heap.size, q, none⟩ = some (.int .u32 l) := hc1
        have hf2 : wr.drew.frozen? ⟨w.heap.size, q, none⟩ = false := hf1
        clear kp r4 LNf LOW
        go_wp2_with fail
        refine wp_region_ord (Below w.heap.size) (Below.refl _) (fun _ _ _ => Below.trans) [(0, false), (1, false), (2, false), (3, false), (5, false), (6, false), (7, false), (8, false), (9, false), (4, true), (10, false), (11, false), (12, true)] (by kernel_rfl) (by kernel_rfl) rfl (by kernel_rfl) (fun _ _ _ _ _ h => h) ?_
        repeat (refine ord_take _ rfl (by rfl) (fun W hW => by go_simp; first | done | rfl) ?_; simp only [Act.put, List.setIfInBounds_toArray, List.set_cons_zero, List.set_cons_succ])
        refine ord_sole rfl (by rfl) (fun K1 hK1 => ?_)
        unfold Oper.wp
        go_simp
        refine hK1 _ _ (Below.refl _ _) ?_
        clear hK1 K1
        try simp only [Act.put, List.setIfInBounds_toArray, List.set_cons_zero, List.set_cons_succ]
        repeat (refine ord_take _ rfl (by rfl) (fun W hW => by go_simp; first | done | rfl) ?_; try simp only [Act.put, List.setIfInBounds_toArray, List.set_cons_zero, List.set_cons_succ])
        refine ord_sole rfl (by rfl) (fun K1 hK1 => ?_)
        unfold Oper.wp
        go_simp
        refine hK1 _ _ ((Below.refl _ _).setCell (p := ⟨w.heap.size, q, none⟩) (Nat.le_refl _) _) ?_
        clear hK1 K1 hc1 hc2 hf1 hf2
        refine ord_end ?_
        have O5 := Lib.hid (HO2.out.set (Nat.le_refl _) q (l + z * 16777216)).drew
        generalize hw5 : (wr.setCell ⟨w.heap.size, q, none⟩ (.int .u32 (l + z * 16777216))).drew = w5 at *
        clear hw5
        go_wp2_with fail
        go_roundw
        case rel => exact ⟨i + 1, _, by go_num, by omega, O5.out, LN.out, by rw [List.length_set]; exact HN.out, by rw [HL.out]; exact SV.out⟩
        case measure => simp only [intOf]; exact meas_lt hiM
    · obtain rfl : i = n := by omega
      have t1 : decide ((i : Int) < (i : Int)) = false := decide_eq_false (by omega)
      have F : Hid (valZ L = beV zs) := Lib.hid (by rw [HV.out, HL.out, Nat.sub_self, List.drop_zero])
      have R3 := (HO2.out.normed HLL.out).1
      have N3 := Lib.hid (normalized_any (some ⟨w.heap.size, 0, none⟩) N N L wr R3 (Nat.le_refl _) (by omega) (fun e => by cases e))
      have G3 := Lib.hid R3.norm
      rw [F.out] at N3 G3
      clear R3 HV F
      go_wp2_with fail
      refine N3.out.mono ?_
      rintro e w5 ⟨rfl, rfl⟩
      go_wp2_with fail
      go_ret
      exact ⟨_, _, rfl, G3.out, (fun e => by cases e), Nat.le_refl _, HO2.out.2⟩

end Go.Proofs.Ytngoahbngckcfaa
