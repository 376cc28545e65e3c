/-
  What the package's divideByLimb answers, for stage 8 (modulo).
-/
import Derived.Test.YthpdeaappchnpaaMdI
import Derived.BigRegion
import Derived.Deep.OwnRows
namespace Go.Proofs.Ythpdeaappchnpaa
open Go.RowKit
set_option linter.unusedVariables false

theorem Try.info32s : (Try.prog.info? 35).map (fun i => (i.zero, i.size, i.bytes)) = some (some (.int .u32 0), 1, 4) := by kernel_rfl

theorem out_alloc32 (w : World) (n : Nat) (hn : n ≤ 1000000) : Out32 w (w.alloc (.cells (madeCells #[.int .u32 0] n) 35)) (.slice (some ⟨w.heap.size, 0, none⟩) n n) (List.replicate n 0) := by
  refine ⟨⟨by simp, .inr ⟨w.heap.size, n, _, by simp, Nat.le_refl _, heap_alloc_new w _, by simp, by unfold maxLen; omega, by rw [size_madeCells]; simp, ?_⟩⟩, (Below.refl _ _).alloc (Nat.le_refl _) _⟩
  rw [toList_madeCells_one]
  simp

set_option maxHeartbeats 1000000 in
set_option maxRecDepth 10000 in
theorem bylimb_any (a : Option Addr) (n ca : Nat) (xs : List Int) (m : Int) (w : World) (hr : Row32 w a n xs) (hn : n ≤ 40000) (m0 : 0 < m) (m1 : m ≤ 4294967295) :
    Calls Try.prog 21 #[.slice a n ca, .int .u32 m] w (Parted (valZ xs / m) (valZ xs % m) (n + 1) w) := by
  have HR := Lib.hid hr
  have w2 : IntKind.i64.wrap ((n : Int) - 1) = (n : Int) - 1 := IntWalk.i64_in _ (by omega)
  have hm1 := run_make_row' (P := Try.prog) 22 35 (.int .u32 0) 4 Try.underlying22 Try.info32s rfl .i64 .i64 n (by omega) (by omega)
  have hm2 : ∀ W : World, (Instr.makeSlice 22 (.int .i64 1) (.int .i64 1)).run Try.prog W = .ok (.slice (some ⟨W.heap.size, 0, none⟩) 1 1) (W.alloc (.cells (madeCells #[.int .u32 0] 1) 35)) := run_make_row' (P := Try.prog) 22 35 (.int .u32 0) 4 Try.underlying22 Try.info32s rfl .i64 .i64 1 (by omega) (by omega)
  clear hr
  go_enter Try.func21, Try.ntmps21
  go_wp2_with fail
  go_region
  · obtain ⟨gq, h0⟩ : ∃ gq, gq = w.heap.size := ⟨_, rfl⟩
    obtain ⟨gr, h1⟩ : ∃ gr, gr = w.heap.size + 1 := ⟨_, rfl⟩
    have FA : Out32 w (((w.alloc (.cells (madeCells #[.int .u32 0] n) 35)).alloc (.cells (madeCells #[.int .u32 0] 1) 35)).drew) (.slice (some ⟨gq, 0, none⟩) n n) (List.replicate n 0) := by rw [h0]; exact ((out_alloc32 w n (by omega)).alloc _).drew
    have FB : Out32 w (((w.alloc (.cells (madeCells #[.int .u32 0] n) 35)).alloc (.cells (madeCells #[.int .u32 0] 1) 35)).drew) (.slice (some ⟨gr, 0, none⟩) 1 1) (List.replicate 1 0) := by
      have := (out_alloc32 (w.alloc (.cells (madeCells #[.int .u32 0] n) 35)) 1 (by omega)).wider ((Below.refl _ _).alloc (Nat.le_refl _) _)
      simp only [World.size_alloc] at this
      rw [h1]
      exact this.drew
    have HQ0 := Lib.hid FA
    have HR0 := Lib.hid FB
    have hgq : w.heap.size ≤ gq := by omega
    have hgr : w.heap.size ≤ gr := by omega
    have hne : gq ≠ gr := by omega
    rw [← h1, ← h0]
    clear FA FB h0 h1 hm1 hm2
    generalize ((w.alloc (.cells (madeCells #[.int .u32 0] n) 35)).alloc (.cells (madeCells #[.int .u32 0] 1) 35)).drew = w5 at *
    go_wp2_with fail
    go_loopw [6] (fun iV wr => ∃ (i : Nat) (Q : List Int) (r : Int), iV = .int .i64 ((i : Int) - 1) ∧ i ≤ n ∧ Out32 w wr (.slice (some ⟨gq, 0, none⟩) n n) Q ∧ Limbs Q ∧ Q.length = n ∧ Out32 w wr (.slice (some ⟨gr, 0, none⟩) 1 1) [r] ∧ 0 ≤ r ∧ r < m ∧ valZ (xs.drop i) = m * valZ (Q.drop i) + r) (fun iV _ => (intOf iV + 1).toNat)
    case atStart => exact ⟨n, _, 0, rfl, Nat.le_refl _, HQ0.out, limbs_zeros _, by simp, HR0.out, by omega, m0, by rw [List.drop_of_length_le (by rw [HR.out.1]; omega), List.drop_of_length_le (by simp)]; simp [valZ]⟩
    case round =>
      obtain ⟨i, Q, r, rfl, hi, hoq, hLQ, hlq, hor, r0, r1, hval⟩ := hrel
      have HOQ := Lib.hid hoq
      have HLQ := Lib.hid hLQ
      have HQN := Lib.hid hlq
      have HOR := Lib.hid hor
      have HV := Lib.hid hval
      have hszr := hoq.2.size
      clear hoq hLQ hlq hor hval HQ0 HR0
      rcases Nat.eq_zero_or_pos i with h0 | h0
      · subst h0
        rw [show ((0 : Nat) : Int) - 1 = -1 by rfl]
        have t0 : decide ((0 : Int) ≤ -1) = false := by decide
        have E := HV.out
        rw [List.drop_zero, List.drop_zero] at E
        have EE := Lib.hid (ediv_is m0 (a := valZ xs) (q := valZ Q) (r := r) (by rw [E, Int.mul_comm m]) r0 r1)
        have RQ := Lib.hid (HOQ.out.normed HLQ.out)
        have RR := Lib.hid (HOR.out.normed (a := some ⟨gr, 0, none⟩) (n := 1) (c := 1) (by intro y hy; simp at hy; omega))
        clear E
        go_wp2_with fail
        go_ret2
        exact ⟨_, _, _, _, _, _, _, _, rfl, RQ.out.1, RR.out.1, EE.out.1.symm, by simp [valZ, EE.out.2], by omega, by omega, RQ.out.2.2, RR.out.2.2, RQ.out.2.1, RR.out.2.1, HOQ.out.2⟩
      · obtain ⟨j, rfl⟩ : ∃ j, i = j + 1 := ⟨i - 1, by omega⟩
        rw [show ((j + 1 : Nat) : Int) - 1 = (j : Int) by omega]
        have t0 : decide ((0 : Int) ≤ (j : Int)) = true := decide_eq_true (by omega)
        have i3 : IntKind.i64.wrap ((j : Int) - 1) = (j : Int) - 1 := IntWalk.i64_in _ (by omega)
        have iN : (j : Int) < (n : Int) := by omega
        have i1 : (0 : Int) < 1 := by omega
        obtain ⟨b1, o1, rfl, hb1, hc1⟩ := HR.out.2.2 (by omega)
        have cx := later32 (base := w.heap.size) ((HOQ.out.2.cell (p := ⟨b1, o1 + j, none⟩) hb1).trans (hc1 j (by omega))) hb1
        have cr : wr.drew.cell? ⟨gr, 0, none⟩ = some (.int .u32 r) := (HOR.out.cell 0 (by simp)).1
        have xr := HR.out.num j
        have OR := one_round HV.out (by rw [HQN.out]; omega) m0 r1 r0 HR.out.2.1 m1
        generalize xs[j]?.getD 0 = x at *
        have DV := Lib.hid (div32_any r x m wr.drew r0 r1 xr.1 xr.2 m1)
        generalize (r * 4294967296 + x) / m = d at *
        generalize (r * 4294967296 + x) % m = rm at *
        have V6 := Lib.hid OR.1
        have d2 := OR.2
        clear hc1 HV OR
        go_wp2_with fail
        refine wp_region_ord (Below w.heap.size) (Below.refl _) (fun _ _ _ => Below.trans) [(0, false), (1, false), (2, false), (3, false), (4, false), (6, false), (7, false), (8, false), (9, false), (10, false), (5, true), (11, true), (12, false), (13, false), (14, false), (15, false), (16, true), (17, false), (18, true)] (by kernel_rfl) (by kernel_rfl) rfl (by kernel_rfl) (fun _ _ _ _ _ h => h) ?_
        repeat (refine ord_take _ rfl (by rfl) (fun W hW => by go_simp; first | done | rfl) ?_; simp only [Act.put, List.setIfInBounds_toArray, List.set_cons_zero, List.set_cons_succ])
        refine ord_sole rfl (by rfl) (fun K1 hK1 => ?_)
        unfold Oper.wp
        go_simp
        refine hK1 _ _ (Below.refl _ _) ?_
        clear hK1 K1 cx cr
        try simp only [Act.put, List.setIfInBounds_toArray, List.set_cons_zero, List.set_cons_succ]
        refine ord_sole rfl (by rfl) (fun K1 hK1 => ?_)
        go_simp
        refine DV.out.mono ?_
        rintro e w6 ⟨rfl, hb6⟩
        have OQ6 := HOQ.out.drew.below hb6
        have OR6 := HOR.out.drew.below hb6
        refine hK1 _ _ (hb6.mono (show w.heap.size ≤ wr.drew.heap.size from hszr)) ?_
        clear hK1 K1 hb6 HOQ HOR DV
        obtain ⟨c1, f1⟩ := OQ6.cell j (by rw [HQN.out]; omega)
        try simp only [Act.put, List.setIfInBounds_toArray, List.set_cons_zero, List.set_cons_succ]
        repeat (refine ord_take _ rfl (by rfl) (fun W hW => by go_simp; first | done | rfl) ?_; try simp only [Act.put, List.setIfInBounds_toArray, List.set_cons_zero, List.set_cons_succ])
        refine ord_sole rfl (by rfl) (fun K1 hK1 => ?_)
        unfold Oper.wp
        go_simp
        refine hK1 _ _ ((Below.refl _ _).setCell (p := ⟨gq, j, none⟩) hgq _) ?_
        have OR7 := OR6.only (Only.set (.refl gq w6) j (.int .u32 d)) (Ne.symm hne) (OR6.2.setCell (p := ⟨gq, j, none⟩) hgq _)
        have OQ7 := OQ6.set hgq j d
        clear hK1 K1 c1 f1 OQ6 OR6
        generalize w6.setCell ⟨gq, j, none⟩ (.int .u32 d) = w7 at *
        obtain ⟨c2, f2⟩ := OR7.cell 0 (by simp)
        try simp only [Act.put, List.setIfInBounds_toArray, List.set_cons_zero, List.set_cons_succ]
        refine ord_take _ rfl (by rfl) (fun W hW => by go_simp; first | done | rfl) ?_
        try simp only [Act.put, List.setIfInBounds_toArray, List.set_cons_zero, List.set_cons_succ]
        refine ord_sole rfl (by rfl) (fun K1 hK1 => ?_)
        unfold Oper.wp
        go_simp
        refine hK1 _ _ ((Below.refl _ _).setCell (p := ⟨gr, 0, none⟩) hgr _) ?_
        clear hK1 K1 c2 f2
        refine ord_end ?_
        have O8 := Lib.hid (OQ7.only (Only.set (.refl gr w7) 0 (.int .u32 rm)) hne (OQ7.2.setCell (p := ⟨gr, 0, none⟩) hgr _))
        have R8 := Lib.hid (OR7.set hgr 0 rm)
        clear OR7 OQ7
        generalize w7.setCell ⟨gr, 0, none⟩ (.int .u32 rm) = w8 at *
        go_wp2_with fail
        go_roundw
        case rel => exact ⟨j, _, rm, rfl, by omega, O8.out, limbs_set HLQ.out j d2.2.2.1 d2.2.2.2, by rw [List.length_set]; exact HQN.out, R8.out, d2.1, d2.2.1, V6.out⟩
        case measure => simp only [intOf]; omega
  · obtain ⟨gr, h0⟩ : ∃ gr, gr = w.heap.size := ⟨_, rfl⟩
    obtain ⟨gq, h1⟩ : ∃ gq, gq = w.heap.size + 1 := ⟨_, rfl⟩
    have FA : Out32 w (((w.alloc (.cells (madeCells #[.int .u32 0] 1) 35)).alloc (.cells (madeCells #[.int .u32 0] n) 35)).drew) (.slice (some ⟨gr, 0, none⟩) 1 1) (List.replicate 1 0) := by rw [h0]; exact ((out_alloc32 w 1 (by omega)).alloc _).drew
    have FB : Out32 w (((w.alloc (.cells (madeCells #[.int .u32 0] 1) 35)).alloc (.cells (madeCells #[.int .u32 0] n) 35)).drew) (.slice (some ⟨gq, 0, none⟩) n n) (List.replicate n 0) := by
      have := (out_alloc32 (w.alloc (.cells (madeCells #[.int .u32 0] 1) 35)) n (by omega)).wider ((Below.refl _ _).alloc (Nat.le_refl _) _)
      simp only [World.size_alloc] at this
      rw [h1]
      exact this.drew
    have HR0 := Lib.hid FA
    have HQ0 := Lib.hid FB
    have hgr : w.heap.size ≤ gr := by omega
    have hgq : w.heap.size ≤ gq := by omega
    have hne : gq ≠ gr := by omega
    rw [← h1, ← h0]
    clear FA FB h0 h1 hm1 hm2
    generalize ((w.alloc (.cells (madeCells #[.int .u32 0] 1) 35)).alloc (.cells (madeCells #[.int .u32 0] n) 35)).drew = w5 at *
    go_wp2_with fail
    go_loopw [6] (fun iV wr => ∃ (i : Nat) (Q : List Int) (r : Int), iV = .int .i64 ((i : Int) - 1) ∧ i ≤ n ∧ Out32 w wr (.slice (some ⟨gq, 0, none⟩) n n) Q ∧ Limbs Q ∧ Q.length = n ∧ Out32 w wr (.slice (some ⟨gr, 0, none⟩) 1 1) [r] ∧ 0 ≤ r ∧ r < m ∧ valZ (xs.drop i) = m * valZ (Q.drop i) + r) (fun iV _ => (intOf iV + 1).toNat)
    case atStart => exact ⟨n, _, 0, rfl, Nat.le_refl _, HQ0.out, limbs_zeros _, by simp, HR0.out, by omega, m0, by rw [List.drop_of_length_le (by rw [HR.out.1]; omega), List.drop_of_length_le (by simp)]; simp [valZ]⟩
    case round =>
      obtain ⟨i, Q, r, rfl, hi, hoq, hLQ, hlq, hor, r0, r1, hval⟩ := hrel
      have HOQ := Lib.hid hoq
      have HLQ := Lib.hid hLQ
      have HQN := Lib.hid hlq
      have HOR := Lib.hid hor
      have HV := Lib.hid hval
      have hszr := hoq.2.size
      clear hoq hLQ hlq hor hval HQ0 HR0
      rcases Nat.eq_zero_or_pos i with h0 | h0
      · subst h0
        rw [show ((0 : Nat) : Int) - 1 = -1 by rfl]
        have t0 : decide ((0 : Int) ≤ -1) = false := by decide
        have E := HV.out
        rw [List.drop_zero, List.drop_zero] at E
        have EE := Lib.hid (ediv_is m0 (a := valZ xs) (q := valZ Q) (r := r) (by rw [E, Int.mul_comm m]) r0 r1)
        have RQ := Lib.hid (HOQ.out.normed HLQ.out)
        have RR := Lib.hid (HOR.out.normed (a := some ⟨gr, 0, none⟩) (n := 1) (c := 1) (by intro y hy; simp at hy; omega))
        clear E
        go_wp2_with fail
        go_ret2
        exact ⟨_, _, _, _, _, _, _, _, rfl, RQ.out.1, RR.out.1, EE.out.1.symm, by simp [valZ, EE.out.2], by omega, by omega, RQ.out.2.2, RR.out.2.2, RQ.out.2.1, RR.out.2.1, HOQ.out.2⟩
      · obtain ⟨j, rfl⟩ : ∃ j, i = j + 1 := ⟨i - 1, by omega⟩
        rw [show ((j + 1 : Nat) : Int) - 1 = (j : Int) by omega]
        have t0 : decide ((0 : Int) ≤ (j : Int)) = true := decide_eq_true (by omega)
        have i3 : IntKind.i64.wrap ((j : Int) - 1) = (j : Int) - 1 := IntWalk.i64_in _ (by omega)
        have iN : (j : Int) < (n : Int) := by omega
        have i1 : (0 : Int) < 1 := by omega
        obtain ⟨b1, o1, rfl, hb1, hc1⟩ := HR.out.2.2 (by omega)
        have cx := later32 (base := w.heap.size) ((HOQ.out.2.cell (p := ⟨b1, o1 + j, none⟩) hb1).trans (hc1 j (by omega))) hb1
        have cr : wr.drew.cell? ⟨gr, 0, none⟩ = some (.int .u32 r) := (HOR.out.cell 0 (by simp)).1
        have xr := HR.out.num j
        have OR := one_round HV.out (by rw [HQN.out]; omega) m0 r1 r0 HR.out.2.1 m1
        generalize xs[j]?.getD 0 = x at *
        have DV := Lib.hid (div32_any r x m wr.drew r0 r1 xr.1 xr.2 m1)
        generalize (r * 4294967296 + x) / m = d at *
        generalize (r * 4294967296 + x) % m = rm at *
        have V6 := Lib.hid OR.1
        have d2 := OR.2
        clear hc1 HV OR
        go_wp2_with fail
        refine wp_region_ord (Below w.heap.size) (Below.refl _) (fun _ _ _ => Below.trans) [(0, false), (1, false), (2, false), (3, false), (4, false), (6, false), (7, false), (8, false), (9, false), (10, false), (5, true), (11, true), (12, false), (13, false), (14, false), (15, false), (16, true), (17, false), (18, true)] (by kernel_rfl) (by kernel_rfl) rfl (by kernel_rfl) (fun _ _ _ _ _ h => h) ?_
        repeat (refine ord_take _ rfl (by rfl) (fun W hW => by go_simp; first | done | rfl) ?_; simp only [Act.put, List.setIfInBounds_toArray, List.set_cons_zero, List.set_cons_succ])
        refine ord_sole rfl (by rfl) (fun K1 hK1 => ?_)
        unfold Oper.wp
        go_simp
        refine hK1 _ _ (Below.refl _ _) ?_
        clear hK1 K1 cx cr
        try simp only [Act.put, List.setIfInBounds_toArray, List.set_cons_zero, List.set_cons_succ]
        refine ord_sole rfl (by rfl) (fun K1 hK1 => ?_)
        go_simp
        refine DV.out.mono ?_
        rintro e w6 ⟨rfl, hb6⟩
        have OQ6 := HOQ.out.drew.below hb6
        have OR6 := HOR.out.drew.below hb6
        refine hK1 _ _ (hb6.mono (show w.heap.size ≤ wr.drew.heap.size from hszr)) ?_
        clear hK1 K1 hb6 HOQ HOR DV
        obtain ⟨c1, f1⟩ := OQ6.cell j (by rw [HQN.out]; omega)
        try simp only [Act.put, List.setIfInBounds_toArray, List.set_cons_zero, List.set_cons_succ]
        repeat (refine ord_take _ rfl (by rfl) (fun W hW => by go_simp; first | done | rfl) ?_; try simp only [Act.put, List.setIfInBounds_toArray, List.set_cons_zero, List.set_cons_succ])
        refine ord_sole rfl (by rfl) (fun K1 hK1 => ?_)
        unfold Oper.wp
        go_simp
        refine hK1 _ _ ((Below.refl _ _).setCell (p := ⟨gq, j, none⟩) hgq _) ?_
        have OR7 := OR6.only (Only.set (.refl gq w6) j (.int .u32 d)) (Ne.symm hne) (OR6.2.setCell (p := ⟨gq, j, none⟩) hgq _)
        have OQ7 := OQ6.set hgq j d
        clear hK1 K1 c1 f1 OQ6 OR6
        generalize w6.setCell ⟨gq, j, none⟩ (.int .u32 d) = w7 at *
        obtain ⟨c2, f2⟩ := OR7.cell 0 (by simp)
        try simp only [Act.put, List.setIfInBounds_toArray, List.set_cons_zero, List.set_cons_succ]
        refine ord_take _ rfl (by rfl) (fun W hW => by go_simp; first | done | rfl) ?_
        try simp only [Act.put, List.setIfInBounds_toArray, List.set_cons_zero, List.set_cons_succ]
        refine ord_sole rfl (by rfl) (fun K1 hK1 => ?_)
        unfold Oper.wp
        go_simp
        refine hK1 _ _ ((Below.refl _ _).setCell (p := ⟨gr, 0, none⟩) hgr _) ?_
        clear hK1 K1 c2 f2
        refine ord_end ?_
        have O8 := Lib.hid (OQ7.only (Only.set (.refl gr w7) 0 (.int .u32 rm)) hne (OQ7.2.setCell (p := ⟨gr, 0, none⟩) hgr _))
        have R8 := Lib.hid (OR7.set hgr 0 rm)
        clear OR7 OQ7
        generalize w7.setCell ⟨gr, 0, none⟩ (.int .u32 rm) = w8 at *
        go_wp2_with fail
        go_roundw
        case rel => exact ⟨j, _, rm, rfl, by omega, O8.out, limbs_set HLQ.out j d2.2.2.1 d2.2.2.2, by rw [List.length_set]; exact HQN.out, R8.out, d2.1, d2.2.1, V6.out⟩
        case measure => simp only [intOf]; omega

end Go.Proofs.Ythpdeaappchnpaa
