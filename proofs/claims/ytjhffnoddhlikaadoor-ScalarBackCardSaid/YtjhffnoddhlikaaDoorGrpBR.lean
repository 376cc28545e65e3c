/-
  Merged texts (stage 5): CkRef, CkRefRight, CkRefSecs, CkRefDate.
-/
import Derived.Test.YtjhffnoddhlikaaDoorGrpB
namespace Go.Proofs.YtjhffnoddhlikaaDoor.Clk
open Go.RowKit

theorem lp_eq (y : Int) : lp y = if lpB y = true then 1 else 0 := rfl

set_option maxHeartbeats 2000000 in
theorem rdays_any (y m d : Int) (w : World) (hy1 : 1950 ≤ y) (hy2 : y ≤ 2200) (hm1 : 1 ≤ m) (hm2 : m ≤ 12) (hd1 : 1 ≤ d) (hd2 : d ≤ 31) :
    Calls Tryd.prog 97 #[.int .i64 y, .int .i64 m, .int .i64 d] w fun e w' => e = .returned (.int .i64 (d - 1 + (dby y - 711857) + cum y m)) ∧ Below w.heap.size w w' := by
  go_enter Tryd.func97, Tryd.ntmps97
  go_wp2
  go_loop [7, 8] (fun t k => ∃ n : Int, 1950 ≤ n ∧ n ≤ y ∧ k = .int .i64 n ∧ t = .int .i64 (d - 1 + (dby n - 711857))) (fun _ k => (2200 - intOf k).toNat)
  case atStart => exact ⟨1950, by omega, by omega, rfl, by rw [dby_1950]; simp⟩
  case round =>
    obtain ⟨n, hn1, hn2, rfl, rfl⟩ := hrel
    have d1 := dby_mono hn1
    have d2 := dby_mono (show n ≤ 2200 by omega)
    rw [dby_1950] at d1
    rw [dby_2200] at d2
    by_cases hlt : n < y
    · have DS := Lib.hid (dby_succ n)
      have LE := Lib.hid (lp_eq n)
      have C := Lib.hid (fun W => rleap_any n W (by omega) (by omega))
      cases hb : lpB n
      · rw [hb] at C LE
        clear hb
        have E : Hid (dby (n + 1) = dby n + 365) := Lib.hid (by rw [DS.out, LE.out, if_neg (by simp), Int.add_zero])
        clear DS LE
        go_wp2_with (go_at_call 105; refine (C.out _).mono ?_; rintro e w1 ⟨rfl, rfl⟩)
        go_round
        case rel => exact ⟨n + 1, by omega, by omega, rfl, by rw [E.out]; go_num⟩
        case measure => simp [intOf]; omega
      · rw [hb] at C LE
        clear hb
        have E : Hid (dby (n + 1) = dby n + 366) := Lib.hid (by rw [DS.out, LE.out, if_pos rfl]; omega)
        clear DS LE
        go_wp2_with (go_at_call 105; refine (C.out _).mono ?_; rintro e w1 ⟨rfl, rfl⟩)
        go_round
        case rel => exact ⟨n + 1, by omega, by omega, rfl, by rw [E.out]; go_num⟩
        case measure => simp [intOf]; omega
    · obtain rfl : n = y := by omega
      go_wp2
      go_loopw [7, 9] (fun t k wr => ∃ q : Int, 1 ≤ q ∧ q ≤ m ∧ k = .int .i64 q ∧ t = .int .i64 (d - 1 + (dby n - 711857) + cum n q) ∧ Below w.heap.size w wr) (fun _ k _ => (12 - intOf k).toNat)
      case atStart => exact ⟨1, by omega, by omega, rfl, by rw [cum_one, Int.add_zero], Below.refl _ _⟩
      case round =>
        obtain ⟨q, hq1, hq2, rfl, rfl, hbel⟩ := hrel
        have HB := Lib.hid hbel
        clear hbel
        have c1 := cum_mono (y := n) hq1
        have c2 := cum_mono (y := n) (show q ≤ 13 by omega)
        have dl := lp_01 n
        rw [cum_one] at c1
        rw [cum_end] at c2
        by_cases hq : q < m
        · have CS := Lib.hid (cum_succ n q hq1 (by omega))
          have mr := ml_rng n q
          go_wp2_with fail
          refine (last_any n q _ (by omega) (by omega) hq1 (by omega)).mono ?_
          rintro e w2 ⟨rfl, hb2⟩
          have HB2 := Lib.hid (HB.out.trans (hb2.mono HB.out.size))
          clear hb2
          go_wp2
          go_roundw
          case rel => exact ⟨q + 1, by omega, by omega, rfl, by rw [CS.out]; go_num, HB2.out⟩
          case measure => simp [intOf]; omega
        · obtain rfl : q = m := by omega
          go_wp2
          go_ret
          exact ⟨rfl, HB.out⟩

end Go.Proofs.YtjhffnoddhlikaaDoor.Clk

namespace Go.Proofs.YtjhffnoddhlikaaDoor.Clk
open Go.RowKit

theorem six_later {w : World} {g : Nat} {y m d h i s : Int} (k : Blk w g 90 (d6c y m d h i s)) : (∀ W, Ext w.drew W → W.cell? ⟨g, 0, none⟩ = some (.int .i64 y)) ∧ (∀ W, Ext w.drew W → W.cell? ⟨g, 1, none⟩ = some (.int .i64 m)) ∧ (∀ W, Ext w.drew W → W.cell? ⟨g, 2, none⟩ = some (.int .i64 d)) ∧ (∀ W, Ext w.drew W → W.cell? ⟨g, 3, none⟩ = some (.int .i64 h)) ∧ (∀ W, Ext w.drew W → W.cell? ⟨g, 4, none⟩ = some (.int .i64 i)) ∧ (∀ W, Ext w.drew W → W.cell? ⟨g, 5, none⟩ = some (.int .i64 s)) :=
  ⟨fun _ hW => (hW.cell (p := ⟨g, 0, none⟩) k.lt).trans (k.cell 0), fun _ hW => (hW.cell (p := ⟨g, 1, none⟩) k.lt).trans (k.cell 1), fun _ hW => (hW.cell (p := ⟨g, 2, none⟩) k.lt).trans (k.cell 2), fun _ hW => (hW.cell (p := ⟨g, 3, none⟩) k.lt).trans (k.cell 3), fun _ hW => (hW.cell (p := ⟨g, 4, none⟩) k.lt).trans (k.cell 4), fun _ hW => (hW.cell (p := ⟨g, 5, none⟩) k.lt).trans (k.cell 5)⟩

set_option maxRecDepth 100000 in
set_option maxHeartbeats 8000000 in
theorem rright_any (y m d h i s : Int) (w : World) : Calls Tryd.prog 96 #[.agg #[.int .i64 y, .int .i64 m, .int .i64 d, .int .i64 h, .int .i64 i, .int .i64 s]] w fun e w' => e = .returned (.bool (okB ⟨y, m, d, h, i, s⟩)) ∧ Below w.heap.size w w' := by
  by_cases c1 : y < 1950
  · have F : Hid (okB ⟨y, m, d, h, i, s⟩ = false) := okB_false (by unfold D6.ok; simp only; omega)
    have t1 : decide (y < 1950) = true := by simpa using c1
    go_enter Tryd.func96, Tryd.ntmps96
    go_wp2
    go_ret
    exact ⟨by rw [F.out]; rfl, (Below.refl _ _).alloc (Nat.le_refl _) _⟩
  have t1 : decide (y < 1950) = false := by simpa using c1
  by_cases c2 : 2199 < y
  · have F : Hid (okB ⟨y, m, d, h, i, s⟩ = false) := okB_false (by unfold D6.ok; simp only; omega)
    have t2 : decide (2199 < y) = true := by simpa using c2
    go_enter Tryd.func96, Tryd.ntmps96
    go_wp2
    go_ret
    exact ⟨by rw [F.out]; rfl, (Below.refl _ _).alloc (Nat.le_refl _) _⟩
  have t2 : decide (2199 < y) = false := by simpa using c2
  by_cases c3 : m < 1
  · have F : Hid (okB ⟨y, m, d, h, i, s⟩ = false) := okB_false (by unfold D6.ok; simp only; omega)
    have t3 : decide (m < 1) = true := by simpa using c3
    go_enter Tryd.func96, Tryd.ntmps96
    go_wp2
    go_ret
    exact ⟨by rw [F.out]; rfl, (Below.refl _ _).alloc (Nat.le_refl _) _⟩
  have t3 : decide (m < 1) = false := by simpa using c3
  by_cases c4 : 12 < m
  · have F : Hid (okB ⟨y, m, d, h, i, s⟩ = false) := okB_false (by unfold D6.ok; simp only; omega)
    have t4 : decide (12 < m) = true := by simpa using c4
    go_enter Tryd.func96, Tryd.ntmps96
    go_wp2
    go_ret
    exact ⟨by rw [F.out]; rfl, (Below.refl _ _).alloc (Nat.le_refl _) _⟩
  have t4 : decide (12 < m) = false := by simpa using c4
  by_cases e5 : 1 ≤ d
  rotate_left
  · have t5 : decide (1 ≤ d) = false := by simpa using e5
    have F : Hid (okB ⟨y, m, d, h, i, s⟩ = false) := okB_false (by unfold D6.ok; simp only; omega)
    clear e5
    go_enter Tryd.func96, Tryd.ntmps96
    go_wp2
    obtain ⟨w3, HW3, B3⟩ : ∃ w3, w3 = w.alloc (.cells #[.int .i64 y, .int .i64 m, .int .i64 d, .int .i64 h, .int .i64 i, .int .i64 s] 90) ∧ Below w.heap.size w w3 := ⟨_, rfl, (Below.refl _ _).alloc (Nat.le_refl _) _⟩
    rw [← HW3]
    obtain ⟨k0, k1, k2, k3, k4, k5⟩ := six_later (show Blk w3 w.heap.size 90 (d6c y m d h i s) by rw [HW3]; exact Blk.new w 90 _)
    clear HW3
    refine wp_region_ord Ext Ext.refl (fun _ _ _ => Ext.trans) ((0, false) :: (1, false) :: (2, false) :: (3, false) :: (4, false) :: (5, false) :: (6, false) :: (7, false) :: (8, false) :: (9, false) :: (10, true) :: (11, false) :: (12, false) :: (13, false) :: (14, false) :: (15, false) :: (16, false) :: (17, false) :: (18, false) :: (19, false) :: (20, false) :: (21, false) :: (22, false) :: (23, false) :: (24, false) :: (25, false) :: (26, false) :: (27, false) :: (28, false) :: (29, false) :: (30, false) :: (31, false) :: (32, false) :: (33, false) :: (34, false) :: (35, false) :: (36, false) :: (37, false) :: (38, false) :: (39, false) :: (40, false) :: (41, false) :: (42, false) :: (43, false) :: []) (by kernel_rfl) (by kernel_rfl) rfl (by kernel_rfl) (fun _ _ _ _ _ h => h) ?_
    repeat (first | (refine ord_take _ rfl (by rfl) (fun W hW => by go_simp; first | done | rfl) ?_; simp only [Act.put, List.setIfInBounds_toArray, List.set_cons_zero, List.set_cons_succ]) | (refine ord_skip rfl (by rfl) ?_; simp only [Act.put, List.setIfInBounds_toArray, List.set_cons_zero, List.set_cons_succ]))
    refine ord_end ?_
    go_wp2
    go_ret
    exact ⟨by rw [F.out]; rfl, Ext.drew B3⟩
  by_cases e6 : d ≤ ml y m
  rotate_left
  · have t5 : decide (1 ≤ d) = true := by simpa using e5
    have t6 : decide (d ≤ ml y m) = false := by simpa using e6
    have F : Hid (okB ⟨y, m, d, h, i, s⟩ = false) := okB_false (by unfold D6.ok; simp only; omega)
    clear e5 e6
    go_enter Tryd.func96, Tryd.ntmps96
    go_wp2
    obtain ⟨w3, HW3, B3⟩ : ∃ w3, w3 = w.alloc (.cells #[.int .i64 y, .int .i64 m, .int .i64 d, .int .i64 h, .int .i64 i, .int .i64 s] 90) ∧ Below w.heap.size w w3 := ⟨_, rfl, (Below.refl _ _).alloc (Nat.le_refl _) _⟩
    rw [← HW3]
    obtain ⟨k0, k1, k2, k3, k4, k5⟩ := six_later (show Blk w3 w.heap.size 90 (d6c y m d h i s) by rw [HW3]; exact Blk.new w 90 _)
    clear HW3
    refine wp_region_ord Ext Ext.refl (fun _ _ _ => Ext.trans) ((0, false) :: (1, false) :: (2, false) :: (3, false) :: (4, false) :: (5, false) :: (6, false) :: (7, false) :: (8, false) :: (9, false) :: (10, true) :: (11, false) :: (12, false) :: (13, false) :: (14, false) :: (15, false) :: (16, false) :: (17, false) :: (18, false) :: (19, false) :: (20, false) :: (21, false) :: (22, false) :: (23, false) :: (24, false) :: (25, false) :: (26, false) :: (27, false) :: (28, false) :: (29, false) :: (30, false) :: (31, false) :: (32, false) :: (33, false) :: (34, false) :: (35, false) :: (36, false) :: (37, false) :: (38, false) :: (39, false) :: (40, false) :: (41, false) :: (42, false) :: (43, false) :: []) (by kernel_rfl) (by kernel_rfl) rfl (by kernel_rfl) (fun _ _ _ _ _ h => h) ?_
    repeat (refine ord_take _ rfl (by rfl) (fun W hW => by go_simp; first | done | rfl) ?_; simp only [Act.put, List.setIfInBounds_toArray, List.set_cons_zero, List.set_cons_succ])
    refine ord_sole rfl (by rfl) (fun K hK => ?_)
    go_simp
    refine (last_any y m _ (by omega) (by omega) (by omega) (by omega)).mono ?_
    rintro e w4 ⟨rfl, hb4⟩
    refine hK _ _ hb4 ?_
    clear hK K k0 k1 k2
    obtain ⟨g3, g4, g5⟩ : (∀ W, Ext w4 W → W.cell? ⟨w.heap.size, 3, none⟩ = some (.int .i64 h)) ∧ (∀ W, Ext w4 W → W.cell? ⟨w.heap.size, 4, none⟩ = some (.int .i64 i)) ∧ (∀ W, Ext w4 W → W.cell? ⟨w.heap.size, 5, none⟩ = some (.int .i64 s)) := ⟨fun W hW => k3 W (Ext.trans hb4 hW), fun W hW => k4 W (Ext.trans hb4 hW), fun W hW => k5 W (Ext.trans hb4 hW)⟩
    clear k3 k4 k5
    repeat (first | (refine ord_take _ rfl (by rfl) (fun W hW => by go_simp; first | done | rfl) ?_; simp only [Act.put, List.setIfInBounds_toArray, List.set_cons_zero, List.set_cons_succ]) | (refine ord_skip rfl (by rfl) ?_; simp only [Act.put, List.setIfInBounds_toArray, List.set_cons_zero, List.set_cons_succ]))
    refine ord_end ?_
    go_wp2
    go_ret
    exact ⟨by rw [F.out]; rfl, Ext.trans B3 (Ext.of_drew hb4)⟩
  by_cases e7 : 0 ≤ h
  rotate_left
  · have t5 : decide (1 ≤ d) = true := by simpa using e5
    have t6 : decide (d ≤ ml y m) = true := by simpa using e6
    have t7 : decide (0 ≤ h) = false := by simpa using e7
    have F : Hid (okB ⟨y, m, d, h, i, s⟩ = false) := okB_false (by unfold D6.ok; simp only; omega)
    clear e5 e6 e7
    go_enter Tryd.func96, Tryd.ntmps96
    go_wp2
    obtain ⟨w3, HW3, B3⟩ : ∃ w3, w3 = w.alloc (.cells #[.int .i64 y, .int .i64 m, .int .i64 d, .int .i64 h, .int .i64 i, .int .i64 s] 90) ∧ Below w.heap.size w w3 := ⟨_, rfl, (Below.refl _ _).alloc (Nat.le_refl _) _⟩
    rw [← HW3]
    obtain ⟨k0, k1, k2, k3, k4, k5⟩ := six_later (show Blk w3 w.heap.size 90 (d6c y m d h i s) by rw [HW3]; exact Blk.new w 90 _)
    clear HW3
    refine wp_region_ord Ext Ext.refl (fun _ _ _ => Ext.trans) ((0, false) :: (1, false) :: (2, false) :: (3, false) :: (4, false) :: (5, false) :: (6, false) :: (7, false) :: (8, false) :: (9, false) :: (10, true) :: (11, false) :: (12, false) :: (13, false) :: (14, false) :: (15, false) :: (16, false) :: (17, false) :: (18, false) :: (19, false) :: (20, false) :: (21, false) :: (22, false) :: (23, false) :: (24, false) :: (25, false) :: (26, false) :: (27, false) :: (28, false) :: (29, false) :: (30, false) :: (31, false) :: (32, false) :: (33, false) :: (34, false) :: (35, false) :: (36, false) :: (37, false) :: (38, false) :: (39, false) :: (40, false) :: (41, false) :: (42, false) :: (43, false) :: []) (by kernel_rfl) (by kernel_rfl) rfl (by kernel_rfl) (fun _ _ _ _ _ h => h) ?_
    repeat (refine ord_take _ rfl (by rfl) (fun W hW => by go_simp; first | done | rfl) ?_; simp only [Act.put, List.setIfInBounds_toArray, List.set_cons_zero, List.set_cons_succ])
    refine ord_sole rfl (by rfl) (fun K hK => ?_)
    go_simp
    refine (last_any y m _ (by omega) (by omega) (by omega) (by omega)).mono ?_
    rintro e w4 ⟨rfl, hb4⟩
    refine hK _ _ hb4 ?_
    clear hK K k0 k1 k2
    obtain ⟨g3, g4, g5⟩ : (∀ W, Ext w4 W → W.cell? ⟨w.heap.size, 3, none⟩ = some (.int .i64 h)) ∧ (∀ W, Ext w4 W → W.cell? ⟨w.heap.size, 4, none⟩ = some (.int .i64 i)) ∧ (∀ W, Ext w4 W → W.cell? ⟨w.heap.size, 5, none⟩ = some (.int .i64 s)) := ⟨fun W hW => k3 W (Ext.trans hb4 hW), fun W hW => k4 W (Ext.trans hb4 hW), fun W hW => k5 W (Ext.trans hb4 hW)⟩
    clear k3 k4 k5
    repeat (first | (refine ord_take _ rfl (by rfl) (fun W hW => by go_simp; first | done | rfl) ?_; simp only [Act.put, List.setIfInBounds_toArray, List.set_cons_zero, List.set_cons_succ]) | (refine ord_skip rfl (by rfl) ?_; simp only [Act.put, List.setIfInBounds_toArray, List.set_cons_zero, List.set_cons_succ]))
    refine ord_end ?_
    go_wp2
    go_ret
    exact ⟨by rw [F.out]; rfl, Ext.trans B3 (Ext.of_drew hb4)⟩
  by_cases e8 : h < 24
  rotate_left
  · have t5 : decide (1 ≤ d) = true := by simpa using e5
    have t6 : decide (d ≤ ml y m) = true := by simpa using e6
    have t7 : decide (0 ≤ h) = true := by simpa using e7
    have t8 : decide (h < 24) = false := by simpa using e8
    have F : Hid (okB ⟨y, m, d, h, i, s⟩ = false) := okB_false (by unfold D6.ok; simp only; omega)
    clear e5 e6 e7 e8
    go_enter Tryd.func96, Tryd.ntmps96
    go_wp2
    obtain ⟨w3, HW3, B3⟩ : ∃ w3, w3 = w.alloc (.cells #[.int .i64 y, .int .i64 m, .int .i64 d, .int .i64 h, .int .i64 i, .int .i64 s] 90) ∧ Below w.heap.size w w3 := ⟨_, rfl, (Below.refl _ _).alloc (Nat.le_refl _) _⟩
    rw [← HW3]
    obtain ⟨k0, k1, k2, k3, k4, k5⟩ := six_later (show Blk w3 w.heap.size 90 (d6c y m d h i s) by rw [HW3]; exact Blk.new w 90 _)
    clear HW3
    refine wp_region_ord Ext Ext.refl (fun _ _ _ => Ext.trans) ((0, false) :: (1, false) :: (2, false) :: (3, false) :: (4, false) :: (5, false) :: (6, false) :: (7, false) :: (8, false) :: (9, false) :: (10, true) :: (11, false) :: (12, false) :: (13, false) :: (14, false) :: (15, false) :: (16, false) :: (17, false) :: (18, false) :: (19, false) :: (20, false) :: (21, false) :: (22, false) :: (23, false) :: (24, false) :: (25, false) :: (26, false) :: (27, false) :: (28, false) :: (29, false) :: (30, false) :: (31, false) :: (32, false) :: (33, false) :: (34, false) :: (35, false) :: (36, false) :: (37, false) :: (38, false) :: (39, false) :: (40, false) :: (41, false) :: (42, false) :: (43, false) :: []) (by kernel_rfl) (by kernel_rfl) rfl (by kernel_rfl) (fun _ _ _ _ _ h => h) ?_
    repeat (refine ord_take _ rfl (by rfl) (fun W hW => by go_simp; first | done | rfl) ?_; simp only [Act.put, List.setIfInBounds_toArray, List.set_cons_zero, List.set_cons_succ])
    refine ord_sole rfl (by rfl) (fun K hK => ?_)
    go_simp
    refine (last_any y m _ (by omega) (by omega) (by omega) (by omega)).mono ?_
    rintro e w4 ⟨rfl, hb4⟩
    refine hK _ _ hb4 ?_
    clear hK K k0 k1 k2
    obtain ⟨g3, g4, g5⟩ : (∀ W, Ext w4 W → W.cell? ⟨w.heap.size, 3, none⟩ = some (.int .i64 h)) ∧ (∀ W, Ext w4 W → W.cell? ⟨w.heap.size, 4, none⟩ = some (.int .i64 i)) ∧ (∀ W, Ext w4 W → W.cell? ⟨w.heap.size, 5, none⟩ = some (.int .i64 s)) := ⟨fun W hW => k3 W (Ext.trans hb4 hW), fun W hW => k4 W (Ext.trans hb4 hW), fun W hW => k5 W (Ext.trans hb4 hW)⟩
    clear k3 k4 k5
    repeat (first | (refine ord_take _ rfl (by rfl) (fun W hW => by go_simp; first | done | rfl) ?_; simp only [Act.put, List.setIfInBounds_toArray, List.set_cons_zero, List.set_cons_succ]) | (refine ord_skip rfl (by rfl) ?_; simp only [Act.put, List.setIfInBounds_toArray, List.set_cons_zero, List.set_cons_succ]))
    refine ord_end ?_
    go_wp2
    go_ret
    exact ⟨by rw [F.out]; rfl, Ext.trans B3 (Ext.of_drew hb4)⟩
  by_cases e9 : 0 ≤ i
  rotate_left
  · have t5 : decide (1 ≤ d) = true := by simpa using e5
    have t6 : decide (d ≤ ml y m) = true := by simpa using e6
    have t7 : decide (0 ≤ h) = true := by simpa using e7
    have t8 : decide (h < 24) = true := by simpa using e8
    have t9 : decide (0 ≤ i) = false := by simpa using e9
    have F : Hid (okB ⟨y, m, d, h, i, s⟩ = false) := okB_false (by unfold D6.ok; simp only; omega)
    clear e5 e6 e7 e8 e9
    go_enter Tryd.func96, Tryd.ntmps96
    go_wp2
    obtain ⟨w3, HW3, B3⟩ : ∃ w3, w3 = w.alloc (.cells #[.int .i64 y, .int .i64 m, .int .i64 d, .int .i64 h, .int .i64 i, .int .i64 s] 90) ∧ Below w.heap.size w w3 := ⟨_, rfl, (Below.refl _ _).alloc (Nat.le_refl _) _⟩
    rw [← HW3]
    obtain ⟨k0, k1, k2, k3, k4, k5⟩ := six_later (show Blk w3 w.heap.size 90 (d6c y m d h i s) by rw [HW3]; exact Blk.new w 90 _)
    clear HW3
    refine wp_region_ord Ext Ext.refl (fun _ _ _ => Ext.trans) ((0, false) :: (1, false) :: (2, false) :: (3, false) :: (4, false) :: (5, false) :: (6, false) :: (7, false) :: (8, false) :: (9, false) :: (10, true) :: (11, false) :: (12, false) :: (13, false) :: (14, false) :: (15, false) :: (16, false) :: (17, false) :: (18, false) :: (19, false) :: (20, false) :: (21, false) :: (22, false) :: (23, false) :: (24, false) :: (25, false) :: (26, false) :: (27, false) :: (28, false) :: (29, false) :: (30, false) :: (31, false) :: (32, false) :: (33, false) :: (34, false) :: (35, false) :: (36, false) :: (37, false) :: (38, false) :: (39, false) :: (40, false) :: (41, false) :: (42, false) :: (43, false) :: []) (by kernel_rfl) (by kernel_rfl) rfl (by kernel_rfl) (fun _ _ _ _ _ h => h) ?_
    repeat (refine ord_take _ rfl (by rfl) (fun W hW => by go_simp; first | done | rfl) ?_; simp only [Act.put, List.setIfInBounds_toArray, List.set_cons_zero, List.set_cons_succ])
    refine ord_sole rfl (by rfl) (fun K hK => ?_)
    go_simp
    refine (last_any y m _ (by omega) (by omega) (by omega) (by omega)).mono ?_
    rintro e w4 ⟨rfl, hb4⟩
    refine hK _ _ hb4 ?_
    clear hK K k0 k1 k2
    obtain ⟨g3, g4, g5⟩ : (∀ W, Ext w4 W → W.cell? ⟨w.heap.size, 3, none⟩ = some (.int .i64 h)) ∧ (∀ W, Ext w4 W → W.cell? ⟨w.heap.size, 4, none⟩ = some (.int .i64 i)) ∧ (∀ W, Ext w4 W → W.cell? ⟨w.heap.size, 5, none⟩ = some (.int .i64 s)) := ⟨fun W hW => k3 W (Ext.trans hb4 hW), fun W hW => k4 W (Ext.trans hb4 hW), fun W hW => k5 W (Ext.trans hb4 hW)⟩
    clear k3 k4 k5
    repeat (first | (refine ord_take _ rfl (by rfl) (fun W hW => by go_simp; first | done | rfl) ?_; simp only [Act.put, List.setIfInBounds_toArray, List.set_cons_zero, List.set_cons_succ]) | (refine ord_skip rfl (by rfl) ?_; simp only [Act.put, List.setIfInBounds_toArray, List.set_cons_zero, List.set_cons_succ]))
    refine ord_end ?_
    go_wp2
    go_ret
    exact ⟨by rw [F.out]; rfl, Ext.trans B3 (Ext.of_drew hb4)⟩
  by_cases e10 : i < 60
  rotate_left
  · have t5 : decide (1 ≤ d) = true := by simpa using e5
    have t6 : decide (d ≤ ml y m) = true := by simpa using e6
    have t7 : decide (0 ≤ h) = true := by simpa using e7
    have t8 : decide (h < 24) = true := by simpa using e8
    have t9 : decide (0 ≤ i) = true := by simpa using e9
    have t10 : decide (i < 60) = false := by simpa using e10
    have F : Hid (okB ⟨y, m, d, h, i, s⟩ = false) := okB_false (by unfold D6.ok; simp only; omega)
    clear e5 e6 e7 e8 e9 e10
    go_enter Tryd.func96, Tryd.ntmps96
    go_wp2
    obtain ⟨w3, HW3, B3⟩ : ∃ w3, w3 = w.alloc (.cells #[.int .i64 y, .int .i64 m, .int .i64 d, .int .i64 h, .int .i64 i, .int .i64 s] 90) ∧ Below w.heap.size w w3 := ⟨_, rfl, (Below.refl _ _).alloc (Nat.le_refl _) _⟩
    rw [← HW3]
    obtain ⟨k0, k1, k2, k3, k4, k5⟩ := six_later (show Blk w3 w.heap.size 90 (d6c y m d h i s) by rw [HW3]; exact Blk.new w 90 _)
    clear HW3
    refine wp_region_ord Ext Ext.refl (fun _ _ _ => Ext.trans) ((0, false) :: (1, false) :: (2, false) :: (3, false) :: (4, false) :: (5, false) :: (6, false) :: (7, false) :: (8, false) :: (9, false) :: (10, true) :: (11, false) :: (12, false) :: (13, false) :: (14, false) :: (15, false) :: (16, false) :: (17, false) :: (18, false) :: (19, false) :: (20, false) :: (21, false) :: (22, false) :: (23, false) :: (24, false) :: (25, false) :: (26, false) :: (27, false) :: (28, false) :: (29, false) :: (30, false) :: (31, false) :: (32, false) :: (33, false) :: (34, false) :: (35, false) :: (36, false) :: (37, false) :: (38, false) :: (39, false) :: (40, false) :: (41, false) :: (42, false) :: (43, false) :: []) (by kernel_rfl) (by kernel_rfl) rfl (by kernel_rfl) (fun _ _ _ _ _ h => h) ?_
    repeat (refine ord_take _ rfl (by rfl) (fun W hW => by go_simp; first | done | rfl) ?_; simp only [Act.put, List.setIfInBounds_toArray, List.set_cons_zero, List.set_cons_succ])
    refine ord_sole rfl (by rfl) (fun K hK => ?_)
    go_simp
    refine (last_any y m _ (by omega) (by omega) (by omega) (by omega)).mono ?_
    rintro e w4 ⟨rfl, hb4⟩
    refine hK _ _ hb4 ?_
    clear hK K k0 k1 k2
    obtain ⟨g3, g4, g5⟩ : (∀ W, Ext w4 W → W.cell? ⟨w.heap.size, 3, none⟩ = some (.int .i64 h)) ∧ (∀ W, Ext w4 W → W.cell? ⟨w.heap.size, 4, none⟩ = some (.int .i64 i)) ∧ (∀ W, Ext w4 W → W.cell? ⟨w.heap.size, 5, none⟩ = some (.int .i64 s)) := ⟨fun W hW => k3 W (Ext.trans hb4 hW), fun W hW => k4 W (Ext.trans hb4 hW), fun W hW => k5 W (Ext.trans hb4 hW)⟩
    clear k3 k4 k5
    repeat (first | (refine ord_take _ rfl (by rfl) (fun W hW => by go_simp; first | done | rfl) ?_; simp only [Act.put, List.setIfInBounds_toArray, List.set_cons_zero, List.set_cons_succ]) | (refine ord_skip rfl (by rfl) ?_; simp only [Act.put, List.setIfInBounds_toArray, List.set_cons_zero, List.set_cons_succ]))
    refine ord_end ?_
    go_wp2
    go_ret
    exact ⟨by rw [F.out]; rfl, Ext.trans B3 (Ext.of_drew hb4)⟩
  by_cases e11 : 0 ≤ s
  rotate_left
  · have t5 : decide (1 ≤ d) = true := by simpa using e5
    have t6 : decide (d ≤ ml y m) = true := by simpa using e6
    have t7 : decide (0 ≤ h) = true := by simpa using e7
    have t8 : decide (h < 24) = true := by simpa using e8
    have t9 : decide (0 ≤ i) = true := by simpa using e9
    have t10 : decide (i < 60) = true := by simpa using e10
    have t11 : decide (0 ≤ s) = false := by simpa using e11
    have F : Hid (okB ⟨y, m, d, h, i, s⟩ = false) := okB_false (by unfold D6.ok; simp only; omega)
    clear e5 e6 e7 e8 e9 e10 e11
    go_enter Tryd.func96, Tryd.ntmps96
    go_wp2
    obtain ⟨w3, HW3, B3⟩ : ∃ w3, w3 = w.alloc (.cells #[.int .i64 y, .int .i64 m, .int .i64 d, .int .i64 h, .int .i64 i, .int .i64 s] 90) ∧ Below w.heap.size w w3 := ⟨_, rfl, (Below.refl _ _).alloc (Nat.le_refl _) _⟩
    rw [← HW3]
    obtain ⟨k0, k1, k2, k3, k4, k5⟩ := six_later (show Blk w3 w.heap.size 90 (d6c y m d h i s) by rw [HW3]; exact Blk.new w 90 _)
    clear HW3
    refine wp_region_ord Ext Ext.refl (fun _ _ _ => Ext.trans) ((0, false) :: (1, false) :: (2, false) :: (3, false) :: (4, false) :: (5, false) :: (6, false) :: (7, false) :: (8, false) :: (9, false) :: (10, true) :: (11, false) :: (12, false) :: (13, false) :: (14, false) :: (15, false) :: (16, false) :: (17, false) :: (18, false) :: (19, false) :: (20, false) :: (21, false) :: (22, false) :: (23, false) :: (24, false) :: (25, false) :: (26, false) :: (27, false) :: (28, false) :: (29, false) :: (30, false) :: (31, false) :: (32, false) :: (33, false) :: (34, false) :: (35, false) :: (36, false) :: (37, false) :: (38, false) :: (39, false) :: (40, false) :: (41, false) :: (42, false) :: (43, false) :: []) (by kernel_rfl) (by kernel_rfl) rfl (by kernel_rfl) (fun _ _ _ _ _ h => h) ?_
    repeat (refine ord_take _ rfl (by rfl) (fun W hW => by go_simp; first | done | rfl) ?_; simp only [Act.put, List.setIfInBounds_toArray, List.set_cons_zero, List.set_cons_succ])
    refine ord_sole rfl (by rfl) (fun K hK => ?_)
    go_simp
    refine (last_any y m _ (by omega) (by omega) (by omega) (by omega)).mono ?_
    rintro e w4 ⟨rfl, hb4⟩
    refine hK _ _ hb4 ?_
    clear hK K k0 k1 k2
    obtain ⟨g3, g4, g5⟩ : (∀ W, Ext w4 W → W.cell? ⟨w.heap.size, 3, none⟩ = some (.int .i64 h)) ∧ (∀ W, Ext w4 W → W.cell? ⟨w.heap.size, 4, none⟩ = some (.int .i64 i)) ∧ (∀ W, Ext w4 W → W.cell? ⟨w.heap.size, 5, none⟩ = some (.int .i64 s)) := ⟨fun W hW => k3 W (Ext.trans hb4 hW), fun W hW => k4 W (Ext.trans hb4 hW), fun W hW => k5 W (Ext.trans hb4 hW)⟩
    clear k3 k4 k5
    repeat (first | (refine ord_take _ rfl (by rfl) (fun W hW => by go_simp; first | done | rfl) ?_; simp only [Act.put, List.setIfInBounds_toArray, List.set_cons_zero, List.set_cons_succ]) | (refine ord_skip rfl (by rfl) ?_; simp only [Act.put, List.setIfInBounds_toArray, List.set_cons_zero, List.set_cons_succ]))
    refine ord_end ?_
    go_wp2
    go_ret
    exact ⟨by rw [F.out]; rfl, Ext.trans B3 (Ext.of_drew hb4)⟩
  by_cases e12 : s < 60
  rotate_left
  · have t5 : decide (1 ≤ d) = true := by simpa using e5
    have t6 : decide (d ≤ ml y m) = true := by simpa using e6
    have t7 : decide (0 ≤ h) = true := by simpa using e7
    have t8 : decide (h < 24) = true := by simpa using e8
    have t9 : decide (0 ≤ i) = true := by simpa using e9
    have t10 : decide (i < 60) = true := by simpa using e10
    have t11 : decide (0 ≤ s) = true := by simpa using e11
    have t12 : decide (s < 60) = false := by simpa using e12
    have F : Hid (okB ⟨y, m, d, h, i, s⟩ = false) := okB_false (by unfold D6.ok; simp only; omega)
    clear e5 e6 e7 e8 e9 e10 e11 e12
    go_enter Tryd.func96, Tryd.ntmps96
    go_wp2
    obtain ⟨w3, HW3, B3⟩ : ∃ w3, w3 = w.alloc (.cells #[.int .i64 y, .int .i64 m, .int .i64 d, .int .i64 h, .int .i64 i, .int .i64 s] 90) ∧ Below w.heap.size w w3 := ⟨_, rfl, (Below.refl _ _).alloc (Nat.le_refl _) _⟩
    rw [← HW3]
    obtain ⟨k0, k1, k2, k3, k4, k5⟩ := six_later (show Blk w3 w.heap.size 90 (d6c y m d h i s) by rw [HW3]; exact Blk.new w 90 _)
    clear HW3
    refine wp_region_ord Ext Ext.refl (fun _ _ _ => Ext.trans) ((0, false) :: (1, false) :: (2, false) :: (3, false) :: (4, false) :: (5, false) :: (6, false) :: (7, false) :: (8, false) :: (9, false) :: (10, true) :: (11, false) :: (12, false) :: (13, false) :: (14, false) :: (15, false) :: (16, false) :: (17, false) :: (18, false) :: (19, false) :: (20, false) :: (21, false) :: (22, false) :: (23, false) :: (24, false) :: (25, false) :: (26, false) :: (27, false) :: (28, false) :: (29, false) :: (30, false) :: (31, false) :: (32, false) :: (33, false) :: (34, false) :: (35, false) :: (36, false) :: (37, false) :: (38, false) :: (39, false) :: (40, false) :: (41, false) :: (42, false) :: (43, false) :: []) (by kernel_rfl) (by kernel_rfl) rfl (by kernel_rfl) (fun _ _ _ _ _ h => h) ?_
    repeat (refine ord_take _ rfl (by rfl) (fun W hW => by go_simp; first | done | rfl) ?_; simp only [Act.put, List.setIfInBounds_toArray, List.set_cons_zero, List.set_cons_succ])
    refine ord_sole rfl (by rfl) (fun K hK => ?_)
    go_simp
    refine (last_any y m _ (by omega) (by omega) (by omega) (by omega)).mono ?_
    rintro e w4 ⟨rfl, hb4⟩
    refine hK _ _ hb4 ?_
    clear hK K k0 k1 k2
    obtain ⟨g3, g4, g5⟩ : (∀ W, Ext w4 W → W.cell? ⟨w.heap.size, 3, none⟩ = some (.int .i64 h)) ∧ (∀ W, Ext w4 W → W.cell? ⟨w.heap.size, 4, none⟩ = some (.int .i64 i)) ∧ (∀ W, Ext w4 W → W.cell? ⟨w.heap.size, 5, none⟩ = some (.int .i64 s)) := ⟨fun W hW => k3 W (Ext.trans hb4 hW), fun W hW => k4 W (Ext.trans hb4 hW), fun W hW => k5 W (Ext.trans hb4 hW)⟩
    clear k3 k4 k5
    repeat (first | (refine ord_take _ rfl (by rfl) (fun W hW => by go_simp; first | done | rfl) ?_; simp only [Act.put, List.setIfInBounds_toArray, List.set_cons_zero, List.set_cons_succ]) | (refine ord_skip rfl (by rfl) ?_; simp only [Act.put, List.setIfInBounds_toArray, List.set_cons_zero, List.set_cons_succ]))
    refine ord_end ?_
    go_wp2
    go_ret
    exact ⟨by rw [F.out]; rfl, Ext.trans B3 (Ext.of_drew hb4)⟩
  have t5 : decide (1 ≤ d) = true := by simpa using e5
  have t6 : decide (d ≤ ml y m) = true := by simpa using e6
  have t7 : decide (0 ≤ h) = true := by simpa using e7
  have t8 : decide (h < 24) = true := by simpa using e8
  have t9 : decide (0 ≤ i) = true := by simpa using e9
  have t10 : decide (i < 60) = true := by simpa using e10
  have t11 : decide (0 ≤ s) = true := by simpa using e11
  have t12 : decide (s < 60) = true := by simpa using e12
  have F : Hid (okB ⟨y, m, d, h, i, s⟩ = true) := okB_true (by unfold D6.ok; simp only; omega)
  clear e5 e6 e7 e8 e9 e10 e11 e12
  go_enter Tryd.func96, Tryd.ntmps96
  go_wp2
  obtain ⟨w3, HW3, B3⟩ : ∃ w3, w3 = w.alloc (.cells #[.int .i64 y, .int .i64 m, .int .i64 d, .int .i64 h, .int .i64 i, .int .i64 s] 90) ∧ Below w.heap.size w w3 := ⟨_, rfl, (Below.refl _ _).alloc (Nat.le_refl _) _⟩
  rw [← HW3]
  obtain ⟨k0, k1, k2, k3, k4, k5⟩ := six_later (show Blk w3 w.heap.size 90 (d6c y m d h i s) by rw [HW3]; exact Blk.new w 90 _)
  clear HW3
  refine wp_region_ord Ext Ext.refl (fun _ _ _ => Ext.trans) ((0, false) :: (1, false) :: (2, false) :: (3, false) :: (4, false) :: (5, false) :: (6, false) :: (7, false) :: (8, false) :: (9, false) :: (10, true) :: (11, false) :: (12, false) :: (13, false) :: (14, false) :: (15, false) :: (16, false) :: (17, false) :: (18, false) :: (19, false) :: (20, false) :: (21, false) :: (22, false) :: (23, false) :: (24, false) :: (25, false) :: (26, false) :: (27, false) :: (28, false) :: (29, false) :: (30, false) :: (31, false) :: (32, false) :: (33, false) :: (34, false) :: (35, false) :: (36, false) :: (37, false) :: (38, false) :: (39, false) :: (40, false) :: (41, false) :: (42, false) :: (43, false) :: []) (by kernel_rfl) (by kernel_rfl) rfl (by kernel_rfl) (fun _ _ _ _ _ h => h) ?_
  repeat (refine ord_take _ rfl (by rfl) (fun W hW => by go_simp; first | done | rfl) ?_; simp only [Act.put, List.setIfInBounds_toArray, List.set_cons_zero, List.set_cons_succ])
  refine ord_sole rfl (by rfl) (fun K hK => ?_)
  go_simp
  refine (last_any y m _ (by omega) (by omega) (by omega) (by omega)).mono ?_
  rintro e w4 ⟨rfl, hb4⟩
  refine hK _ _ hb4 ?_
  clear hK K k0 k1 k2
  obtain ⟨g3, g4, g5⟩ : (∀ W, Ext w4 W → W.cell? ⟨w.heap.size, 3, none⟩ = some (.int .i64 h)) ∧ (∀ W, Ext w4 W → W.cell? ⟨w.heap.size, 4, none⟩ = some (.int .i64 i)) ∧ (∀ W, Ext w4 W → W.cell? ⟨w.heap.size, 5, none⟩ = some (.int .i64 s)) := ⟨fun W hW => k3 W (Ext.trans hb4 hW), fun W hW => k4 W (Ext.trans hb4 hW), fun W hW => k5 W (Ext.trans hb4 hW)⟩
  clear k3 k4 k5
  repeat (first | (refine ord_take _ rfl (by rfl) (fun W hW => by go_simp; first | done | rfl) ?_; simp only [Act.put, List.setIfInBounds_toArray, List.set_cons_zero, List.set_cons_succ]) | (refine ord_skip rfl (by rfl) ?_; simp only [Act.put, List.setIfInBounds_toArray, List.set_cons_zero, List.set_cons_succ]))
  refine ord_end ?_
  go_wp2
  go_ret
  exact ⟨by rw [F.out]; rfl, Ext.trans B3 (Ext.of_drew hb4)⟩

end Go.Proofs.YtjhffnoddhlikaaDoor.Clk

namespace Go.Proofs.YtjhffnoddhlikaaDoor.Clk
open Go.RowKit

theorem cum_1970 : cum 1970 1 = 0 := by decide

set_option maxRecDepth 100000 in
set_option maxHeartbeats 2000000 in
theorem rsecs_any (y m d h i s : Int) (w : World) : Calls Tryd.prog 83 #[.agg #[.int .i64 y, .int .i64 m, .int .i64 d, .int .i64 h, .int .i64 i, .int .i64 s]] w (GivesS w ⟨y, m, d, h, i, s⟩) := by
  have C := Lib.hid (fun W => rright_any y m d h i s W)
  have B0 := Lib.hid ((Below.refl w.heap.size w).alloc (Nat.le_refl _) (.cells #[.int .i64 y, .int .i64 m, .int .i64 d, .int .i64 h, .int .i64 i, .int .i64 s] 90))
  by_cases hok : (⟨y, m, d, h, i, s⟩ : D6).ok
  · have OT := Lib.hid (okB_true hok)
    rw [OT.out] at C
    have RS : Hid (secsR ⟨y, m, d, h, i, s⟩ = secs ⟨y, m, d, h, i, s⟩) := by unfold Hid secsR; rw [if_pos OT.out]
    have dr := D6.days_rng hok
    have HS : Hid (secs ⟨y, m, d, h, i, s⟩ = (d - 1 + (dby y - 711857) + cum y m - (1 - 1 + (dby 1970 - 711857) + cum 1970 1)) * 86400 + (h * 3600 + i * 60 + s)) := by
      unfold Hid secs D6.days D6.clk
      rw [dby_1970, cum_1970]
      simp only
      omega
    have hr : 0 ≤ d - 1 + (dby y - 711857) + cum y m ∧ d - 1 + (dby y - 711857) + cum y m ≤ 91310 := by
      unfold D6.days at dr
      simp only at dr
      omega
    clear dr
    obtain ⟨h1, h2, h3, h4, h5, h6, h7, h8, h9, h10, h11, h12⟩ := hok
    simp only at h1 h2 h3 h4 h5 h6 h7 h8 h9 h10 h11 h12
    have hl := ml_rng y m
    have K := Lib.hid (Blk.new w 90 (d6c y m d h i s))
    simp only [d6c] at K
    go_enter Tryd.func83, Tryd.ntmps83
    go_wp2_with fail
    refine (C.out _).mono ?_
    rintro e w2 ⟨rfl, hb2⟩
    have K2 : Hid (Blk w2 w.heap.size 90 (d6c y m d h i s)) := Lib.hid (K.out.below hb2 (by simp))
    have BB : Hid (Below w.heap.size w w2) := Below.step B0.out hb2
    clear hb2 C B0 K
    have r0 : w2.cell? ⟨w.heap.size, 0, none⟩ = some (.int .i64 y) := K2.out.cell 0
    have r1 : w2.cell? ⟨w.heap.size, 1, none⟩ = some (.int .i64 m) := K2.out.cell 1
    have r2 : w2.cell? ⟨w.heap.size, 2, none⟩ = some (.int .i64 d) := K2.out.cell 2
    go_wp2_with fail
    refine (rdays_any y m d _ (by omega) (by omega) (by omega) (by omega) (by omega) (by omega)).mono ?_
    rintro e w3 ⟨rfl, hb3⟩
    have K3 := Lib.hid (K2.out.below hb3 K2.out.lt)
    have B3 := Lib.hid (Below.step BB.out hb3)
    clear hb3 K2 BB r0 r1 r2
    go_wp2_with fail
    refine (rdays_any 1970 1 1 _ (by omega) (by omega) (by omega) (by omega) (by omega) (by omega)).mono ?_
    rintro e w4 ⟨rfl, hb4⟩
    have K4 := Lib.hid (K3.out.below hb4 K3.out.lt)
    have B4 := Lib.hid (Below.step B3.out hb4)
    clear hb4 K3 B3
    have r3 : w4.cell? ⟨w.heap.size, 3, none⟩ = some (.int .i64 h) := K4.out.cell 3
    have r4 : w4.cell? ⟨w.heap.size, 4, none⟩ = some (.int .i64 i) := K4.out.cell 4
    have r5 : w4.cell? ⟨w.heap.size, 5, none⟩ = some (.int .i64 s) := K4.out.cell 5
    rw [dby_1970, cum_1970] at HS ⊢
    generalize d - 1 + (dby y - 711857) + cum y m = n at hr HS ⊢
    go_wp2
    go_ret2
    exact ⟨by rw [RS.out, HS.out, OT.out]; go_num, B4.out⟩
  · have OF := Lib.hid (okB_false hok)
    rw [OF.out] at C
    have RS : Hid (secsR ⟨y, m, d, h, i, s⟩ = 0) := by unfold Hid secsR; rw [if_neg (by rw [OF.out]; simp)]
    clear hok
    go_enter Tryd.func83, Tryd.ntmps83
    go_wp2_with fail
    refine (C.out _).mono ?_
    rintro e w2 ⟨rfl, hb2⟩
    go_wp2
    go_ret2
    exact ⟨by rw [RS.out, OF.out]; rfl, Below.step B0.out hb2⟩

end Go.Proofs.YtjhffnoddhlikaaDoor.Clk

namespace Go.Proofs.YtjhffnoddhlikaaDoor.Clk
open Go.RowKit

theorem rdays_one (y : Int) (w : World) (hy1 : 1950 ≤ y) (hy2 : y ≤ 2200) : Calls Tryd.prog 97 #[.int .i64 y, .int .i64 1, .int .i64 1] w fun e w' => e = .returned (.int .i64 (dby y - 711857)) ∧ Below w.heap.size w w' :=
  (rdays_any y 1 1 w hy1 hy2 (by omega) (by omega) (by omega) (by omega)).mono fun _ _ ⟨he, hb⟩ => ⟨by rw [he, cum_one]; exact same_int (by omega), hb⟩

/-- What goes through the loops unchanged. -/
def Kept (w wr : World) : Prop := Blk wr w.heap.size 90 (d6c 0 0 0 0 0 0) ∧ Below w.heap.size w wr
theorem Kept.below {w wr w' : World} (h : Kept w wr) (hb : Below wr.heap.size wr w') : Kept w w' := ⟨h.1.below hb h.1.lt, h.2.trans (hb.mono h.2.size)⟩

theorem date_of_day' {n t s y m d : Int} (h : IsDay n y m d) (h0 : 0 ≤ t) (h1 : t < 86400) (hs : s = (n - 7305) * 86400 + t) : IsDate s ⟨y, m, d, t / 3600, t / 60 % 60, t % 60⟩ := by
  have := date_of_day h h0 h1 hs
  rw [show t % 3600 / 60 = t / 60 % 60 by omega] at this
  exact this

set_option maxRecDepth 100000 in
set_option maxHeartbeats 4000000 in
theorem rdate_any (s : Int) (w : World) : Calls Tryd.prog 90 #[.int .i64 s] w (GivesDate w s) := by
  have K0 := Lib.hid (Blk.new w 90 (d6c 0 0 0 0 0 0))
  have KB := Lib.hid ((Below.refl w.heap.size w).alloc (Nat.le_refl _) (.cells (d6c 0 0 0 0 0 0) 90))
  simp only [d6c] at K0 KB
  by_cases hlo : s < -631152000
  · have t1 : decide (s < -631152000) = true := by simpa using hlo
    go_enter Tryd.func90, Tryd.ntmps90
    go_wp2_with fail
    refine (rdays_one 1970 _ (by omega) (by omega)).mono ?_
    rintro e w1 ⟨rfl, hb1⟩
    rw [dby_1970]
    have KP : Hid (Kept w w1) := Lib.hid ⟨K0.out.below hb1 (by simp), Below.step KB.out hb1⟩
    clear hb1 K0 KB
    go_wp2_with (refine wpList_store_rowTo rfl 90 (.tmp 2) (.tmp 19) rfl rfl w.heap.size (d6c 0 0 0 0 0 0) rfl rfl 90 (d6c 0 0 0 0 0 0) KP.out.1 (Tryd.size22 ..) rfl (d6c_one ..) ?_)
    exact bodyPost_ret (results_row_tmp rfl _ _ w.heap.size 90 (d6c 0 0 0 0 0 0) (0, 0) (.array 6 3) rfl (setRow_heap _ _ _ _ 90 _ KP.out.1) Tryd.underlying90 rfl (Tryd.size22 ..)) rfl ⟨zeroD, false, .inr ⟨rfl, rfl, .inl hlo⟩, rfl, below_setRow KP.out.2 (Nat.le_refl _) _⟩
  · have t1 : decide (s < -631152000) = false := by simpa using hlo
    by_cases hhi : 7258118399 < s
    · have t2 : decide (7258118399 < s) = true := by simpa using hhi
      go_enter Tryd.func90, Tryd.ntmps90
      go_wp2_with fail
      refine (rdays_one 1970 _ (by omega) (by omega)).mono ?_
      rintro e w1 ⟨rfl, hb1⟩
      rw [dby_1970]
      have KP : Hid (Kept w w1) := Lib.hid ⟨K0.out.below hb1 (by simp), Below.step KB.out hb1⟩
      clear hb1 K0 KB
      go_wp2_with (refine wpList_store_rowTo rfl 90 (.tmp 2) (.tmp 19) rfl rfl w.heap.size (d6c 0 0 0 0 0 0) rfl rfl 90 (d6c 0 0 0 0 0 0) KP.out.1 (Tryd.size22 ..) rfl (d6c_one ..) ?_)
      exact bodyPost_ret (results_row_tmp rfl _ _ w.heap.size 90 (d6c 0 0 0 0 0 0) (0, 0) (.array 6 3) rfl (setRow_heap _ _ _ _ 90 _ KP.out.1) Tryd.underlying90 rfl (Tryd.size22 ..)) rfl ⟨zeroD, false, .inr ⟨rfl, rfl, .inr hhi⟩, rfl, below_setRow KP.out.2 (Nat.le_refl _) _⟩
    · have t2 : decide (7258118399 < s) = false := by simpa using hhi
      have hp0 : 0 ≤ s + 631152000 := by omega
      have hp1 : s + 631152000 < 7889270400 := by omega
      go_enter Tryd.func90, Tryd.ntmps90
      go_wp2_with fail
      refine (rdays_one 1970 _ (by omega) (by omega)).mono ?_
      rintro e w1 ⟨rfl, hb1⟩
      rw [dby_1970]
      have KP : Hid (Kept w w1) := Lib.hid ⟨K0.out.below hb1 (by simp), Below.step KB.out hb1⟩
      clear hb1 K0 KB
      go_wp2
      have hn0 : 0 ≤ (s + 631152000) / 86400 := by omega
      have hn1 : (s + 631152000) / 86400 ≤ 91310 := by omega
      have ht0 : 0 ≤ (s + 631152000) % 86400 := by omega
      have ht1 : (s + 631152000) % 86400 < 86400 := by omega
      have HS : Hid (s = ((s + 631152000) / 86400 - 7305) * 86400 + (s + 631152000) % 86400) := Lib.hid (by omega)
      clear t1 t2 hlo hhi hp0 hp1
      generalize (s + 631152000) / 86400 = n at hn0 hn1 HS ⊢
      generalize (s + 631152000) % 86400 = t at ht0 ht1 HS ⊢
      go_loopw [5, 7] (fun a k wr => ∃ y : Int, 1950 ≤ y ∧ y ≤ 2199 ∧ dby y - 711857 ≤ n ∧ k = .int .i64 y ∧ a = .int .i64 (n - (dby y - 711857)) ∧ Kept w wr) (fun a _ _ => (intOf a).toNat)
      case atStart => exact ⟨1950, by omega, by omega, by rw [dby_1950]; omega, rfl, by rw [dby_1950]; simp, KP.out⟩
      case round =>
        obtain ⟨y, hy1, hy2, hy3, rfl, rfl, hk⟩ := hrel
        have KR := Lib.hid hk
        clear hk KP
        have dm := dby_mono hy1
        rw [dby_1950] at dm
        have dm' := dby_mono (show y ≤ 2200 by omega)
        rw [dby_2200] at dm'
        have DS := Lib.hid (dby_succ y)
        have dl := lp_01 y
        by_cases hge : 365 + lp y ≤ n - (dby y - 711857)
        · have hy' : y + 1 ≤ 2199 := by
            rcases (show y < 2199 ∨ 2199 ≤ y by omega) with h | h
            · omega
            · have := dby_mono (show 2200 ≤ y + 1 by omega)
              rw [dby_2200, DS.out] at this
              omega
          have e1 : dby y + 365 + lp y - 711857 - (dby y - 711857) = 365 + lp y := by omega
          go_wp2_with fail
          refine (rdays_one (y + 1) _ (by omega) (by omega)).mono ?_
          rintro e wA ⟨rfl, hbA⟩
          have KA := Lib.hid (KR.out.below hbA)
          clear hbA
          go_wp2_with fail
          refine (rdays_one y _ (by omega) (by omega)).mono ?_
          rintro e wB ⟨rfl, hbB⟩
          have KQ := Lib.hid (KA.out.below hbB)
          clear hbB KA
          rw [DS.out]
          go_wp2_with fail
          refine (rdays_one (y + 1) _ (by omega) (by omega)).mono ?_
          rintro e wA ⟨rfl, hbA⟩
          have KA := Lib.hid (KQ.out.below hbA)
          clear hbA
          go_wp2_with fail
          refine (rdays_one y _ (by omega) (by omega)).mono ?_
          rintro e wB ⟨rfl, hbB⟩
          have KS := Lib.hid (KA.out.below hbB)
          clear hbB KA KQ
          rw [DS.out]
          go_wp2
          go_roundw
          case rel => exact ⟨y + 1, by omega, hy', by rw [DS.out]; omega, rfl, by rw [DS.out]; go_num, KS.out⟩
          case measure => simp [intOf]; omega
        · have hlt : n - (dby y - 711857) < 365 + lp y := by omega
          have e1 : dby y + 365 + lp y - 711857 - (dby y - 711857) = 365 + lp y := by omega
          go_wp2_with fail
          refine (rdays_one (y + 1) _ (by omega) (by omega)).mono ?_
          rintro e wA ⟨rfl, hbA⟩
          have KA := Lib.hid (KR.out.below hbA)
          clear hbA
          go_wp2_with fail
          refine (rdays_one y _ (by omega) (by omega)).mono ?_
          rintro e wB ⟨rfl, hbB⟩
          have KQ := Lib.hid (KA.out.below hbB)
          clear hbB KA
          rw [DS.out]
          go_wp2
          obtain ⟨r, HR⟩ : ∃ r, r = n - (dby y - 711857) := ⟨_, rfl⟩
          rw [← HR]
          have hr0 : 0 ≤ r := by omega
          have hr1 : r < 365 + lp y := by omega
          have HRH := Lib.hid HR
          clear HR hge hlt e1
          go_loopw [5, 8] (fun a k wr => ∃ m : Int, 1 ≤ m ∧ m ≤ 12 ∧ cum y m ≤ r ∧ k = .int .i64 m ∧ a = .int .i64 (r - cum y m) ∧ Kept w wr) (fun a _ _ => (intOf a).toNat)
          case atStart => exact ⟨1, by omega, by omega, by rw [cum_one]; omega, rfl, by rw [cum_one]; simp, KQ.out⟩
          case round =>
            obtain ⟨m, hm1, hm2, hm3, rfl, rfl, hk⟩ := hrel
            have KM := Lib.hid hk
            clear hk KQ KR
            have c0 := cum_mono (y := y) hm1
            rw [cum_one] at c0
            have mr := ml_rng y m
            have CS := Lib.hid (cum_succ y m hm1 hm2)
            by_cases hge' : ml y m ≤ r - cum y m
            · have hm' : m ≤ 11 := by
                rcases (show m ≤ 11 ∨ m = 12 by omega) with h | h
                · exact h
                · have e := CS.out
                  rw [h, show (12 : Int) + 1 = 13 from rfl, cum_end] at e
                  rw [h] at hge'
                  omega
              go_wp2_with fail
              refine (last_any y m _ (by omega) (by omega) hm1 hm2).mono ?_
              rintro e wA ⟨rfl, hbA⟩
              have KA := Lib.hid (KM.out.below hbA)
              clear hbA
              go_wp2_with fail
              refine (last_any y m _ (by omega) (by omega) hm1 hm2).mono ?_
              rintro e wB ⟨rfl, hbB⟩
              have KC := Lib.hid (KA.out.below hbB)
              clear hbB KA
              go_wp2
              go_roundw
              case rel => exact ⟨m + 1, by omega, by omega, by rw [CS.out]; omega, rfl, by rw [CS.out]; go_num, KC.out⟩
              case measure => simp [intOf]; omega
            · have hlt' : r - cum y m < ml y m := by omega
              go_wp2_with fail
              refine (last_any y m _ (by omega) (by omega) hm1 hm2).mono ?_
              rintro e wA ⟨rfl, hbA⟩
              have KA := Lib.hid (KM.out.below hbA)
              clear hbA
              have ID : Hid (IsDay n y m (r - cum y m + 1)) := by have := HRH.out; unfold Hid IsDay; omega
              have DD := Lib.hid (date_of_day' ID.out ht0 ht1 HS.out)
              have KA1 : Hid (wA.heap[w.heap.size]? = some (.cells (d6c 0 0 0 0 0 0) 90 (0, 0))) := KA.out.1
              go_wp2_with (refine wpList_store_rowTo rfl 90 (.tmp 2) (.tmp 69) rfl rfl w.heap.size (d6c y m (r - cum y m + 1) (t / 3600) (t / 60 % 60) (t % 60)) rfl rfl 90 (d6c 0 0 0 0 0 0) KA1.out (Tryd.size22 ..) rfl (d6c_one ..) ?_)
              exact bodyPost_ret (results_row_tmp rfl _ _ w.heap.size 90 (d6c y m (r - cum y m + 1) (t / 3600) (t / 60 % 60) (t % 60)) (0, 0) (.array 6 3) rfl (setRow_heap _ _ _ _ 90 _ KA1.out) Tryd.underlying90 rfl (Tryd.size22 ..)) rfl ⟨_, true, .inl ⟨rfl, DD.out⟩, rfl, below_setRow KA.out.2 (Nat.le_refl _) _⟩

end Go.Proofs.YtjhffnoddhlikaaDoor.Clk
