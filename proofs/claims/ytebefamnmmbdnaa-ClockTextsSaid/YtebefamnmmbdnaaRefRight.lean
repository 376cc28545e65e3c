/-
  What the reference's right answers, for stage 3 (clock).
-/
import Derived.Test.YtebefamnmmbdnaaRef
namespace Go.Proofs.Ytebefamnmmbdnaa
open Go.RowKit

theorem six_later {w : World} {g : Nat} {y m d h i s : Int} (k : Blk w g 22 (d6c y m d h i s)) : (∀ W, Ext w.drew W → W.cell? ⟨g, 0, none⟩ = some (.int .i64 y)) ∧ (∀ W, Ext w.drew W → W.cell? ⟨g, 1, none⟩ = some (.int .i64 m)) ∧ (∀ W, Ext w.drew W → W.cell? ⟨g, 2, none⟩ = some (.int .i64 d)) ∧ (∀ W, Ext w.drew W → W.cell? ⟨g, 3, none⟩ = some (.int .i64 h)) ∧ (∀ W, Ext w.drew W → W.cell? ⟨g, 4, none⟩ = some (.int .i64 i)) ∧ (∀ W, Ext w.drew W → W.cell? ⟨g, 5, none⟩ = some (.int .i64 s)) :=
  ⟨fun _ hW => (hW.cell (p := ⟨g, 0, none⟩) k.lt).trans (k.cell 0), fun _ hW => (hW.cell (p := ⟨g, 1, none⟩) k.lt).trans (k.cell 1), fun _ hW => (hW.cell (p := ⟨g, 2, none⟩) k.lt).trans (k.cell 2), fun _ hW => (hW.cell (p := ⟨g, 3, none⟩) k.lt).trans (k.cell 3), fun _ hW => (hW.cell (p := ⟨g, 4, none⟩) k.lt).trans (k.cell 4), fun _ hW => (hW.cell (p := ⟨g, 5, none⟩) k.lt).trans (k.cell 5)⟩

set_option maxRecDepth 100000 in
set_option maxHeartbeats 8000000 in
theorem rright_any (y m d h i s : Int) (w : World) : Calls Try.prog 24 #[.agg #[.int .i64 y, .int .i64 m, .int .i64 d, .int .i64 h, .int .i64 i, .int .i64 s]] w fun e w' => e = .returned (.bool (okB ⟨y, m, d, h, i, s⟩)) ∧ Below w.heap.size w w' := by
  by_cases c1 : y < 1950
  · have F : Hid (okB ⟨y, m, d, h, i, s⟩ = false) := okB_false (by unfold D6.ok; simp only; omega)
    have t1 : decide (y < 1950) = true := by simpa using c1
    go_enter Try.func24, Try.ntmps24
    go_wp2
    go_ret
    exact ⟨by rw [F.out]; rfl, (Below.refl _ _).alloc (Nat.le_refl _) _⟩
  have t1 : decide (y < 1950) = false := by simpa using c1
  by_cases c2 : 2199 < y
  · have F : Hid (okB ⟨y, m, d, h, i, s⟩ = false) := okB_false (by unfold D6.ok; simp only; omega)
    have t2 : decide (2199 < y) = true := by simpa using c2
    go_enter Try.func24, Try.ntmps24
    go_wp2
    go_ret
    exact ⟨by rw [F.out]; rfl, (Below.refl _ _).alloc (Nat.le_refl _) _⟩
  have t2 : decide (2199 < y) = false := by simpa using c2
  by_cases c3 : m < 1
  · have F : Hid (okB ⟨y, m, d, h, i, s⟩ = false) := okB_false (by unfold D6.ok; simp only; omega)
    have t3 : decide (m < 1) = true := by simpa using c3
    go_enter Try.func24, Try.ntmps24
    go_wp2
    go_ret
    exact ⟨by rw [F.out]; rfl, (Below.refl _ _).alloc (Nat.le_refl _) _⟩
  have t3 : decide (m < 1) = false := by simpa using c3
  by_cases c4 : 12 < m
  · have F : Hid (okB ⟨y, m, d, h, i, s⟩ = false) := okB_false (by unfold D6.ok; simp only; omega)
    have t4 : decide (12 < m) = true := by simpa using c4
    go_enter Try.func24, Try.ntmps24
    go_wp2
    go_ret
    exact ⟨by rw [F.out]; rfl, (Below.refl _ _).alloc (Nat.le_refl _) _⟩
  have t4 : decide (12 < m) = false := by simpa using c4
  by_cases e5 : 1 ≤ d
  rotate_left
  · have t5 : decide (1 ≤ d) = false := by simpa using e5
    have F : Hid (okB ⟨y, m, d, h, i, s⟩ = false) := okB_false (by unfold D6.ok; simp only; omega)
    clear e5
    go_enter Try.func24, Try.ntmps24
    go_wp2
    obtain ⟨w3, HW3, B3⟩ : ∃ w3, w3 = w.alloc (.cells #[.int .i64 y, .int .i64 m, .int .i64 d, .int .i64 h, .int .i64 i, .int .i64 s] 22) ∧ Below w.heap.size w w3 := ⟨_, rfl, (Below.refl _ _).alloc (Nat.le_refl _) _⟩
    rw [← HW3]
    obtain ⟨k0, k1, k2, k3, k4, k5⟩ := six_later (show Blk w3 w.heap.size 22 (d6c y m d h i s) by rw [HW3]; exact Blk.new w 22 _)
    clear HW3
    refine wp_region_ord Ext Ext.refl (fun _ _ _ => Ext.trans) ((0, false) :: (1, false) :: (2, false) :: (3, false) :: (4, false) :: (5, false) :: (6, false) :: (7, false) :: (8, false) :: (9, false) :: (10, true) :: (11, false) :: (12, false) :: (13, false) :: (14, false) :: (15, false) :: (16, false) :: (17, false) :: (18, false) :: (19, false) :: (20, false) :: (21, false) :: (22, false) :: (23, false) :: (24, false) :: (25, false) :: (26, false) :: (27, false) :: (28, false) :: (29, false) :: (30, false) :: (31, false) :: (32, false) :: (33, false) :: (34, false) :: (35, false) :: (36, false) :: (37, false) :: (38, false) :: (39, false) :: (40, false) :: (41, false) :: (42, false) :: (43, false) :: []) (by kernel_rfl) (by kernel_rfl) rfl (by kernel_rfl) (fun _ _ _ _ _ h => h) ?_
    repeat (first | (refine ord_take _ rfl (by rfl) (fun W hW => by go_simp; first | done | rfl) ?_; simp only [Act.put, List.setIfInBounds_toArray, List.set_cons_zero, List.set_cons_succ]) | (refine ord_skip rfl (by rfl) ?_; simp only [Act.put, List.setIfInBounds_toArray, List.set_cons_zero, List.set_cons_succ]))
    refine ord_end ?_
    go_wp2
    go_ret
    exact ⟨by rw [F.out]; rfl, Ext.drew B3⟩
  by_cases e6 : d ≤ ml y m
  rotate_left
  · have t5 : decide (1 ≤ d) = true := by simpa using e5
    have t6 : decide (d ≤ ml y m) = false := by simpa using e6
    have F : Hid (okB ⟨y, m, d, h, i, s⟩ = false) := okB_false (by unfold D6.ok; simp only; omega)
    clear e5 e6
    go_enter Try.func24, Try.ntmps24
    go_wp2
    obtain ⟨w3, HW3, B3⟩ : ∃ w3, w3 = w.alloc (.cells #[.int .i64 y, .int .i64 m, .int .i64 d, .int .i64 h, .int .i64 i, .int .i64 s] 22) ∧ Below w.heap.size w w3 := ⟨_, rfl, (Below.refl _ _).alloc (Nat.le_refl _) _⟩
    rw [← HW3]
    obtain ⟨k0, k1, k2, k3, k4, k5⟩ := six_later (show Blk w3 w.heap.size 22 (d6c y m d h i s) by rw [HW3]; exact Blk.new w 22 _)
    clear HW3
    refine wp_region_ord Ext Ext.refl (fun _ _ _ => Ext.trans) ((0, false) :: (1, false) :: (2, false) :: (3, false) :: (4, false) :: (5, false) :: (6, false) :: (7, false) :: (8, false) :: (9, false) :: (10, true) :: (11, false) :: (12, false) :: (13, false) :: (14, false) :: (15, false) :: (16, false) :: (17, false) :: (18, false) :: (19, false) :: (20, false) :: (21, false) :: (22, false) :: (23, false) :: (24, false) :: (25, false) :: (26, false) :: (27, false) :: (28, false) :: (29, false) :: (30, false) :: (31, false) :: (32, false) :: (33, false) :: (34, false) :: (35, false) :: (36, false) :: (37, false) :: (38, false) :: (39, false) :: (40, false) :: (41, false) :: (42, false) :: (43, false) :: []) (by kernel_rfl) (by kernel_rfl) rfl (by kernel_rfl) (fun _ _ _ _ _ h => h) ?_
    repeat (refine ord_take _ rfl (by rfl) (fun W hW => by go_simp; first | done | rfl) ?_; simp only [Act.put, List.setIfInBounds_toArray, List.set_cons_zero, List.set_cons_succ])
    refine ord_sole rfl (by rfl) (fun K hK => ?_)
    go_simp
    refine (last_any y m _ (by omega) (by omega) (by omega) (by omega)).mono ?_
    rintro e w4 ⟨rfl, hb4⟩
    refine hK _ _ hb4 ?_
    clear hK K k0 k1 k2
    obtain ⟨g3, g4, g5⟩ : (∀ W, Ext w4 W → W.cell? ⟨w.heap.size, 3, none⟩ = some (.int .i64 h)) ∧ (∀ W, Ext w4 W → W.cell? ⟨w.heap.size, 4, none⟩ = some (.int .i64 i)) ∧ (∀ W, Ext w4 W → W.cell? ⟨w.heap.size, 5, none⟩ = some (.int .i64 s)) := ⟨fun W hW => k3 W (Ext.trans hb4 hW), fun W hW => k4 W (Ext.trans hb4 hW), fun W hW => k5 W (Ext.trans hb4 hW)⟩
    clear k3 k4 k5
    repeat (first | (refine ord_take _ rfl (by rfl) (fun W hW => by go_simp; first | done | rfl) ?_; simp only [Act.put, List.setIfInBounds_toArray, List.set_cons_zero, List.set_cons_succ]) | (refine ord_skip rfl (by rfl) ?_; simp only [Act.put, List.setIfInBounds_toArray, List.set_cons_zero, List.set_cons_succ]))
    refine ord_end ?_
    go_wp2
    go_ret
    exact ⟨by rw [F.out]; rfl, Ext.trans B3 (Ext.of_drew hb4)⟩
  by_cases e7 : 0 ≤ h
  rotate_left
  · have t5 : decide (1 ≤ d) = true := by simpa using e5
    have t6 : decide (d ≤ ml y m) = true := by simpa using e6
    have t7 : decide (0 ≤ h) = false := by simpa using e7
    have F : Hid (okB ⟨y, m, d, h, i, s⟩ = false) := okB_false (by unfold D6.ok; simp only; omega)
    clear e5 e6 e7
    go_enter Try.func24, Try.ntmps24
    go_wp2
    obtain ⟨w3, HW3, B3⟩ : ∃ w3, w3 = w.alloc (.cells #[.int .i64 y, .int .i64 m, .int .i64 d, .int .i64 h, .int .i64 i, .int .i64 s] 22) ∧ Below w.heap.size w w3 := ⟨_, rfl, (Below.refl _ _).alloc (Nat.le_refl _) _⟩
    rw [← HW3]
    obtain ⟨k0, k1, k2, k3, k4, k5⟩ := six_later (show Blk w3 w.heap.size 22 (d6c y m d h i s) by rw [HW3]; exact Blk.new w 22 _)
    clear HW3
    refine wp_region_ord Ext Ext.refl (fun _ _ _ => Ext.trans) ((0, false) :: (1, false) :: (2, false) :: (3, false) :: (4, false) :: (5, false) :: (6, false) :: (7, false) :: (8, false) :: (9, false) :: (10, true) :: (11, false) :: (12, false) :: (13, false) :: (14, false) :: (15, false) :: (16, false) :: (17, false) :: (18, false) :: (19, false) :: (20, false) :: (21, false) :: (22, false) :: (23, false) :: (24, false) :: (25, false) :: (26, false) :: (27, false) :: (28, false) :: (29, false) :: (30, false) :: (31, false) :: (32, false) :: (33, false) :: (34, false) :: (35, false) :: (36, false) :: (37, false) :: (38, false) :: (39, false) :: (40, false) :: (41, false) :: (42, false) :: (43, false) :: []) (by kernel_rfl) (by kernel_rfl) rfl (by kernel_rfl) (fun _ _ _ _ _ h => h) ?_
    repeat (refine ord_take _ rfl (by rfl) (fun W hW => by go_simp; first | done | rfl) ?_; simp only [Act.put, List.setIfInBounds_toArray, List.set_cons_zero, List.set_cons_succ])
    refine ord_sole rfl (by rfl) (fun K hK => ?_)
    go_simp
    refine (last_any y m _ (by omega) (by omega) (by omega) (by omega)).mono ?_
    rintro e w4 ⟨rfl, hb4⟩
    refine hK _ _ hb4 ?_
    clear hK K k0 k1 k2
    obtain ⟨g3, g4, g5⟩ : (∀ W, Ext w4 W → W.cell? ⟨w.heap.size, 3, none⟩ = some (.int .i64 h)) ∧ (∀ W, Ext w4 W → W.cell? ⟨w.heap.size, 4, none⟩ = some (.int .i64 i)) ∧ (∀ W, Ext w4 W → W.cell? ⟨w.heap.size, 5, none⟩ = some (.int .i64 s)) := ⟨fun W hW => k3 W (Ext.trans hb4 hW), fun W hW => k4 W (Ext.trans hb4 hW), fun W hW => k5 W (Ext.trans hb4 hW)⟩
    clear k3 k4 k5
    repeat (first | (refine ord_take _ rfl (by rfl) (fun W hW => by go_simp; first | done | rfl) ?_; simp only [Act.put, List.setIfInBounds_toArray, List.set_cons_zero, List.set_cons_succ]) | (refine ord_skip rfl (by rfl) ?_; simp only [Act.put, List.setIfInBounds_toArray, List.set_cons_zero, List.set_cons_succ]))
    refine ord_end ?_
    go_wp2
    go_ret
    exact ⟨by rw [F.out]; rfl, Ext.trans B3 (Ext.of_drew hb4)⟩
  by_cases e8 : h < 24
  rotate_left
  · have t5 : decide (1 ≤ d) = true := by simpa using e5
    have t6 : decide (d ≤ ml y m) = true := by simpa using e6
    have t7 : decide (0 ≤ h) = true := by simpa using e7
    have t8 : decide (h < 24) = false := by simpa using e8
    have F : Hid (okB ⟨y, m, d, h, i, s⟩ = false) := okB_false (by unfold D6.ok; simp only; omega)
    clear e5 e6 e7 e8
    go_enter Try.func24, Try.ntmps24
    go_wp2
    obtain ⟨w3, HW3, B3⟩ : ∃ w3, w3 = w.alloc (.cells #[.int .i64 y, .int .i64 m, .int .i64 d, .int .i64 h, .int .i64 i, .int .i64 s] 22) ∧ Below w.heap.size w w3 := ⟨_, rfl, (Below.refl _ _).alloc (Nat.le_refl _) _⟩
    rw [← HW3]
    obtain ⟨k0, k1, k2, k3, k4, k5⟩ := six_later (show Blk w3 w.heap.size 22 (d6c y m d h i s) by rw [HW3]; exact Blk.new w 22 _)
    clear HW3
    refine wp_region_ord Ext Ext.refl (fun _ _ _ => Ext.trans) ((0, false) :: (1, false) :: (2, false) :: (3, false) :: (4, false) :: (5, false) :: (6, false) :: (7, false) :: (8, false) :: (9, false) :: (10, true) :: (11, false) :: (12, false) :: (13, false) :: (14, false) :: (15, false) :: (16, false) :: (17, false) :: (18, false) :: (19, false) :: (20, false) :: (21, false) :: (22, false) :: (23, false) :: (24, false) :: (25, false) :: (26, false) :: (27, false) :: (28, false) :: (29, false) :: (30, false) :: (31, false) :: (32, false) :: (33, false) :: (34, false) :: (35, false) :: (36, false) :: (37, false) :: (38, false) :: (39, false) :: (40, false) :: (41, false) :: (42, false) :: (43, false) :: []) (by kernel_rfl) (by kernel_rfl) rfl (by kernel_rfl) (fun _ _ _ _ _ h => h) ?_
    repeat (refine ord_take _ rfl (by rfl) (fun W hW => by go_simp; first | done | rfl) ?_; simp only [Act.put, List.setIfInBounds_toArray, List.set_cons_zero, List.set_cons_succ])
    refine ord_sole rfl (by rfl) (fun K hK => ?_)
    go_simp
    refine (last_any y m _ (by omega) (by omega) (by omega) (by omega)).mono ?_
    rintro e w4 ⟨rfl, hb4⟩
    refine hK _ _ hb4 ?_
    clear hK K k0 k1 k2
    obtain ⟨g3, g4, g5⟩ : (∀ W, Ext w4 W → W.cell? ⟨w.heap.size, 3, none⟩ = some (.int .i64 h)) ∧ (∀ W, Ext w4 W → W.cell? ⟨w.heap.size, 4, none⟩ = some (.int .i64 i)) ∧ (∀ W, Ext w4 W → W.cell? ⟨w.heap.size, 5, none⟩ = some (.int .i64 s)) := ⟨fun W hW => k3 W (Ext.trans hb4 hW), fun W hW => k4 W (Ext.trans hb4 hW), fun W hW => k5 W (Ext.trans hb4 hW)⟩
    clear k3 k4 k5
    repeat (first | (refine ord_take _ rfl (by rfl) (fun W hW => by go_simp; first | done | rfl) ?_; simp only [Act.put, List.setIfInBounds_toArray, List.set_cons_zero, List.set_cons_succ]) | (refine ord_skip rfl (by rfl) ?_; simp only [Act.put, List.setIfInBounds_toArray, List.set_cons_zero, List.set_cons_succ]))
    refine ord_end ?_
    go_wp2
    go_ret
    exact ⟨by rw [F.out]; rfl, Ext.trans B3 (Ext.of_drew hb4)⟩
  by_cases e9 : 0 ≤ i
  rotate_left
  · have t5 : decide (1 ≤ d) = true := by simpa using e5
    have t6 : decide (d ≤ ml y m) = true := by simpa using e6
    have t7 : decide (0 ≤ h) = true := by simpa using e7
    have t8 : decide (h < 24) = true := by simpa using e8
    have t9 : decide (0 ≤ i) = false := by simpa using e9
    have F : Hid (okB ⟨y, m, d, h, i, s⟩ = false) := okB_false (by unfold D6.ok; simp only; omega)
    clear e5 e6 e7 e8 e9
    go_enter Try.func24, Try.ntmps24
    go_wp2
    obtain ⟨w3, HW3, B3⟩ : ∃ w3, w3 = w.alloc (.cells #[.int .i64 y, .int .i64 m, .int .i64 d, .int .i64 h, .int .i64 i, .int .i64 s] 22) ∧ Below w.heap.size w w3 := ⟨_, rfl, (Below.refl _ _).alloc (Nat.le_refl _) _⟩
    rw [← HW3]
    obtain ⟨k0, k1, k2, k3, k4, k5⟩ := six_later (show Blk w3 w.heap.size 22 (d6c y m d h i s) by rw [HW3]; exact Blk.new w 22 _)
    clear HW3
    refine wp_region_ord Ext Ext.refl (fun _ _ _ => Ext.trans) ((0, false) :: (1, false) :: (2, false) :: (3, false) :: (4, false) :: (5, false) :: (6, false) :: (7, false) :: (8, false) :: (9, false) :: (10, true) :: (11, false) :: (12, false) :: (13, false) :: (14, false) :: (15, false) :: (16, false) :: (17, false) :: (18, false) :: (19, false) :: (20, false) :: (21, false) :: (22, false) :: (23, false) :: (24, false) :: (25, false) :: (26, false) :: (27, false) :: (28, false) :: (29, false) :: (30, false) :: (31, false) :: (32, false) :: (33, false) :: (34, false) :: (35, false) :: (36, false) :: (37, false) :: (38, false) :: (39, false) :: (40, false) :: (41, false) :: (42, false) :: (43, false) :: []) (by kernel_rfl) (by kernel_rfl) rfl (by kernel_rfl) (fun _ _ _ _ _ h => h) ?_
    repeat (refine ord_take _ rfl (by rfl) (fun W hW => by go_simp; first | done | rfl) ?_; simp only [Act.put, List.setIfInBounds_toArray, List.set_cons_zero, List.set_cons_succ])
    refine ord_sole rfl (by rfl) (fun K hK => ?_)
    go_simp
    refine (last_any y m _ (by omega) (by omega) (by omega) (by omega)).mono ?_
    rintro e w4 ⟨rfl, hb4⟩
    refine hK _ _ hb4 ?_
    clear hK K k0 k1 k2
    obtain ⟨g3, g4, g5⟩ : (∀ W, Ext w4 W → W.cell? ⟨w.heap.size, 3, none⟩ = some (.int .i64 h)) ∧ (∀ W, Ext w4 W → W.cell? ⟨w.heap.size, 4, none⟩ = some (.int .i64 i)) ∧ (∀ W, Ext w4 W → W.cell? ⟨w.heap.size, 5, none⟩ = some (.int .i64 s)) := ⟨fun W hW => k3 W (Ext.trans hb4 hW), fun W hW => k4 W (Ext.trans hb4 hW), fun W hW => k5 W (Ext.trans hb4 hW)⟩
    clear k3 k4 k5
    repeat (first | (refine ord_take _ rfl (by rfl) (fun W hW => by go_simp; first | done | rfl) ?_; simp only [Act.put, List.setIfInBounds_toArray, List.set_cons_zero, List.set_cons_succ]) | (refine ord_skip rfl (by rfl) ?_; simp only [Act.put, List.setIfInBounds_toArray, List.set_cons_zero, List.set_cons_succ]))
    refine ord_end ?_
    go_wp2
    go_ret
    exact ⟨by rw [F.out]; rfl, Ext.trans B3 (Ext.of_drew hb4)⟩
  by_cases e10 : i < 60
  rotate_left
  · have t5 : decide (1 ≤ d) = true := by simpa using e5
    have t6 : decide (d ≤ ml y m) = true := by simpa using e6
    have t7 : decide (0 ≤ h) = true := by simpa using e7
    have t8 : decide (h < 24) = true := by simpa using e8
    have t9 : decide (0 ≤ i) = true := by simpa using e9
    have t10 : decide (i < 60) = false := by simpa using e10
    have F : Hid (okB ⟨y, m, d, h, i, s⟩ = false) := okB_false (by unfold D6.ok; simp only; omega)
    clear e5 e6 e7 e8 e9 e10
    go_enter Try.func24, Try.ntmps24
    go_wp2
    obtain ⟨w3, HW3, B3⟩ : ∃ w3, w3 = w.alloc (.cells #[.int .i64 y, .int .i64 m, .int .i64 d, .int .i64 h, .int .i64 i, .int .i64 s] 22) ∧ Below w.heap.size w w3 := ⟨_, rfl, (Below.refl _ _).alloc (Nat.le_refl _) _⟩
    rw [← HW3]
    obtain ⟨k0, k1, k2, k3, k4, k5⟩ := six_later (show Blk w3 w.heap.size 22 (d6c y m d h i s) by rw [HW3]; exact Blk.new w 22 _)
    clear HW3
    refine wp_region_ord Ext Ext.refl (fun _ _ _ => Ext.trans) ((0, false) :: (1, false) :: (2, false) :: (3, false) :: (4, false) :: (5, false) :: (6, false) :: (7, false) :: (8, false) :: (9, false) :: (10, true) :: (11, false) :: (12, false) :: (13, false) :: (14, false) :: (15, false) :: (16, false) :: (17, false) :: (18, false) :: (19, false) :: (20, false) :: (21, false) :: (22, false) :: (23, false) :: (24, false) :: (25, false) :: (26, false) :: (27, false) :: (28, false) :: (29, false) :: (30, false) :: (31, false) :: (32, false) :: (33, false) :: (34, false) :: (35, false) :: (36, false) :: (37, false) :: (38, false) :: (39, false) :: (40, false) :: (41, false) :: (42, false) :: (43, false) :: []) (by kernel_rfl) (by kernel_rfl) rfl (by kernel_rfl) (fun _ _ _ _ _ h => h) ?_
    repeat (refine ord_take _ rfl (by rfl) (fun W hW => by go_simp; first | done | rfl) ?_; simp only [Act.put, List.setIfInBounds_toArray, List.set_cons_zero, List.set_cons_succ])
    refine ord_sole rfl (by rfl) (fun K hK => ?_)
    go_simp
    refine (last_any y m _ (by omega) (by omega) (by omega) (by omega)).mono ?_
    rintro e w4 ⟨rfl, hb4⟩
    refine hK _ _ hb4 ?_
    clear hK K k0 k1 k2
    obtain ⟨g3, g4, g5⟩ : (∀ W, Ext w4 W → W.cell? ⟨w.heap.size, 3, none⟩ = some (.int .i64 h)) ∧ (∀ W, Ext w4 W → W.cell? ⟨w.heap.size, 4, none⟩ = some (.int .i64 i)) ∧ (∀ W, Ext w4 W → W.cell? ⟨w.heap.size, 5, none⟩ = some (.int .i64 s)) := ⟨fun W hW => k3 W (Ext.trans hb4 hW), fun W hW => k4 W (Ext.trans hb4 hW), fun W hW => k5 W (Ext.trans hb4 hW)⟩
    clear k3 k4 k5
    repeat (first | (refine ord_take _ rfl (by rfl) (fun W hW => by go_simp; first | done | rfl) ?_; simp only [Act.put, List.setIfInBounds_toArray, List.set_cons_zero, List.set_cons_succ]) | (refine ord_skip rfl (by rfl) ?_; simp only [Act.put, List.setIfInBounds_toArray, List.set_cons_zero, List.set_cons_succ]))
    refine ord_end ?_
    go_wp2
    go_ret
    exact ⟨by rw [F.out]; rfl, Ext.trans B3 (Ext.of_drew hb4)⟩
  by_cases e11 : 0 ≤ s
  rotate_left
  · have t5 : decide (1 ≤ d) = true := by simpa using e5
    have t6 : decide (d ≤ ml y m) = true := by simpa using e6
    have t7 : decide (0 ≤ h) = true := by simpa using e7
    have t8 : decide (h < 24) = true := by simpa using e8
    have t9 : decide (0 ≤ i) = true := by simpa using e9
    have t10 : decide (i < 60) = true := by simpa using e10
    have t11 : decide (0 ≤ s) = false := by simpa using e11
    have F : Hid (okB ⟨y, m, d, h, i, s⟩ = false) := okB_false (by unfold D6.ok; simp only; omega)
    clear e5 e6 e7 e8 e9 e10 e11
    go_enter Try.func24, Try.ntmps24
    go_wp2
    obtain ⟨w3, HW3, B3⟩ : ∃ w3, w3 = w.alloc (.cells #[.int .i64 y, .int .i64 m, .int .i64 d, .int .i64 h, .int .i64 i, .int .i64 s] 22) ∧ Below w.heap.size w w3 := ⟨_, rfl, (Below.refl _ _).alloc (Nat.le_refl _) _⟩
    rw [← HW3]
    obtain ⟨k0, k1, k2, k3, k4, k5⟩ := six_later (show Blk w3 w.heap.size 22 (d6c y m d h i s) by rw [HW3]; exact Blk.new w 22 _)
    clear HW3
    refine wp_region_ord Ext Ext.refl (fun _ _ _ => Ext.trans) ((0, false) :: (1, false) :: (2, false) :: (3, false) :: (4, false) :: (5, false) :: (6, false) :: (7, false) :: (8, false) :: (9, false) :: (10, true) :: (11, false) :: (12, false) :: (13, false) :: (14, false) :: (15, false) :: (16, false) :: (17, false) :: (18, false) :: (19, false) :: (20, false) :: (21, false) :: (22, false) :: (23, false) :: (24, false) :: (25, false) :: (26, false) :: (27, false) :: (28, false) :: (29, false) :: (30, false) :: (31, false) :: (32, false) :: (33, false) :: (34, false) :: (35, false) :: (36, false) :: (37, false) :: (38, false) :: (39, false) :: (40, false) :: (41, false) :: (42, false) :: (43, false) :: []) (by kernel_rfl) (by kernel_rfl) rfl (by kernel_rfl) (fun _ _ _ _ _ h => h) ?_
    repeat (refine ord_take _ rfl (by rfl) (fun W hW => by go_simp; first | done | rfl) ?_; simp only [Act.put, List.setIfInBounds_toArray, List.set_cons_zero, List.set_cons_succ])
    refine ord_sole rfl (by rfl) (fun K hK => ?_)
    go_simp
    refine (last_any y m _ (by omega) (by omega) (by omega) (by omega)).mono ?_
    rintro e w4 ⟨rfl, hb4⟩
    refine hK _ _ hb4 ?_
    clear hK K k0 k1 k2
    obtain ⟨g3, g4, g5⟩ : (∀ W, Ext w4 W → W.cell? ⟨w.heap.size, 3, none⟩ = some (.int .i64 h)) ∧ (∀ W, Ext w4 W → W.cell? ⟨w.heap.size, 4, none⟩ = some (.int .i64 i)) ∧ (∀ W, Ext w4 W → W.cell? ⟨w.heap.size, 5, none⟩ = some (.int .i64 s)) := ⟨fun W hW => k3 W (Ext.trans hb4 hW), fun W hW => k4 W (Ext.trans hb4 hW), fun W hW => k5 W (Ext.trans hb4 hW)⟩
    clear k3 k4 k5
    repeat (first | (refine ord_take _ rfl (by rfl) (fun W hW => by go_simp; first | done | rfl) ?_; simp only [Act.put, List.setIfInBounds_toArray, List.set_cons_zero, List.set_cons_succ]) | (refine ord_skip rfl (by rfl) ?_; simp only [Act.put, List.setIfInBounds_toArray, List.set_cons_zero, List.set_cons_succ]))
    refine ord_end ?_
    go_wp2
    go_ret
    exact ⟨by rw [F.out]; rfl, Ext.trans B3 (Ext.of_drew hb4)⟩
  by_cases e12 : s < 60
  rotate_left
  · have t5 : decide (1 ≤ d) = true := by simpa using e5
    have t6 : decide (d ≤ ml y m) = true := by simpa using e6
    have t7 : decide (0 ≤ h) = true := by simpa using e7
    have t8 : decide (h < 24) = true := by simpa using e8
    have t9 : decide (0 ≤ i) = true := by simpa using e9
    have t10 : decide (i < 60) = true := by simpa using e10
    have t11 : decide (0 ≤ s) = true := by simpa using e11
    have t12 : decide (s < 60) = false := by simpa using e12
    have F : Hid (okB ⟨y, m, d, h, i, s⟩ = false) := okB_false (by unfold D6.ok; simp only; omega)
    clear e5 e6 e7 e8 e9 e10 e11 e12
    go_enter Try.func24, Try.ntmps24
    go_wp2
    obtain ⟨w3, HW3, B3⟩ : ∃ w3, w3 = w.alloc (.cells #[.int .i64 y, .int .i64 m, .int .i64 d, .int .i64 h, .int .i64 i, .int .i64 s] 22) ∧ Below w.heap.size w w3 := ⟨_, rfl, (Below.refl _ _).alloc (Nat.le_refl _) _⟩
    rw [← HW3]
    obtain ⟨k0, k1, k2, k3, k4, k5⟩ := six_later (show Blk w3 w.heap.size 22 (d6c y m d h i s) by rw [HW3]; exact Blk.new w 22 _)
    clear HW3
    refine wp_region_ord Ext Ext.refl (fun _ _ _ => Ext.trans) ((0, false) :: (1, false) :: (2, false) :: (3, false) :: (4, false) :: (5, false) :: (6, false) :: (7, false) :: (8, false) :: (9, false) :: (10, true) :: (11, false) :: (12, false) :: (13, false) :: (14, false) :: (15, false) :: (16, false) :: (17, false) :: (18, false) :: (19, false) :: (20, false) :: (21, false) :: (22, false) :: (23, false) :: (24, false) :: (25, false) :: (26, false) :: (27, false) :: (28, false) :: (29, false) :: (30, false) :: (31, false) :: (32, false) :: (33, false) :: (34, false) :: (35, false) :: (36, false) :: (37, false) :: (38, false) :: (39, false) :: (40, false) :: (41, false) :: (42, false) :: (43, false) :: []) (by kernel_rfl) (by kernel_rfl) rfl (by kernel_rfl) (fun _ _ _ _ _ h => h) ?_
    repeat (refine ord_take _ rfl (by rfl) (fun W hW => by go_simp; first | done | rfl) ?_; simp only [Act.put, List.setIfInBounds_toArray, List.set_cons_zero, List.set_cons_succ])
    refine ord_sole rfl (by rfl) (fun K hK => ?_)
    go_simp
    refine (last_any y m _ (by omega) (by omega) (by omega) (by omega)).mono ?_
    rintro e w4 ⟨rfl, hb4⟩
    refine hK _ _ hb4 ?_
    clear hK K k0 k1 k2
    obtain ⟨g3, g4, g5⟩ : (∀ W, Ext w4 W → W.cell? ⟨w.heap.size, 3, none⟩ = some (.int .i64 h)) ∧ (∀ W, Ext w4 W → W.cell? ⟨w.heap.size, 4, none⟩ = some (.int .i64 i)) ∧ (∀ W, Ext w4 W → W.cell? ⟨w.heap.size, 5, none⟩ = some (.int .i64 s)) := ⟨fun W hW => k3 W (Ext.trans hb4 hW), fun W hW => k4 W (Ext.trans hb4 hW), fun W hW => k5 W (Ext.trans hb4 hW)⟩
    clear k3 k4 k5
    repeat (first | (refine ord_take _ rfl (by rfl) (fun W hW => by go_simp; first | done | rfl) ?_; simp only [Act.put, List.setIfInBounds_toArray, List.set_cons_zero, List.set_cons_succ]) | (refine ord_skip rfl (by rfl) ?_; simp only [Act.put, List.setIfInBounds_toArray, List.set_cons_zero, List.set_cons_succ]))
    refine ord_end ?_
    go_wp2
    go_ret
    exact ⟨by rw [F.out]; rfl, Ext.trans B3 (Ext.of_drew hb4)⟩
  have t5 : decide (1 ≤ d) = true := by simpa using e5
  have t6 : decide (d ≤ ml y m) = true := by simpa using e6
  have t7 : decide (0 ≤ h) = true := by simpa using e7
  have t8 : decide (h < 24) = true := by simpa using e8
  have t9 : decide (0 ≤ i) = true := by simpa using e9
  have t10 : decide (i < 60) = true := by simpa using e10
  have t11 : decide (0 ≤ s) = true := by simpa using e11
  have t12 : decide (s < 60) = true := by simpa using e12
  have F : Hid (okB ⟨y, m, d, h, i, s⟩ = true) := okB_true (by unfold D6.ok; simp only; omega)
  clear e5 e6 e7 e8 e9 e10 e11 e12
  go_enter Try.func24, Try.ntmps24
  go_wp2
  obtain ⟨w3, HW3, B3⟩ : ∃ w3, w3 = w.alloc (.cells #[.int .i64 y, .int .i64 m, .int .i64 d, .int .i64 h, .int .i64 i, .int .i64 s] 22) ∧ Below w.heap.size w w3 := ⟨_, rfl, (Below.refl _ _).alloc (Nat.le_refl _) _⟩
  rw [← HW3]
  obtain ⟨k0, k1, k2, k3, k4, k5⟩ := six_later (show Blk w3 w.heap.size 22 (d6c y m d h i s) by rw [HW3]; exact Blk.new w 22 _)
  clear HW3
  refine wp_region_ord Ext Ext.refl (fun _ _ _ => Ext.trans) ((0, false) :: (1, false) :: (2, false) :: (3, false) :: (4, false) :: (5, false) :: (6, false) :: (7, false) :: (8, false) :: (9, false) :: (10, true) :: (11, false) :: (12, false) :: (13, false) :: (14, false) :: (15, false) :: (16, false) :: (17, false) :: (18, false) :: (19, false) :: (20, false) :: (21, false) :: (22, false) :: (23, false) :: (24, false) :: (25, false) :: (26, false) :: (27, false) :: (28, false) :: (29, false) :: (30, false) :: (31, false) :: (32, false) :: (33, false) :: (34, false) :: (35, false) :: (36, false) :: (37, false) :: (38, false) :: (39, false) :: (40, false) :: (41, false) :: (42, false) :: (43, false) :: []) (by kernel_rfl) (by kernel_rfl) rfl (by kernel_rfl) (fun _ _ _ _ _ h => h) ?_
  repeat (refine ord_take _ rfl (by rfl) (fun W hW => by go_simp; first | done | rfl) ?_; simp only [Act.put, List.setIfInBounds_toArray, List.set_cons_zero, List.set_cons_succ])
  refine ord_sole rfl (by rfl) (fun K hK => ?_)
  go_simp
  refine (last_any y m _ (by omega) (by omega) (by omega) (by omega)).mono ?_
  rintro e w4 ⟨rfl, hb4⟩
  refine hK _ _ hb4 ?_
  clear hK K k0 k1 k2
  obtain ⟨g3, g4, g5⟩ : (∀ W, Ext w4 W → W.cell? ⟨w.heap.size, 3, none⟩ = some (.int .i64 h)) ∧ (∀ W, Ext w4 W → W.cell? ⟨w.heap.size, 4, none⟩ = some (.int .i64 i)) ∧ (∀ W, Ext w4 W → W.cell? ⟨w.heap.size, 5, none⟩ = some (.int .i64 s)) := ⟨fun W hW => k3 W (Ext.trans hb4 hW), fun W hW => k4 W (Ext.trans hb4 hW), fun W hW => k5 W (Ext.trans hb4 hW)⟩
  clear k3 k4 k5
  repeat (first | (refine ord_take _ rfl (by rfl) (fun W hW => by go_simp; first | done | rfl) ?_; simp only [Act.put, List.setIfInBounds_toArray, List.set_cons_zero, List.set_cons_succ]) | (refine ord_skip rfl (by rfl) ?_; simp only [Act.put, List.setIfInBounds_toArray, List.set_cons_zero, List.set_cons_succ]))
  refine ord_end ?_
  go_wp2
  go_ret
  exact ⟨by rw [F.out]; rfl, Ext.trans B3 (Ext.of_drew hb4)⟩

end Go.Proofs.Ytebefamnmmbdnaa
