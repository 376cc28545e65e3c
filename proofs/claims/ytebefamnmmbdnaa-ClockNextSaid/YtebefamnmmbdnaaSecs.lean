/-
  What clock.isDate and clock.Seconds answer, for stage 3 (clock).
-/
import Derived.Test.YtebefamnmmbdnaaLeap
import Derived.Test.YtebefamnmmbdnaaOrd
namespace Go.Proofs.Ytebefamnmmbdnaa
open Go.RowKit

instance (a : D6) : Decidable a.ok := by unfold D6.ok; infer_instance
def okB (a : D6) : Bool := decide a.ok
theorem okB_true {a : D6} (h : a.ok) : okB a = true := by simpa [okB] using h
theorem okB_false {a : D6} (h : ¬ a.ok) : okB a = false := by simpa [okB] using h

/-- What the first k rounds have shown. -/
def Pre (a : D6) (k : Nat) : Prop := (0 < k → 1950 ≤ a.y ∧ a.y ≤ 2199) ∧ (1 < k → 1 ≤ a.m ∧ a.m ≤ 12) ∧ (2 < k → 1 ≤ a.d ∧ a.d ≤ 31) ∧ (3 < k → 0 ≤ a.h ∧ a.h ≤ 23) ∧ (4 < k → 0 ≤ a.i ∧ a.i ≤ 59) ∧ (5 < k → 0 ≤ a.s ∧ a.s ≤ 59)

theorem date_index (x0 x1 x2 x3 x4 x5 : Value) : (∀ w, (Instr.index 22 (.agg #[x0, x1, x2, x3, x4, x5]) (.int .i64 0)).run Try.prog w = .ok x0 w) ∧ (∀ w, (Instr.index 22 (.agg #[x0, x1, x2, x3, x4, x5]) (.int .i64 1)).run Try.prog w = .ok x1 w) ∧ (∀ w, (Instr.index 22 (.agg #[x0, x1, x2, x3, x4, x5]) (.int .i64 2)).run Try.prog w = .ok x2 w) ∧ (∀ w, (Instr.index 22 (.agg #[x0, x1, x2, x3, x4, x5]) (.int .i64 3)).run Try.prog w = .ok x3 w) ∧ (∀ w, (Instr.index 22 (.agg #[x0, x1, x2, x3, x4, x5]) (.int .i64 4)).run Try.prog w = .ok x4 w) ∧ (∀ w, (Instr.index 22 (.agg #[x0, x1, x2, x3, x4, x5]) (.int .i64 5)).run Try.prog w = .ok x5 w) :=
  ⟨fun _ => by kernel_rfl, fun _ => by kernel_rfl, fun _ => by kernel_rfl, fun _ => by kernel_rfl, fun _ => by kernel_rfl, fun _ => by kernel_rfl⟩

theorem box_cells (w : World) (c : Array Value) (t : TypeId) (o1 o2 : Obj) (j : Nat) : (((w.alloc (.cells c t)).alloc o1).alloc o2).cell? ⟨w.heap.size, j, none⟩ = c[j]? := by
  have h1 : (w.alloc (.cells c t)).cell? ⟨w.heap.size, j, none⟩ = c[j]? := by
    simp only [World.cell?, heap_alloc_new]
    rfl
  rw [World.cell?_alloc_lt _ _ _ (by simp; omega), World.cell?_alloc_lt _ _ _ (by simp), h1]

theorem ml_index (y m : Int) (h1 : 1 ≤ m) (h2 : m ≤ 12) (w : World) : (Instr.index 37 (.agg (mlCells (28 + lp y))) (.int .i64 (m - 1))).run Try.prog w = .ok (.int .i64 (ml y m)) w := by
  have h := ml_at y m h1 h2
  have h3 : (0 : Int) ≤ m - 1 ∧ m - 1 < 12 := by omega
  rw [show (m - 1).toNat = m.toNat - 1 by omega] at h
  simp [Instr.index, run_underlying Try.underlying37, asIntOf, h3, go_sem]
  rw [if_pos (by omega), h]
  rfl

set_option maxRecDepth 100000 in
set_option maxHeartbeats 2000000 in
theorem isdate_any (y m d h i s : Int) (w : World) : Calls Try.prog 21 #[.agg #[.int .i64 y, .int .i64 m, .int .i64 d, .int .i64 h, .int .i64 i, .int .i64 s]] w fun e w' => e = .returned (.bool (okB ⟨y, m, d, h, i, s⟩)) ∧ Below w.heap.size w w' := by
  obtain ⟨i0, i1, i2, i3, i4, i5⟩ := date_index (.int .i64 y) (.int .i64 m) (.int .i64 d) (.int .i64 h) (.int .i64 i) (.int .i64 s)
  go_enter Try.func21, Try.ntmps21
  go_wp2
  go_loop [10] (fun t => ∃ k : Nat, k ≤ 6 ∧ t = .int .i64 (k : Int) ∧ Pre ⟨y, m, d, h, i, s⟩ k) (fun t => 6 - (intOf t).toNat)
  case atStart => exact ⟨0, by omega, rfl, by unfold Pre; omega⟩
  case round =>
    obtain ⟨k, hk, rfl, hp⟩ := hrel
    have HP := Lib.hid hp
    clear hp
    rcases k with _ | _ | _ | _ | _ | _ | _ | k
    · by_cases c : y < 1950
      · have F : Hid (okB ⟨y, m, d, h, i, s⟩ = false) := okB_false (by unfold D6.ok; simp only; omega)
        have c1 : decide (y < 1950) = true := by simpa using c
        go_wp2
        go_ret
        exact ⟨by rw [F.out]; rfl, (((Below.refl _ _).alloc (Nat.le_refl _) _).alloc (by simp) _).alloc (by simp; omega) _⟩
      · have c1 : decide (y < 1950) = false := by simpa using c
        by_cases c' : 2199 < y
        · have F : Hid (okB ⟨y, m, d, h, i, s⟩ = false) := okB_false (by unfold D6.ok; simp only; omega)
          have c2 : decide (2199 < y) = true := by simpa using c'
          go_wp2
          go_ret
          exact ⟨by rw [F.out]; rfl, (((Below.refl _ _).alloc (Nat.le_refl _) _).alloc (by simp) _).alloc (by simp; omega) _⟩
        · have c2 : decide (2199 < y) = false := by simpa using c'
          have HN : Hid (Pre ⟨y, m, d, h, i, s⟩ 1) := by
            have := HP.out
            unfold Pre at this
            unfold Hid Pre
            simp only at this ⊢
            omega
          go_wp2
          go_round
          case rel => exact ⟨1, by omega, by go_num, HN.out⟩
          case measure => simp [intOf]
    · by_cases c : m < 1
      · have F : Hid (okB ⟨y, m, d, h, i, s⟩ = false) := okB_false (by unfold D6.ok; simp only; omega)
        have c1 : decide (m < 1) = true := by simpa using c
        go_wp2
        go_ret
        exact ⟨by rw [F.out]; rfl, (((Below.refl _ _).alloc (Nat.le_refl _) _).alloc (by simp) _).alloc (by simp; omega) _⟩
      · have c1 : decide (m < 1) = false := by simpa using c
        by_cases c' : 12 < m
        · have F : Hid (okB ⟨y, m, d, h, i, s⟩ = false) := okB_false (by unfold D6.ok; simp only; omega)
          have c2 : decide (12 < m) = true := by simpa using c'
          go_wp2
          go_ret
          exact ⟨by rw [F.out]; rfl, (((Below.refl _ _).alloc (Nat.le_refl _) _).alloc (by simp) _).alloc (by simp; omega) _⟩
        · have c2 : decide (12 < m) = false := by simpa using c'
          have HN : Hid (Pre ⟨y, m, d, h, i, s⟩ 2) := by
            have := HP.out
            unfold Pre at this
            unfold Hid Pre
            simp only at this ⊢
            omega
          go_wp2
          go_round
          case rel => exact ⟨2, by omega, by go_num, HN.out⟩
          case measure => simp [intOf]
    · by_cases c : d < 1
      · have F : Hid (okB ⟨y, m, d, h, i, s⟩ = false) := okB_false (by unfold D6.ok; simp only; omega)
        have c1 : decide (d < 1) = true := by simpa using c
        go_wp2
        go_ret
        exact ⟨by rw [F.out]; rfl, (((Below.refl _ _).alloc (Nat.le_refl _) _).alloc (by simp) _).alloc (by simp; omega) _⟩
      · have c1 : decide (d < 1) = false := by simpa using c
        by_cases c' : 31 < d
        · have F : Hid (okB ⟨y, m, d, h, i, s⟩ = false) := okB_false (by unfold D6.ok; simp only; have := ml_rng y m; omega)
          have c2 : decide (31 < d) = true := by simpa using c'
          go_wp2
          go_ret
          exact ⟨by rw [F.out]; rfl, (((Below.refl _ _).alloc (Nat.le_refl _) _).alloc (by simp) _).alloc (by simp; omega) _⟩
        · have c2 : decide (31 < d) = false := by simpa using c'
          have HN : Hid (Pre ⟨y, m, d, h, i, s⟩ 3) := by
            have := HP.out
            unfold Pre at this
            unfold Hid Pre
            simp only at this ⊢
            omega
          go_wp2
          go_round
          case rel => exact ⟨3, by omega, by go_num, HN.out⟩
          case measure => simp [intOf]
    · by_cases c : h < 0
      · have F : Hid (okB ⟨y, m, d, h, i, s⟩ = false) := okB_false (by unfold D6.ok; simp only; omega)
        have c1 : decide (h < 0) = true := by simpa using c
        go_wp2
        go_ret
        exact ⟨by rw [F.out]; rfl, (((Below.refl _ _).alloc (Nat.le_refl _) _).alloc (by simp) _).alloc (by simp; omega) _⟩
      · have c1 : decide (h < 0) = false := by simpa using c
        by_cases c' : 23 < h
        · have F : Hid (okB ⟨y, m, d, h, i, s⟩ = false) := okB_false (by unfold D6.ok; simp only; omega)
          have c2 : decide (23 < h) = true := by simpa using c'
          go_wp2
          go_ret
          exact ⟨by rw [F.out]; rfl, (((Below.refl _ _).alloc (Nat.le_refl _) _).alloc (by simp) _).alloc (by simp; omega) _⟩
        · have c2 : decide (23 < h) = false := by simpa using c'
          have HN : Hid (Pre ⟨y, m, d, h, i, s⟩ 4) := by
            have := HP.out
            unfold Pre at this
            unfold Hid Pre
            simp only at this ⊢
            omega
          go_wp2
          go_round
          case rel => exact ⟨4, by omega, by go_num, HN.out⟩
          case measure => simp [intOf]
    · by_cases c : i < 0
      · have F : Hid (okB ⟨y, m, d, h, i, s⟩ = false) := okB_false (by unfold D6.ok; simp only; omega)
        have c1 : decide (i < 0) = true := by simpa using c
        go_wp2
        go_ret
        exact ⟨by rw [F.out]; rfl, (((Below.refl _ _).alloc (Nat.le_refl _) _).alloc (by simp) _).alloc (by simp; omega) _⟩
      · have c1 : decide (i < 0) = false := by simpa using c
        by_cases c' : 59 < i
        · have F : Hid (okB ⟨y, m, d, h, i, s⟩ = false) := okB_false (by unfold D6.ok; simp only; omega)
          have c2 : decide (59 < i) = true := by simpa using c'
          go_wp2
          go_ret
          exact ⟨by rw [F.out]; rfl, (((Below.refl _ _).alloc (Nat.le_refl _) _).alloc (by simp) _).alloc (by simp; omega) _⟩
        · have c2 : decide (59 < i) = false := by simpa using c'
          have HN : Hid (Pre ⟨y, m, d, h, i, s⟩ 5) := by
            have := HP.out
            unfold Pre at this
            unfold Hid Pre
            simp only at this ⊢
            omega
          go_wp2
          go_round
          case rel => exact ⟨5, by omega, by go_num, HN.out⟩
          case measure => simp [intOf]
    · by_cases c : s < 0
      · have F : Hid (okB ⟨y, m, d, h, i, s⟩ = false) := okB_false (by unfold D6.ok; simp only; omega)
        have c1 : decide (s < 0) = true := by simpa using c
        go_wp2
        go_ret
        exact ⟨by rw [F.out]; rfl, (((Below.refl _ _).alloc (Nat.le_refl _) _).alloc (by simp) _).alloc (by simp; omega) _⟩
      · have c1 : decide (s < 0) = false := by simpa using c
        by_cases c' : 59 < s
        · have F : Hid (okB ⟨y, m, d, h, i, s⟩ = false) := okB_false (by unfold D6.ok; simp only; omega)
          have c2 : decide (59 < s) = true := by simpa using c'
          go_wp2
          go_ret
          exact ⟨by rw [F.out]; rfl, (((Below.refl _ _).alloc (Nat.le_refl _) _).alloc (by simp) _).alloc (by simp; omega) _⟩
        · have c2 : decide (59 < s) = false := by simpa using c'
          have HN : Hid (Pre ⟨y, m, d, h, i, s⟩ 6) := by
            have := HP.out
            unfold Pre at this
            unfold Hid Pre
            simp only at this ⊢
            omega
          go_wp2
          go_round
          case rel => exact ⟨6, by omega, by go_num, HN.out⟩
          case measure => simp [intOf]
    · have hp := HP.out
      unfold Pre at hp
      simp only at hp
      have hy := hp.1 (by omega)
      have hm := hp.2.1 (by omega)
      have hd := hp.2.2.1 (by omega)
      have hh := hp.2.2.2.1 (by omega)
      have hi := hp.2.2.2.2.1 (by omega)
      have hs := hp.2.2.2.2.2 (by omega)
      clear hp HP i0 i1 i2 i3 i4 i5
      have HK : Hid (okB ⟨y, m, d, h, i, s⟩ = decide (d ≤ ml y m)) := by
        by_cases c : d ≤ ml y m
        · rw [okB_true (by unfold D6.ok; simp only; omega)]; show true = _; simpa using c
        · rw [okB_false (by unfold D6.ok; simp only; omega)]; show false = _; simpa using c
      go_wp2
      obtain ⟨w3, HW3, B3⟩ : ∃ w3, w3 = ((w.alloc (.cells #[.int .i64 y, .int .i64 m, .int .i64 d, .int .i64 h, .int .i64 i, .int .i64 s] 22)).alloc (.cells #[.int .i64 1950, .int .i64 1, .int .i64 1, .int .i64 0, .int .i64 0, .int .i64 0] 22)).alloc (.cells #[.int .i64 2199, .int .i64 12, .int .i64 31, .int .i64 23, .int .i64 59, .int .i64 59] 22) ∧ Below w.heap.size w w3 := ⟨_, rfl, (((Below.refl _ _).alloc (Nat.le_refl _) _).alloc (by simp) _).alloc (by simp; omega) _⟩
      rw [← HW3]
      have q0 : w3.cell? ⟨w.heap.size, 0, none⟩ = some (.int .i64 y) := by rw [HW3]; exact box_cells _ _ _ _ _ 0
      have q1 : w3.cell? ⟨w.heap.size, 1, none⟩ = some (.int .i64 m) := by rw [HW3]; exact box_cells _ _ _ _ _ 1
      have q2 : w3.cell? ⟨w.heap.size, 2, none⟩ = some (.int .i64 d) := by rw [HW3]; exact box_cells _ _ _ _ _ 2
      have hlt : w.heap.size < w3.heap.size := by rw [HW3]; simp; omega
      clear HW3
      have k0 := fun W (hW : Ext w3.drew W) => (hW.cell (p := ⟨w.heap.size, 0, none⟩) hlt).trans q0
      have k1 := fun W (hW : Ext w3.drew W) => (hW.cell (p := ⟨w.heap.size, 1, none⟩) hlt).trans q1
      have k2 := fun W (hW : Ext w3.drew W) => (hW.cell (p := ⟨w.heap.size, 2, none⟩) hlt).trans q2
      have hml := ml_index y m hm.1 hm.2
      have hm1 : IntKind.i64.wrap (m - 1) = m - 1 := IntWalk.i64_in _ (by omega)
      clear q0 q1 q2
      refine wp_region_ord Ext Ext.refl (fun _ _ _ => Ext.trans) ((0, false) :: (1, false) :: (2, false) :: (3, false) :: (5, false) :: (6, false) :: (7, false) :: (4, true) :: (8, false) :: (9, false) :: (10, false) :: []) (by kernel_rfl) (by kernel_rfl) rfl (by kernel_rfl) (fun _ _ _ _ _ h => h) ?_
      repeat (refine ord_take _ rfl (by rfl) (fun W hW => by go_simp; first | done | rfl) ?_; simp only [Act.put, List.setIfInBounds_toArray, List.set_cons_zero, List.set_cons_succ])
      refine ord_sole rfl (by rfl) (fun K hK => ?_)
      go_simp
      refine (months_any y _ (by omega) (by omega)).mono ?_
      rintro e w4 ⟨rfl, hb4⟩
      refine hK _ _ hb4 ?_
      clear hK K k0 k1 k2
      repeat (refine ord_take _ rfl (by rfl) (fun W hW => by go_simp; first | done | rfl) ?_; simp only [Act.put, List.setIfInBounds_toArray, List.set_cons_zero, List.set_cons_succ])
      refine ord_end ?_
      go_wp2
      go_ret
      exact ⟨by rw [HK.out]; rfl, Ext.trans B3 (Ext.of_drew hb4)⟩
    · omega
end Go.Proofs.Ytebefamnmmbdnaa
