/-
  The walk of clock.Seconds, for stage 3 (clock).
-/
import Derived.Test.YtebefamnmmbdnaaSecs
namespace Go.Proofs.Ytebefamnmmbdnaa
open Go.RowKit

/-- What Seconds answers. -/
def secsR (a : D6) : Int := if okB a = true then secs a else 0
def GivesS (w : World) (a : D6) (e : Ending) (w' : World) : Prop := e = .returned (.tuple #[.int .i64 (secsR a), .bool (okB a)]) ∧ Below w.heap.size w w'

theorem new_cell (w : World) (c : Array Value) (t : TypeId) (j : Nat) : (w.alloc (.cells c t)).cell? ⟨w.heap.size, j, none⟩ = c[j]? := by
  simp only [World.cell?, heap_alloc_new]
  rfl

theorem Below.step {w w1 w2 : World} (h : Below w.heap.size w w1) (k : Below w1.heap.size w1 w2) : Below w.heap.size w w2 := h.trans (k.mono h.size)

set_option maxRecDepth 100000 in
set_option maxHeartbeats 2000000 in
theorem secs_any (y m d h i s : Int) (w : World) : Calls Try.prog 9 #[.agg #[.int .i64 y, .int .i64 m, .int .i64 d, .int .i64 h, .int .i64 i, .int .i64 s]] w (GivesS w ⟨y, m, d, h, i, s⟩) := by
  have C := Lib.hid (fun W => isdate_any y m d h i s W)
  have B0 := Lib.hid ((Below.refl w.heap.size w).alloc (Nat.le_refl _) (.cells #[.int .i64 y, .int .i64 m, .int .i64 d, .int .i64 h, .int .i64 i, .int .i64 s] 22))
  by_cases hok : (⟨y, m, d, h, i, s⟩ : D6).ok
  · have OT := Lib.hid (okB_true hok)
    rw [OT.out] at C
    have RS : Hid (secsR ⟨y, m, d, h, i, s⟩ = secs ⟨y, m, d, h, i, s⟩) := by unfold Hid secsR; rw [if_pos OT.out]
    have RG := secs_rng hok
    obtain ⟨h1, h2, h3, h4, h5, h6, h7, h8, h9, h10, h11, h12⟩ := hok
    simp only at h1 h2 h3 h4 h5 h6 h7 h8 h9 h10 h11 h12
    have q0 := new_cell w #[.int .i64 y, .int .i64 m, .int .i64 d, .int .i64 h, .int .i64 i, .int .i64 s] 22 0
    have q1 := new_cell w #[.int .i64 y, .int .i64 m, .int .i64 d, .int .i64 h, .int .i64 i, .int .i64 s] 22 1
    have q2 := new_cell w #[.int .i64 y, .int .i64 m, .int .i64 d, .int .i64 h, .int .i64 i, .int .i64 s] 22 2
    have q3 := new_cell w #[.int .i64 y, .int .i64 m, .int .i64 d, .int .i64 h, .int .i64 i, .int .i64 s] 22 3
    have q4 := new_cell w #[.int .i64 y, .int .i64 m, .int .i64 d, .int .i64 h, .int .i64 i, .int .i64 s] 22 4
    have q5 := new_cell w #[.int .i64 y, .int .i64 m, .int .i64 d, .int .i64 h, .int .i64 i, .int .i64 s] 22 5
    simp only [List.getElem?_toArray, List.getElem?_cons_zero, List.getElem?_cons_succ] at q0 q1 q2 q3 q4 q5
    go_enter Try.func9, Try.ntmps9
    go_wp2_with fail
    refine (C.out _).mono ?_
    rintro e w2 ⟨rfl, hb2⟩
    have bw : w.heap.size < (w.alloc (.cells #[.int .i64 y, .int .i64 m, .int .i64 d, .int .i64 h, .int .i64 i, .int .i64 s] 22)).heap.size := by simp
    have r0 := (hb2.cell (p := ⟨w.heap.size, 0, none⟩) bw).trans q0
    have r1 := (hb2.cell (p := ⟨w.heap.size, 1, none⟩) bw).trans q1
    have r2 := (hb2.cell (p := ⟨w.heap.size, 2, none⟩) bw).trans q2
    have r3 := (hb2.cell (p := ⟨w.heap.size, 3, none⟩) bw).trans q3
    have r4 := (hb2.cell (p := ⟨w.heap.size, 4, none⟩) bw).trans q4
    have r5 := (hb2.cell (p := ⟨w.heap.size, 5, none⟩) bw).trans q5
    have bw2 : w.heap.size < w2.heap.size := Nat.lt_of_lt_of_le bw hb2.size
    have BB : Hid (Below w.heap.size w w2) := Below.step B0.out hb2
    clear q0 q1 q2 q3 q4 q5 bw hb2 C B0
    go_wp2_with fail
    refine (dby_any y _ (by omega) (by omega)).mono ?_
    rintro e w3 ⟨rfl, rfl⟩
    go_wp2_with fail
    refine (dby_any 1970 _ (by omega) (by omega)).mono ?_
    rintro e w3' ⟨rfl, hw3⟩
    subst hw3
    rw [dby_1970]
    have d1 := dby_mono h1
    have d2 := dby_mono (show y + 1 ≤ 2200 by omega)
    have dl := lp_01 y
    rw [dby_succ] at d2
    rw [dby_1950] at d1
    rw [dby_2200] at d2
    have HD : Hid (dby y = dby y) := rfl
    go_wp2_with fail
    refine (months_any y _ (by omega) (by omega)).mono ?_
    rintro e w4 ⟨rfl, hb4⟩
    have B4 : Hid (Below w.heap.size w w4) := Below.step BB.out hb4
    replace r0 := (hb4.cell (p := ⟨w.heap.size, 0, none⟩) bw2).trans r0
    replace r1 := (hb4.cell (p := ⟨w.heap.size, 1, none⟩) bw2).trans r1
    replace r2 := (hb4.cell (p := ⟨w.heap.size, 2, none⟩) bw2).trans r2
    replace r3 := (hb4.cell (p := ⟨w.heap.size, 3, none⟩) bw2).trans r3
    replace r4 := (hb4.cell (p := ⟨w.heap.size, 4, none⟩) bw2).trans r4
    replace r5 := (hb4.cell (p := ⟨w.heap.size, 5, none⟩) bw2).trans r5
    have bw4 : w.heap.size < w4.heap.size := Nat.lt_of_lt_of_le bw2 hb4.size
    clear hb4 bw2
    have MC := Lib.hid (fun k (h1 : 1 ≤ k) (h2 : k ≤ 12) => (new_cell w4 (mlCells (28 + lp y)) 37 (k - 1).toNat).trans (ml_at y k h1 h2))
    simp only [mlCells] at MC ⊢
    go_wp2
    have l0 := (World.cell?_alloc_lt w4 (.cells (mlCells (28 + lp y)) 37) ⟨w.heap.size, 0, none⟩ bw4).trans r0
    have l1 := (World.cell?_alloc_lt w4 (.cells (mlCells (28 + lp y)) 37) ⟨w.heap.size, 1, none⟩ bw4).trans r1
    have l2 := (World.cell?_alloc_lt w4 (.cells (mlCells (28 + lp y)) 37) ⟨w.heap.size, 2, none⟩ bw4).trans r2
    have l3 := (World.cell?_alloc_lt w4 (.cells (mlCells (28 + lp y)) 37) ⟨w.heap.size, 3, none⟩ bw4).trans r3
    have l4 := (World.cell?_alloc_lt w4 (.cells (mlCells (28 + lp y)) 37) ⟨w.heap.size, 4, none⟩ bw4).trans r4
    have l5 := (World.cell?_alloc_lt w4 (.cells (mlCells (28 + lp y)) 37) ⟨w.heap.size, 5, none⟩ bw4).trans r5
    have B5 := Lib.hid (B4.out.alloc B4.out.size (.cells (mlCells (28 + lp y)) 37))
    simp only [mlCells] at l0 l1 l2 l3 l4 l5 B5
    clear r0 r1 r2 r3 r4 r5 B4 BB
    generalize w4.alloc (.cells #[.int .i64 31, .int .i64 (28 + lp y), .int .i64 31, .int .i64 30, .int .i64 31, .int .i64 30, .int .i64 31, .int .i64 31, .int .i64 30, .int .i64 31, .int .i64 30, .int .i64 31] 37) = w5 at l0 l1 l2 l3 l4 l5 B5 MC ⊢
    go_loop [4, 6] (fun t k => ∃ n : Int, 1 ≤ n ∧ n ≤ m ∧ k = .int .i64 n ∧ t = .int .i64 (dby y - 719162 + cum y n)) (fun _ k => (12 - intOf k).toNat)
    case atStart => exact ⟨1, by omega, by omega, rfl, by rw [cum_one, Int.add_zero]⟩
    case round =>
      obtain ⟨n, hn1, hn2, rfl, rfl⟩ := hrel
      have c1 := cum_mono (y := y) hn1
      have c2 := cum_mono (y := y) (show n ≤ 13 by omega)
      rw [cum_one] at c1
      rw [cum_end] at c2
      by_cases hlt : n < m
      · have CS := Lib.hid (cum_succ y n hn1 (by omega))
        have mc := MC.out n hn1 (by omega)
        have mr := ml_rng y n
        have mc2 : w5.cell? ⟨w4.heap.size, n.toNat - 1, none⟩ = some (.int .i64 (ml y n)) := by rw [show n.toNat - 1 = (n - 1).toNat by omega]; exact mc
        go_wp2
        go_round
        case rel => exact ⟨n + 1, by omega, by omega, rfl, by rw [CS.out]; go_num⟩
        case measure => simp [intOf]; omega
      · obtain rfl : n = m := by omega
        have HS : Hid (secs ⟨y, n, d, h, i, s⟩ = (dby y - 719162 + cum y n + (d - 1)) * 86400 + (h * 3600 + i * 60 + s)) := by unfold Hid secs D6.days D6.clk; simp only; omega
        have hl := ml_rng y n
        clear MC RG
        go_wp2
        go_ret2
        exact ⟨by rw [RS.out, HS.out, OT.out]; go_num, B5.out⟩
  · have OF := Lib.hid (okB_false hok)
    rw [OF.out] at C
    have RS : Hid (secsR ⟨y, m, d, h, i, s⟩ = 0) := by unfold Hid secsR; rw [if_neg (by rw [OF.out]; simp)]
    clear hok
    go_enter Try.func9, Try.ntmps9
    go_wp2_with fail
    refine (C.out _).mono ?_
    rintro e w2 ⟨rfl, hb2⟩
    go_wp2
    go_ret2
    exact ⟨by rw [RS.out, OF.out]; rfl, Below.step B0.out hb2⟩

end Go.Proofs.Ytebefamnmmbdnaa
