/-
  What the reference's Seconds answers, for stage 3 (clock).
-/
import Derived.Test.YtebefamnmmbdnaaRefRight
namespace Go.Proofs.Ytebefamnmmbdnaa
open Go.RowKit

theorem cum_1970 : cum 1970 1 = 0 := by decide

set_option maxRecDepth 100000 in
set_option maxHeartbeats 2000000 in
theorem rsecs_any (y m d h i s : Int) (w : World) : Calls Try.prog 10 #[.agg #[.int .i64 y, .int .i64 m, .int .i64 d, .int .i64 h, .int .i64 i, .int .i64 s]] w (GivesS w ⟨y, m, d, h, i, s⟩) := by
  have C := Lib.hid (fun W => rright_any y m d h i s W)
  have B0 := Lib.hid ((Below.refl w.heap.size w).alloc (Nat.le_refl _) (.cells #[.int .i64 y, .int .i64 m, .int .i64 d, .int .i64 h, .int .i64 i, .int .i64 s] 22))
  by_cases hok : (⟨y, m, d, h, i, s⟩ : D6).ok
  · have OT := Lib.hid (okB_true hok)
    rw [OT.out] at C
    have RS : Hid (secsR ⟨y, m, d, h, i, s⟩ = secs ⟨y, m, d, h, i, s⟩) := by unfold Hid secsR; rw [if_pos OT.out]
    have dr := D6.days_rng hok
    have HS : Hid (secs ⟨y, m, d, h, i, s⟩ = (d - 1 + (dby y - 711857) + cum y m - (1 - 1 + (dby 1970 - 711857) + cum 1970 1)) * 86400 + (h * 3600 + i * 60 + s)) := by
      unfold Hid secs D6.days D6.clk
      rw [dby_1970, cum_1970]
      simp only
      omega
    have hr : 0 ≤ d - 1 + (dby y - 711857) + cum y m ∧ d - 1 + (dby y - 711857) + cum y m ≤ 91310 := by
      unfold D6.days at dr
      simp only at dr
      omega
    clear dr
    obtain ⟨h1, h2, h3, h4, h5, h6, h7, h8, h9, h10, h11, h12⟩ := hok
    simp only at h1 h2 h3 h4 h5 h6 h7 h8 h9 h10 h11 h12
    have hl := ml_rng y m
    have K := Lib.hid (Blk.new w 22 (d6c y m d h i s))
    simp only [d6c] at K
    go_enter Try.func10, Try.ntmps10
    go_wp2_with fail
    refine (C.out _).mono ?_
    rintro e w2 ⟨rfl, hb2⟩
    have K2 : Hid (Blk w2 w.heap.size 22 (d6c y m d h i s)) := Lib.hid (K.out.below hb2 (by simp))
    have BB : Hid (Below w.heap.size w w2) := Below.step B0.out hb2
    clear hb2 C B0 K
    have r0 : w2.cell? ⟨w.heap.size, 0, none⟩ = some (.int .i64 y) := K2.out.cell 0
    have r1 : w2.cell? ⟨w.heap.size, 1, none⟩ = some (.int .i64 m) := K2.out.cell 1
    have r2 : w2.cell? ⟨w.heap.size, 2, none⟩ = some (.int .i64 d) := K2.out.cell 2
    go_wp2_with fail
    refine (rdays_any y m d _ (by omega) (by omega) (by omega) (by omega) (by omega) (by omega)).mono ?_
    rintro e w3 ⟨rfl, hb3⟩
    have K3 := Lib.hid (K2.out.below hb3 K2.out.lt)
    have B3 := Lib.hid (Below.step BB.out hb3)
    clear hb3 K2 BB r0 r1 r2
    go_wp2_with fail
    refine (rdays_any 1970 1 1 _ (by omega) (by omega) (by omega) (by omega) (by omega) (by omega)).mono ?_
    rintro e w4 ⟨rfl, hb4⟩
    have K4 := Lib.hid (K3.out.below hb4 K3.out.lt)
    have B4 := Lib.hid (Below.step B3.out hb4)
    clear hb4 K3 B3
    have r3 : w4.cell? ⟨w.heap.size, 3, none⟩ = some (.int .i64 h) := K4.out.cell 3
    have r4 : w4.cell? ⟨w.heap.size, 4, none⟩ = some (.int .i64 i) := K4.out.cell 4
    have r5 : w4.cell? ⟨w.heap.size, 5, none⟩ = some (.int .i64 s) := K4.out.cell 5
    rw [dby_1970, cum_1970] at HS ⊢
    generalize d - 1 + (dby y - 711857) + cum y m = n at hr HS ⊢
    go_wp2
    go_ret2
    exact ⟨by rw [RS.out, HS.out, OT.out]; go_num, B4.out⟩
  · have OF := Lib.hid (okB_false hok)
    rw [OF.out] at C
    have RS : Hid (secsR ⟨y, m, d, h, i, s⟩ = 0) := by unfold Hid secsR; rw [if_neg (by rw [OF.out]; simp)]
    clear hok
    go_enter Try.func10, Try.ntmps10
    go_wp2_with fail
    refine (C.out _).mono ?_
    rintro e w2 ⟨rfl, hb2⟩
    go_wp2
    go_ret2
    exact ⟨by rw [RS.out, OF.out]; rfl, Below.step B0.out hb2⟩

end Go.Proofs.Ytebefamnmmbdnaa
