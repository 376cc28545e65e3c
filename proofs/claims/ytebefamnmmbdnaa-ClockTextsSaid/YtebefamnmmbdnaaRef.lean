/-
  What the reference's days, right, Seconds and Date answer, for stage 3 (clock).
-/
import Derived.Test.YtebefamnmmbdnaaDate
namespace Go.Proofs.Ytebefamnmmbdnaa
open Go.RowKit

theorem lp_eq (y : Int) : lp y = if lpB y = true then 1 else 0 := rfl

set_option maxHeartbeats 2000000 in
theorem rdays_any (y m d : Int) (w : World) (hy1 : 1950 ≤ y) (hy2 : y ≤ 2200) (hm1 : 1 ≤ m) (hm2 : m ≤ 12) (hd1 : 1 ≤ d) (hd2 : d ≤ 31) :
    Calls Try.prog 25 #[.int .i64 y, .int .i64 m, .int .i64 d] w fun e w' => e = .returned (.int .i64 (d - 1 + (dby y - 711857) + cum y m)) ∧ Below w.heap.size w w' := by
  go_enter Try.func25, Try.ntmps25
  go_wp2
  go_loop [7, 8] (fun t k => ∃ n : Int, 1950 ≤ n ∧ n ≤ y ∧ k = .int .i64 n ∧ t = .int .i64 (d - 1 + (dby n - 711857))) (fun _ k => (2200 - intOf k).toNat)
  case atStart => exact ⟨1950, by omega, by omega, rfl, by rw [dby_1950]; simp⟩
  case round =>
    obtain ⟨n, hn1, hn2, rfl, rfl⟩ := hrel
    have d1 := dby_mono hn1
    have d2 := dby_mono (show n ≤ 2200 by omega)
    rw [dby_1950] at d1
    rw [dby_2200] at d2
    by_cases hlt : n < y
    · have DS := Lib.hid (dby_succ n)
      have LE := Lib.hid (lp_eq n)
      have C := Lib.hid (fun W => rleap_any n W (by omega) (by omega))
      cases hb : lpB n
      · rw [hb] at C LE
        clear hb
        have E : Hid (dby (n + 1) = dby n + 365) := Lib.hid (by rw [DS.out, LE.out, if_neg (by simp), Int.add_zero])
        clear DS LE
        go_wp2_with (go_at_call 36; refine (C.out _).mono ?_; rintro e w1 ⟨rfl, rfl⟩)
        go_round
        case rel => exact ⟨n + 1, by omega, by omega, rfl, by rw [E.out]; go_num⟩
        case measure => simp [intOf]; omega
      · rw [hb] at C LE
        clear hb
        have E : Hid (dby (n + 1) = dby n + 366) := Lib.hid (by rw [DS.out, LE.out, if_pos rfl]; omega)
        clear DS LE
        go_wp2_with (go_at_call 36; refine (C.out _).mono ?_; rintro e w1 ⟨rfl, rfl⟩)
        go_round
        case rel => exact ⟨n + 1, by omega, by omega, rfl, by rw [E.out]; go_num⟩
        case measure => simp [intOf]; omega
    · obtain rfl : n = y := by omega
      go_wp2
      go_loopw [7, 9] (fun t k wr => ∃ q : Int, 1 ≤ q ∧ q ≤ m ∧ k = .int .i64 q ∧ t = .int .i64 (d - 1 + (dby n - 711857) + cum n q) ∧ Below w.heap.size w wr) (fun _ k _ => (12 - intOf k).toNat)
      case atStart => exact ⟨1, by omega, by omega, rfl, by rw [cum_one, Int.add_zero], Below.refl _ _⟩
      case round =>
        obtain ⟨q, hq1, hq2, rfl, rfl, hbel⟩ := hrel
        have HB := Lib.hid hbel
        clear hbel
        have c1 := cum_mono (y := n) hq1
        have c2 := cum_mono (y := n) (show q ≤ 13 by omega)
        have dl := lp_01 n
        rw [cum_one] at c1
        rw [cum_end] at c2
        by_cases hq : q < m
        · have CS := Lib.hid (cum_succ n q hq1 (by omega))
          have mr := ml_rng n q
          go_wp2_with fail
          refine (last_any n q _ (by omega) (by omega) hq1 (by omega)).mono ?_
          rintro e w2 ⟨rfl, hb2⟩
          have HB2 := Lib.hid (HB.out.trans (hb2.mono HB.out.size))
          clear hb2
          go_wp2
          go_roundw
          case rel => exact ⟨q + 1, by omega, by omega, rfl, by rw [CS.out]; go_num, HB2.out⟩
          case measure => simp [intOf]; omega
        · obtain rfl : q = m := by omega
          go_wp2
          go_ret
          exact ⟨rfl, HB.out⟩

end Go.Proofs.Ytebefamnmmbdnaa
