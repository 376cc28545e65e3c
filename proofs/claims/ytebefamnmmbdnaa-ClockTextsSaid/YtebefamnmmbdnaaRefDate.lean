/-
  What the reference's Date answers, for stage 3 (clock).
-/
import Derived.Test.YtebefamnmmbdnaaRef
namespace Go.Proofs.Ytebefamnmmbdnaa
open Go.RowKit

theorem rdays_one (y : Int) (w : World) (hy1 : 1950 ≤ y) (hy2 : y ≤ 2200) : Calls Try.prog 25 #[.int .i64 y, .int .i64 1, .int .i64 1] w fun e w' => e = .returned (.int .i64 (dby y - 711857)) ∧ Below w.heap.size w w' :=
  (rdays_any y 1 1 w hy1 hy2 (by omega) (by omega) (by omega) (by omega)).mono fun _ _ ⟨he, hb⟩ => ⟨by rw [he, cum_one]; exact same_int (by omega), hb⟩

/-- What goes through the loops unchanged. -/
def Kept (w wr : World) : Prop := Blk wr w.heap.size 22 (d6c 0 0 0 0 0 0) ∧ Below w.heap.size w wr
theorem Kept.below {w wr w' : World} (h : Kept w wr) (hb : Below wr.heap.size wr w') : Kept w w' := ⟨h.1.below hb h.1.lt, h.2.trans (hb.mono h.2.size)⟩

theorem date_of_day' {n t s y m d : Int} (h : IsDay n y m d) (h0 : 0 ≤ t) (h1 : t < 86400) (hs : s = (n - 7305) * 86400 + t) : IsDate s ⟨y, m, d, t / 3600, t / 60 % 60, t % 60⟩ := by
  have := date_of_day h h0 h1 hs
  rw [show t % 3600 / 60 = t / 60 % 60 by omega] at this
  exact this

set_option maxRecDepth 100000 in
set_option maxHeartbeats 4000000 in
theorem rdate_any (s : Int) (w : World) : Calls Try.prog 12 #[.int .i64 s] w (GivesDate w s) := by
  have K0 := Lib.hid (Blk.new w 22 (d6c 0 0 0 0 0 0))
  have KB := Lib.hid ((Below.refl w.heap.size w).alloc (Nat.le_refl _) (.cells (d6c 0 0 0 0 0 0) 22))
  simp only [d6c] at K0 KB
  by_cases hlo : s < -631152000
  · have t1 : decide (s < -631152000) = true := by simpa using hlo
    go_enter Try.func12, Try.ntmps12
    go_wp2_with fail
    refine (rdays_one 1970 _ (by omega) (by omega)).mono ?_
    rintro e w1 ⟨rfl, hb1⟩
    rw [dby_1970]
    have KP : Hid (Kept w w1) := Lib.hid ⟨K0.out.below hb1 (by simp), Below.step KB.out hb1⟩
    clear hb1 K0 KB
    go_wp2_with (refine wpList_store_rowTo rfl 22 (.tmp 2) (.tmp 19) rfl rfl w.heap.size (d6c 0 0 0 0 0 0) rfl rfl 22 (d6c 0 0 0 0 0 0) KP.out.1 (Try.size22 ..) rfl (d6c_one ..) ?_)
    exact bodyPost_ret (results_row_tmp rfl _ _ w.heap.size 22 (d6c 0 0 0 0 0 0) (0, 0) (.array 6 3) rfl (setRow_heap _ _ _ _ 22 _ KP.out.1) Try.underlying22 rfl (Try.size22 ..)) rfl ⟨zeroD, false, .inr ⟨rfl, rfl, .inl hlo⟩, rfl, below_setRow KP.out.2 (Nat.le_refl _) _⟩
  · have t1 : decide (s < -631152000) = false := by simpa using hlo
    by_cases hhi : 7258118399 < s
    · have t2 : decide (7258118399 < s) = true := by simpa using hhi
      go_enter Try.func12, Try.ntmps12
      go_wp2_with fail
      refine (rdays_one 1970 _ (by omega) (by omega)).mono ?_
      rintro e w1 ⟨rfl, hb1⟩
      rw [dby_1970]
      have KP : Hid (Kept w w1) := Lib.hid ⟨K0.out.below hb1 (by simp), Below.step KB.out hb1⟩
      clear hb1 K0 KB
      go_wp2_with (refine wpList_store_rowTo rfl 22 (.tmp 2) (.tmp 19) rfl rfl w.heap.size (d6c 0 0 0 0 0 0) rfl rfl 22 (d6c 0 0 0 0 0 0) KP.out.1 (Try.size22 ..) rfl (d6c_one ..) ?_)
      exact bodyPost_ret (results_row_tmp rfl _ _ w.heap.size 22 (d6c 0 0 0 0 0 0) (0, 0) (.array 6 3) rfl (setRow_heap _ _ _ _ 22 _ KP.out.1) Try.underlying22 rfl (Try.size22 ..)) rfl ⟨zeroD, false, .inr ⟨rfl, rfl, .inr hhi⟩, rfl, below_setRow KP.out.2 (Nat.le_refl _) _⟩
    · have t2 : decide (7258118399 < s) = false := by simpa using hhi
      have hp0 : 0 ≤ s + 631152000 := by omega
      have hp1 : s + 631152000 < 7889270400 := by omega
      go_enter Try.func12, Try.ntmps12
      go_wp2_with fail
      refine (rdays_one 1970 _ (by omega) (by omega)).mono ?_
      rintro e w1 ⟨rfl, hb1⟩
      rw [dby_1970]
      have KP : Hid (Kept w w1) := Lib.hid ⟨K0.out.below hb1 (by simp), Below.step KB.out hb1⟩
      clear hb1 K0 KB
      go_wp2
      have hn0 : 0 ≤ (s + 631152000) / 86400 := by omega
      have hn1 : (s + 631152000) / 86400 ≤ 91310 := by omega
      have ht0 : 0 ≤ (s + 631152000) % 86400 := by omega
      have ht1 : (s + 631152000) % 86400 < 86400 := by omega
      have HS : Hid (s = ((s + 631152000) / 86400 - 7305) * 86400 + (s + 631152000) % 86400) := Lib.hid (by omega)
      clear t1 t2 hlo hhi hp0 hp1
      generalize (s + 631152000) / 86400 = n at hn0 hn1 HS ⊢
      generalize (s + 631152000) % 86400 = t at ht0 ht1 HS ⊢
      go_loopw [5, 7] (fun a k wr => ∃ y : Int, 1950 ≤ y ∧ y ≤ 2199 ∧ dby y - 711857 ≤ n ∧ k = .int .i64 y ∧ a = .int .i64 (n - (dby y - 711857)) ∧ Kept w wr) (fun a _ _ => (intOf a).toNat)
      case atStart => exact ⟨1950, by omega, by omega, by rw [dby_1950]; omega, rfl, by rw [dby_1950]; simp, KP.out⟩
      case round =>
        obtain ⟨y, hy1, hy2, hy3, rfl, rfl, hk⟩ := hrel
        have KR := Lib.hid hk
        clear hk KP
        have dm := dby_mono hy1
        rw [dby_1950] at dm
        have dm' := dby_mono (show y ≤ 2200 by omega)
        rw [dby_2200] at dm'
        have DS := Lib.hid (dby_succ y)
        have dl := lp_01 y
        by_cases hge : 365 + lp y ≤ n - (dby y - 711857)
        · have hy' : y + 1 ≤ 2199 := by
            rcases (show y < 2199 ∨ 2199 ≤ y by omega) with h | h
            · omega
            · have := dby_mono (show 2200 ≤ y + 1 by omega)
              rw [dby_2200, DS.out] at this
              omega
          have e1 : dby y + 365 + lp y - 711857 - (dby y - 711857) = 365 + lp y := by omega
          go_wp2_with fail
          refine (rdays_one (y + 1) _ (by omega) (by omega)).mono ?_
          rintro e wA ⟨rfl, hbA⟩
          have KA := Lib.hid (KR.out.below hbA)
          clear hbA
          go_wp2_with fail
          refine (rdays_one y _ (by omega) (by omega)).mono ?_
          rintro e wB ⟨rfl, hbB⟩
          have KQ := Lib.hid (KA.out.below hbB)
          clear hbB KA
          rw [DS.out]
          go_wp2_with fail
          refine (rdays_one (y + 1) _ (by omega) (by omega)).mono ?_
          rintro e wA ⟨rfl, hbA⟩
          have KA := Lib.hid (KQ.out.below hbA)
          clear hbA
          go_wp2_with fail
          refine (rdays_one y _ (by omega) (by omega)).mono ?_
          rintro e wB ⟨rfl, hbB⟩
          have KS := Lib.hid (KA.out.below hbB)
          clear hbB KA KQ
          rw [DS.out]
          go_wp2
          go_roundw
          case rel => exact ⟨y + 1, by omega, hy', by rw [DS.out]; omega, rfl, by rw [DS.out]; go_num, KS.out⟩
          case measure => simp [intOf]; omega
        · have hlt : n - (dby y - 711857) < 365 + lp y := by omega
          have e1 : dby y + 365 + lp y - 711857 - (dby y - 711857) = 365 + lp y := by omega
          go_wp2_with fail
          refine (rdays_one (y + 1) _ (by omega) (by omega)).mono ?_
          rintro e wA ⟨rfl, hbA⟩
          have KA := Lib.hid (KR.out.below hbA)
          clear hbA
          go_wp2_with fail
          refine (rdays_one y _ (by omega) (by omega)).mono ?_
          rintro e wB ⟨rfl, hbB⟩
          have KQ := Lib.hid (KA.out.below hbB)
          clear hbB KA
          rw [DS.out]
          go_wp2
          obtain ⟨r, HR⟩ : ∃ r, r = n - (dby y - 711857) := ⟨_, rfl⟩
          rw [← HR]
          have hr0 : 0 ≤ r := by omega
          have hr1 : r < 365 + lp y := by omega
          have HRH := Lib.hid HR
          clear HR hge hlt e1
          go_loopw [5, 8] (fun a k wr => ∃ m : Int, 1 ≤ m ∧ m ≤ 12 ∧ cum y m ≤ r ∧ k = .int .i64 m ∧ a = .int .i64 (r - cum y m) ∧ Kept w wr) (fun a _ _ => (intOf a).toNat)
          case atStart => exact ⟨1, by omega, by omega, by rw [cum_one]; omega, rfl, by rw [cum_one]; simp, KQ.out⟩
          case round =>
            obtain ⟨m, hm1, hm2, hm3, rfl, rfl, hk⟩ := hrel
            have KM := Lib.hid hk
            clear hk KQ KR
            have c0 := cum_mono (y := y) hm1
            rw [cum_one] at c0
            have mr := ml_rng y m
            have CS := Lib.hid (cum_succ y m hm1 hm2)
            by_cases hge' : ml y m ≤ r - cum y m
            · have hm' : m ≤ 11 := by
                rcases (show m ≤ 11 ∨ m = 12 by omega) with h | h
                · exact h
                · have e := CS.out
                  rw [h, show (12 : Int) + 1 = 13 from rfl, cum_end] at e
                  rw [h] at hge'
                  omega
              go_wp2_with fail
              refine (last_any y m _ (by omega) (by omega) hm1 hm2).mono ?_
              rintro e wA ⟨rfl, hbA⟩
              have KA := Lib.hid (KM.out.below hbA)
              clear hbA
              go_wp2_with fail
              refine (last_any y m _ (by omega) (by omega) hm1 hm2).mono ?_
              rintro e wB ⟨rfl, hbB⟩
              have KC := Lib.hid (KA.out.below hbB)
              clear hbB KA
              go_wp2
              go_roundw
              case rel => exact ⟨m + 1, by omega, by omega, by rw [CS.out]; omega, rfl, by rw [CS.out]; go_num, KC.out⟩
              case measure => simp [intOf]; omega
            · have hlt' : r - cum y m < ml y m := by omega
              go_wp2_with fail
              refine (last_any y m _ (by omega) (by omega) hm1 hm2).mono ?_
              rintro e wA ⟨rfl, hbA⟩
              have KA := Lib.hid (KM.out.below hbA)
              clear hbA
              have ID : Hid (IsDay n y m (r - cum y m + 1)) := by have := HRH.out; unfold Hid IsDay; omega
              have DD := Lib.hid (date_of_day' ID.out ht0 ht1 HS.out)
              have KA1 : Hid (wA.heap[w.heap.size]? = some (.cells (d6c 0 0 0 0 0 0) 22 (0, 0))) := KA.out.1
              go_wp2_with (refine wpList_store_rowTo rfl 22 (.tmp 2) (.tmp 69) rfl rfl w.heap.size (d6c y m (r - cum y m + 1) (t / 3600) (t / 60 % 60) (t % 60)) rfl rfl 22 (d6c 0 0 0 0 0 0) KA1.out (Try.size22 ..) rfl (d6c_one ..) ?_)
              exact bodyPost_ret (results_row_tmp rfl _ _ w.heap.size 22 (d6c y m (r - cum y m + 1) (t / 3600) (t / 60 % 60) (t % 60)) (0, 0) (.array 6 3) rfl (setRow_heap _ _ _ _ 22 _ KA1.out) Try.underlying22 rfl (Try.size22 ..)) rfl ⟨_, true, .inl ⟨rfl, DD.out⟩, rfl, below_setRow KA.out.2 (Nat.le_refl _) _⟩

end Go.Proofs.Ytebefamnmmbdnaa
