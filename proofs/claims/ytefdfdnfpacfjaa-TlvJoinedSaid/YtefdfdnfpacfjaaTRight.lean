/-
  What the package's isWellFormed answers, for stage 4 (tlv).
-/
import Derived.Test.YtefdfdnfpacfjaaTSize
import Derived.Test.YtefdfdnfpacfjaaRight
namespace Go.Proofs.Ytefdfdnfpacfjaa
open Go.RowKit

set_option maxHeartbeats 4000000 in
theorem tright_any (t : T) : ∀ (v : Value) (w : World), t.In w v → Calls Try.prog 21 #[v] w fun e w' => e = .returned (.bool (rightT t)) ∧ Below w.heap.size w w' := by
  refine T.each (p := fun t => ∀ (v : Value) (w : World), t.In w v → Calls Try.prog 21 #[v] w fun e w' => e = .returned (.bool (rightT t)) ∧ Below w.heap.size w w') ?_ t
  clear t
  intro t ih v w hin
  obtain ⟨A, n, c, K, m, d, rfl, hw, hr, hn, hc, hm, hm', hks⟩ := hin.open
  have BX := Lib.hid (Box.start hin)
  have IH := Lib.hid ih
  have HM := Lib.hid hm
  have BL := Lib.hid hr.1
  have ER := Lib.hid (rightT_eq t)
  clear hin ih hr hc hm hks
  unfold maxLen at hn hm'
  cases htg : tagB t.tag
  · have TG := Lib.hid htg
    have F : Hid (rightT t = false) := by rw [ER.out, htg]; rfl
    clear htg
    go_enter Try.func21, Try.ntmps21
    go_wp2_with fail
    refine (ttag_any t.tag _ hw).mono ?_
    rintro e w2 ⟨rfl, rfl⟩
    rw [TG.out]
    go_wp2_with fail
    go_ret
    exact ⟨ret_bool F.out.symm, BX.out.below⟩
  have TG := Lib.hid htg
  cases hwi : withinB t.tag
  · have F : Hid (rightT t = decide (m = 0)) := by
      rw [ER.out, hwi, htg, HM.out]
      rcases Nat.eq_zero_or_pos m with h | h
      · have : t.kids = [] := List.eq_nil_of_length_eq_zero (by rw [HM.out]; exact h)
        rw [this, rightAll, h]
        simp [Hid]
      · have h2 : ¬ m = 0 := by omega
        simp [h, h2, Hid]
    have WI := Lib.hid hwi
    clear htg hwi
    have t0 : ((m : Int) == 0) = decide (m = 0) := by
      by_cases h : m = 0 <;> simp [h]
    go_enter Try.func21, Try.ntmps21
    go_wp2_with fail
    refine (ttag_any t.tag _ hw).mono ?_
    rintro e w2 ⟨rfl, rfl⟩
    rw [TG.out]
    go_wp2_with fail
    refine (twithin_any t.tag _ hw).mono ?_
    rintro e w2 ⟨rfl, rfl⟩
    rw [WI.out]
    go_wp2_with fail
    go_ret
    exact ⟨ret_bool F.out.symm, BX.out.below⟩
  have key : 0 < n ∨ n = 0 := by omega
  rcases key with h0 | h0
  · have F : Hid (rightT t = false) := by rw [ER.out, hwi, BL.out]; simp [h0, Hid]
    have WI := Lib.hid hwi
    clear htg hwi
    go_enter Try.func21, Try.ntmps21
    go_wp2_with fail
    refine (ttag_any t.tag _ hw).mono ?_
    rintro e w2 ⟨rfl, rfl⟩
    rw [TG.out]
    go_wp2_with fail
    refine (twithin_any t.tag _ hw).mono ?_
    rintro e w2 ⟨rfl, rfl⟩
    rw [WI.out]
    go_wp2_with fail
    go_ret
    exact ⟨ret_bool F.out.symm, BX.out.below⟩
  have SA : Hid (rightT t = rightAll t.kids) := by rw [ER.out, hwi, htg, BL.out, h0]; simp [Hid]
  have WI := Lib.hid hwi
  clear htg hwi
  subst h0
  go_enter Try.func21, Try.ntmps21
  go_wp2_with fail
  refine (ttag_any t.tag _ hw).mono ?_
  rintro e w2 ⟨rfl, rfl⟩
  rw [TG.out]
  go_wp2_with fail
  refine (twithin_any t.tag _ hw).mono ?_
  rintro e w2 ⟨rfl, rfl⟩
  rw [WI.out]
  go_wp2_with fail
  go_loopw [24] (fun i wr => ∃ k : Nat, k ≤ m ∧ i = .int .i64 (k : Int) ∧ rightT t = rightAll (t.kids.drop k) ∧ Box w wr w.heap.size t A 0 c K m d) (fun i _ => m - (intOf i).toNat)
  case atStart => exact ⟨0, by omega, rfl, SA.out, BX.out⟩
  case round =>
    obtain ⟨k, hk, rfl, hs, hbox⟩ := hrel
    have HS := Lib.hid hs
    have HB := Lib.hid hbox
    obtain ⟨g0, g1, g2⟩ := hbox.cells
    clear hs hbox BX SA
    by_cases hlt : k < m
    · obtain ⟨x, bb, off, zz, A', n', c', K', m', d', hx, rfl, c0, c1, c2, hxin⟩ := HB.out.kid k hlt
      have ST := Lib.hid (HS.out.trans (right_kid hx))
      have HB1 := Lib.hid (HB.out.go (boxW_below wr zz A' n' c' K' m' d'))
      have CI := Lib.hid (IH.out x (List.mem_of_getElem? hx) _ (boxW wr zz A' n' c' K' m' d') (T.In.below (boxW_below wr zz A' n' c' K' m' d') _ hxin))
      unfold boxW at HB1 CI
      clear hx hxin HS
      cases hxr : rightT x
      · have F : Hid (rightT t = false) := by rw [ST.out, hxr]; rfl
        rw [hxr] at CI
        clear hxr ST
        go_wp2_with fail
        refine CI.out.mono ?_
        rintro e w2 ⟨rfl, hb2⟩
        have B2 := Lib.hid (Below.step HB1.out.below hb2)
        clear hb2
        go_wp2_with fail
        go_ret
        exact ⟨ret_bool F.out.symm, B2.out⟩
      · have N : Hid (rightT t = rightAll (t.kids.drop (k + 1))) := by rw [ST.out, hxr]; simp [Hid]
        rw [hxr] at CI
        clear hxr ST
        go_wp2_with fail
        refine CI.out.mono ?_
        rintro e w2 ⟨rfl, hb2⟩
        have HB2 := Lib.hid (HB1.out.go hb2)
        clear hb2
        go_wp2_with fail
        go_roundw
        case rel => exact ⟨k + 1, by omega, by go_num, N.out, HB2.out⟩
        case measure => simp [intOf]; omega
    · have F : Hid (rightT t = true) := by rw [HS.out, right_end (by rw [HM.out]; omega)]; exact Lib.hid rfl
      clear HS
      go_wp2_with fail
      go_ret
      exact ⟨ret_bool F.out.symm, HB.out.below⟩

end Go.Proofs.Ytefdfdnfpacfjaa
