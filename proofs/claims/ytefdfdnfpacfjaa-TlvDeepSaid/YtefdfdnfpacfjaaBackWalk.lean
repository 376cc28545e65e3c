/-
  The walk of the law TlvBack.
-/
import Derived.Test.YtefdfdnfpacfjaaReadsWalk
import Derived.Test.YtefdfdnfpacfjaaTAwake
namespace Go.Proofs.Ytefdfdnfpacfjaa
open Go.RowKit
set_option linter.unusedVariables false

theorem read_errs {l : List Int} {z : Int} (h : readZ l = .error z) : 2 ≤ z ∧ z ≤ 5 := by
  unfold readZ at h
  split at h
  · cases h; omega
  split at h
  · rename_i he
    cases h
    have := elemC_err he
    omega
  split at h
  · cases h
  · cases h; omega
theorem write_errs {t : T} {xb : List Int} {xe : Int} (h : writeZ t = (xb, xe)) (h0 : ¬ xe = 0) : xb = [] ∧ 2 ≤ xe ∧ xe ≤ 5 := by
  unfold writeZ at h
  split at h
  · cases h; exact ⟨rfl, by omega, by omega⟩
  split at h
  · cases h; exact ⟨rfl, by omega, by omega⟩
  split at h
  · cases h; exact ⟨rfl, by omega, by omega⟩
  · cases h; exact absurd rfl h0

set_option maxHeartbeats 4000000 in
set_option maxRecDepth 100000 in
theorem back_walk (t : T) (v : Value) (a1 : Option Addr) (len1 cap1 : Nat) (zs : List Int) (w : World) (hin : t.In w v) (hr : Row w a1 len1 zs) (hm : len1 ≤ maxLen) (hnc : len1 ≤ cap1) (hnil : a1 = none → cap1 = 0) :
    Calls Try.prog 5 #[v, .slice a1 len1 cap1] w fun e w' => e = .returned (.bool true) ∧ Below w.heap.size w w' := by
  obtain ⟨A, n, c, K, m, d, rfl, _⟩ := hin.open
  unfold maxLen at hm
  have RD := Lib.hid tread_any
  have NI := Lib.hid hnil
  have HZ := Lib.hid hr.1
  have I0 := Lib.hid (T.In.below ((Below.refl _ _).alloc (Nat.le_refl _) (.cells #[.int .i64 t.tag, .slice A n c, .slice K m d] 26)) _ hin)
  have K0 := Lib.hid (Blk.new w 26 #[.int .i64 t.tag, .slice A n c, .slice K m d])
  have B0 : Hid (Below w.heap.size w (w.alloc (.cells #[.int .i64 t.tag, .slice A n c, .slice K m d] 26))) := (Below.refl _ _).alloc (Nat.le_refl _) _
  have R0 := Lib.hid hr
  clear hin hr hnil
  go_enter Try.func5, Try.ntmps5
  go_wp2_with fail
  refine (awake_any _).mono ?_
  rintro e w2 ⟨rfl, hb2⟩
  have R2 := Lib.hid ((R0.out.below B0.out).below hb2)
  have B2 := Lib.hid (Below.step B0.out hb2)
  have K2 := Lib.hid (K0.out.below hb2 (by simp))
  have I2 := Lib.hid (T.In.below hb2 _ I0.out)
  obtain ⟨p0, p1, p2, _, _, _⟩ := K2.out.facts
  clear hb2 B0 K0 I0 R0
  go_wp2_with fail
  refine (light_any t _ _ I2.out).mono ?_
  rintro e w3 ⟨rfl, hb3⟩
  have R3 := Lib.hid (R2.out.below hb3)
  have B3 := Lib.hid (Below.step B2.out hb3)
  have K3 := Lib.hid (K2.out.below hb3 (Blk.lt K2.out))
  have I3 := Lib.hid (T.In.below hb3 _ I2.out)
  clear p0 p1 p2 hb3 B2 K2 I2 R2
  rcases Bool.eq_false_or_eq_true (lightT t) with hl | hl
  rotate_left
  · rw [hl]
    clear hl
    go_wp2
    go_ret
    exact ⟨rfl, B3.out⟩
  have hwt := (light_wt hl).1
  rw [hl]
  clear hl
  by_cases h5 : 5000 < len1
  · go_wp2
    go_ret
    exact ⟨rfl, B3.out⟩
  obtain ⟨p0, p1, p2, _, _, _⟩ := K3.out.facts
  obtain ⟨xb, xe, hX⟩ : ∃ xb xe, writeZ t = (xb, xe) := ⟨_, _, rfl⟩
  go_wp2_with fail
  refine (twrite_any t _ _ I3.out hwt).mono ?_
  intro e w4 h4
  rw [hX] at h4
  obtain ⟨a4, c4, rfl, hr4, hn4, hb4, hlc4⟩ := h4
  simp only at hr4 hb4 hlc4 ⊢
  have R4 := Lib.hid (R3.out.below hb4)
  have Q4 := Lib.hid hr4
  have B4 := Lib.hid (Below.step B3.out hb4)
  have K4 := Lib.hid (K3.out.below hb4 (Blk.lt K3.out))
  have I4 := Lib.hid (T.In.below hb4 _ I3.out)
  have N4 := Lib.hid hn4
  clear p0 p1 p2 hr4 hn4 hb4 B3 K3 I3 R3
  by_cases h0 : xe = 0
  · subst h0
    have hX2 : (writeZ t).2 = 0 := by rw [hX]
    have RW := Lib.hid (read_write hX2)
    have WS := write_sound hX2
    have hxb : xb = layT t := congrArg Prod.fst (hX.symm.trans WS.2.2.2)
    have HLN : Hid ((xb.length : Int) = bytesT t) := by rw [hxb]; exact lay_len t WS.1
    have hl2 : xb.length ≤ 20000 := by have := HLN.out; omega
    rw [hX] at RW
    clear hX hX2 WS hxb
    go_wp2_with fail
    refine (RD.out _ _ _ _ _ Q4.out hlc4 (by omega) N4.out).mono ?_
    intro e w5 h5'
    obtain ⟨hb5, A5, n5, c5, K5, m5, d5, rfl, hin5⟩ := read_one h5'
    rw [RW.out] at hin5 ⊢
    simp only [errOf, treeOf] at hin5 ⊢
    have hbb : Below w4.heap.size w4 (w5.alloc (.cells #[.int .i64 t.tag, .slice A5 n5 c5, .slice K5 m5 d5] 26)) := Below.step hb5 ((Below.refl _ _).alloc (Nat.le_refl _) _)
    have J5 := Lib.hid (T.In.below ((Below.refl _ _).alloc (Nat.le_refl _) (.cells #[.int .i64 t.tag, .slice A5 n5 c5, .slice K5 m5 d5] 26)) _ hin5)
    have R5 := Lib.hid (R4.out.below hbb)
    have B5 := Lib.hid (Below.step B4.out hbb)
    have K5' := Lib.hid (K4.out.below hbb (Blk.lt K4.out))
    have I5 := Lib.hid (T.In.below hbb _ I4.out)
    have L5 := Lib.hid (Blk.new w5 26 #[.int .i64 t.tag, .slice A5 n5 c5, .slice K5 m5 d5])
    obtain ⟨p0, p1, p2, _, _, _⟩ := K5'.out.facts
    obtain ⟨q0, q1, q2, _, _, _⟩ := L5.out.facts
    clear h5' hb5 hin5 hbb R4 Q4 B4 K4 I4 RW N4
    go_wp2_with fail
    refine (same_any t t _ _ _ J5.out I5.out).mono ?_
    rintro e w6 ⟨rfl, hb6⟩
    have SR := Lib.hid (same_refl t)
    rw [SR.out]
    have R6 := Lib.hid (R5.out.below hb6)
    have B6 := Lib.hid (Below.step B5.out hb6)
    have K6 := Lib.hid (K5'.out.below hb6 (Blk.lt K5'.out))
    have I6 := Lib.hid (T.In.below hb6 _ I5.out)
    clear p0 p1 p2 q0 q1 q2
    obtain ⟨p0, p1, p2, _, _, _⟩ := K6.out.facts
    clear hb6 R5 B5 K5' I5 L5 J5 SR
    go_wp2_with fail
    refine (tsize_any t _ _ I6.out hwt).mono ?_
    rintro e w7 ⟨rfl, hb7⟩
    have R7 := Lib.hid (R6.out.below hb7)
    have B7 := Lib.hid (Below.step B6.out hb7)
    clear p0 p1 p2 hb7 R6 B6 K6 I6
    have t7 : ((xb.length : Int) != bytesT t) = false := by rw [HLN.out]; simp
    clear HLN
    go_wp2_with fail
    refine (RD.out _ _ _ _ _ (R7.out) hnc (by omega) NI.out).mono ?_
    intro e w9 h9
    obtain ⟨hb9, A9, n9, c9, K9, m9, d9, rfl, hin9⟩ := read_one h9
    clear h9
    have HB9 := Lib.hid hb9
    cases hq : readZ zs with
    | error z =>
      have zr := read_errs hq
      have t9 : (z != 0) = true := by simp; omega
      rw [hq] at hin9
      simp only [errOf, treeOf] at hin9 ⊢
      have B9 := Lib.hid (Below.step (Below.step B7.out hb9) ((Below.refl w9.heap.size w9).alloc (Nat.le_refl _) (.cells #[.int .i64 0, .slice A9 n9 c9, .slice K9 m9 d9] 26)))
      clear hb9 hin9 hq HB9 R7 B7 zr
      go_wp2
      go_ret
      exact ⟨rfl, B9.out⟩
    | ok t9 =>
      rw [hq] at hin9
      simp only [errOf, treeOf] at hin9 ⊢
      have WZ := Lib.hid (write_read R7.out.2.1 hq).1
      have I9 := Lib.hid (T.In.below ((Below.refl _ _).alloc (Nat.le_refl _) (.cells #[.int .i64 t9.tag, .slice A9 n9 c9, .slice K9 m9 d9] 26)) _ hin9)
      have B9 := Lib.hid (Below.step (Below.step B7.out hb9) ((Below.refl w9.heap.size w9).alloc (Nat.le_refl _) (.cells #[.int .i64 t9.tag, .slice A9 n9 c9, .slice K9 m9 d9] 26)))
      have R9 := Lib.hid ((R7.out.below HB9.out).below ((Below.refl w9.heap.size w9).alloc (Nat.le_refl _) (.cells #[.int .i64 t9.tag, .slice A9 n9 c9, .slice K9 m9 d9] 26)))
      clear hb9 hin9 hq HB9 R7 B7
      go_wp2_with fail
      refine (twrite_any t9 _ _ I9.out (wt_of_write (by rw [WZ.out]))).mono ?_
      intro e w10 h10
      rw [WZ.out] at h10
      obtain ⟨a10, c10, rfl, hr10, hn10, hb10, hlc10⟩ := h10
      have kc := conv_at c10 hr10
      have kd := conv_at cap1 (R9.out.below hb10)
      have B10 := Lib.hid (Below.step B9.out hb10)
      rw [HZ.out] at kc
      simp only [HZ.out]
      clear hr10 hn10 hb10 hlc10 I9 R9 B9 WZ
      go_wp2
      go_ret
      exact ⟨by simp, B10.out⟩
  · obtain ⟨hxb, hx1, hx2⟩ := write_errs hX h0
    subst hxb
    have t4 : (xe == 0) = false := by simpa using h0
    clear hX h0
    go_wp2_with fail
    refine (RD.out _ _ _ _ _ (R4.out) hnc (by omega) NI.out).mono ?_
    intro e w9 h9
    obtain ⟨hb9, A9, n9, c9, K9, m9, d9, rfl, hin9⟩ := read_one h9
    clear h9
    have HB9 := Lib.hid hb9
    cases hq : readZ zs with
    | error z =>
      have zr := read_errs hq
      have t9 : (z != 0) = true := by simp; omega
      rw [hq] at hin9
      simp only [errOf, treeOf] at hin9 ⊢
      have B9 := Lib.hid (Below.step (Below.step B4.out hb9) ((Below.refl w9.heap.size w9).alloc (Nat.le_refl _) (.cells #[.int .i64 0, .slice A9 n9 c9, .slice K9 m9 d9] 26)))
      clear hb9 hin9 hq HB9 R4 B4 zr
      go_wp2
      go_ret
      exact ⟨rfl, B9.out⟩
    | ok t9 =>
      rw [hq] at hin9
      simp only [errOf, treeOf] at hin9 ⊢
      have WZ := Lib.hid (write_read R4.out.2.1 hq).1
      have I9 := Lib.hid (T.In.below ((Below.refl _ _).alloc (Nat.le_refl _) (.cells #[.int .i64 t9.tag, .slice A9 n9 c9, .slice K9 m9 d9] 26)) _ hin9)
      have B9 := Lib.hid (Below.step (Below.step B4.out hb9) ((Below.refl w9.heap.size w9).alloc (Nat.le_refl _) (.cells #[.int .i64 t9.tag, .slice A9 n9 c9, .slice K9 m9 d9] 26)))
      have R9 := Lib.hid ((R4.out.below HB9.out).below ((Below.refl w9.heap.size w9).alloc (Nat.le_refl _) (.cells #[.int .i64 t9.tag, .slice A9 n9 c9, .slice K9 m9 d9] 26)))
      clear hb9 hin9 hq HB9 R4 B4
      go_wp2_with fail
      refine (twrite_any t9 _ _ I9.out (wt_of_write (by rw [WZ.out]))).mono ?_
      intro e w10 h10
      rw [WZ.out] at h10
      obtain ⟨a10, c10, rfl, hr10, hn10, hb10, hlc10⟩ := h10
      have kc := conv_at c10 hr10
      have kd := conv_at cap1 (R9.out.below hb10)
      have B10 := Lib.hid (Below.step B9.out hb10)
      rw [HZ.out] at kc
      simp only [HZ.out]
      clear hr10 hn10 hb10 hlc10 I9 R9 B9 WZ
      go_wp2
      go_ret
      exact ⟨by simp, B10.out⟩
end Go.Proofs.Ytefdfdnfpacfjaa
