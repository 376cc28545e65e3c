/-
  The walk of the law TlvCut.
-/
import Derived.Test.YtefdfdnfpacfjaaBackWalk
import Derived.Test.YtefdfdnfpacfjaaCutT
namespace Go.Proofs.Ytefdfdnfpacfjaa
open Go.RowKit
set_option linter.unusedVariables false

theorem tmod_nat {x : Int} {n : Nat} (h0 : 0 ≤ x) (hn : 0 < n) : ∃ k : Nat, x.tmod (n : Int) = (k : Int) ∧ k < n := by
  rw [Int.tmod_eq_emod_of_nonneg h0]
  have h1 := Int.emod_nonneg x (show (n : Int) ≠ 0 by omega)
  have h2 := Int.emod_lt_of_pos x (show (0 : Int) < n by omega)
  exact ⟨(x % (n : Int)).toNat, by omega, by omega⟩

set_option maxHeartbeats 4000000 in
set_option maxRecDepth 100000 in
theorem cut_walk (t : T) (v : Value) (a1 : Int) (w : World) (hin : t.In w v) (hw1 : (Lit.int .i64 a1).wf = true) :
    Calls Try.prog 6 #[v, .int .i64 a1] w fun e w' => e = .returned (.bool true) ∧ Below w.heap.size w w' := by
  obtain ⟨A, n, c, K, m, d, rfl, _⟩ := hin.open
  have hb1 := bounds_i64 hw1
  have RD := Lib.hid tread_any
  have I0 := Lib.hid (T.In.below ((Below.refl _ _).alloc (Nat.le_refl _) (.cells #[.int .i64 t.tag, .slice A n c, .slice K m d] 26)) _ hin)
  have K0 := Lib.hid (Blk.new w 26 #[.int .i64 t.tag, .slice A n c, .slice K m d])
  have B0 : Hid (Below w.heap.size w (w.alloc (.cells #[.int .i64 t.tag, .slice A n c, .slice K m d] 26))) := (Below.refl _ _).alloc (Nat.le_refl _) _
  clear hin
  go_enter Try.func6, Try.ntmps6
  go_wp2_with fail
  refine (awake_any _).mono ?_
  rintro e w2 ⟨rfl, hb2⟩
  have B2 := Lib.hid (Below.step B0.out hb2)
  have K2 := Lib.hid (K0.out.below hb2 (by simp))
  have I2 := Lib.hid (T.In.below hb2 _ I0.out)
  obtain ⟨p0, p1, p2, _, _, _⟩ := K2.out.facts
  clear hb2 B0 K0 I0
  go_wp2_with fail
  refine (light_any t _ _ I2.out).mono ?_
  rintro e w3 ⟨rfl, hb3⟩
  have B3 := Lib.hid (Below.step B2.out hb3)
  have K3 := Lib.hid (K2.out.below hb3 (Blk.lt K2.out))
  have I3 := Lib.hid (T.In.below hb3 _ I2.out)
  clear p0 p1 p2 hb3 B2 K2 I2
  rcases Bool.eq_false_or_eq_true (lightT t) with hl | hl
  rotate_left
  · rw [hl]
    clear hl
    go_wp2
    go_ret
    exact ⟨rfl, B3.out⟩
  have hwt := (light_wt hl).1
  rw [hl]
  clear hl
  by_cases h5 : a1 < 0
  · go_wp2
    go_ret
    exact ⟨rfl, B3.out⟩
  obtain ⟨p0, p1, p2, _, _, _⟩ := K3.out.facts
  obtain ⟨xb, xe, hX⟩ : ∃ xb xe, writeZ t = (xb, xe) := ⟨_, _, rfl⟩
  go_wp2_with fail
  refine (twrite_any t _ _ I3.out hwt).mono ?_
  intro e w4 h4
  rw [hX] at h4
  obtain ⟨a4, c4, rfl, hr4, hn4, hb4, hlc4⟩ := h4
  simp only at hr4 hb4 hlc4 ⊢
  have Q4 := Lib.hid hr4
  have B4 := Lib.hid (Below.step B3.out hb4)
  have N4 := Lib.hid hn4
  clear p0 p1 p2 hr4 hn4 hb4 B3 K3 I3
  by_cases h0 : xe = 0
  rotate_left
  · obtain ⟨hxb, hx1, hx2⟩ := write_errs hX h0
    subst hxb
    have t4 : (xe != 0) = true := by simpa using h0
    clear hX h0
    go_wp2
    go_ret
    exact ⟨rfl, B4.out⟩
  subst h0
  have hX2 : (writeZ t).2 = 0 := by rw [hX]
  have WS := write_sound hX2
  have hxb : xb = layT t := congrArg Prod.fst (hX.symm.trans WS.2.2.2)
  have hll := lay_len t WS.1
  have hsz := size_le t
  rw [← hxb] at hll
  have hl2 : xb.length ≤ 20000 := by omega
  have hl0 : 2 ≤ xb.length := by omega
  have t5 : ((xb.length : Int) == 0) = false := by simp; intro h; rw [h] at hl0; simp at hl0
  by_cases h6 : xb.length = 20000
  · have t6 : ((xb.length : Int) == 20000) = true := by simp; omega
    have t7 : decide (0 < xb.length) = true := decide_eq_true (by omega)
    clear hX hX2 WS hxb hll hsz h6
    go_wp2
    go_ret
    exact ⟨rfl, B4.out⟩
  have t6 : ((xb.length : Int) == 20000) = false := by simp; omega
  obtain ⟨k, hk, hkl⟩ := tmod_nat (x := a1) (n := xb.length) (by omega) (by omega)
  have RC : Hid (readZ (xb.take k) = .error 3) := by
    have h := read_cut hX2 k (by rw [hX]; exact hkl)
    rw [hX] at h
    exact h
  have RM : Hid (readZ (xb ++ [0]) = .error 2) := by
    have h := read_more hX2 (by rw [hX]; exact h6) 0
    rw [hX] at h
    exact h
  have hbz : Hid (∀ z ∈ xb, 0 ≤ z ∧ z ≤ 255) := Q4.out.2.1
  have hnz : ¬ (xb.length : Int) = 0 := by omega
  have hkc : ¬ c4 = 0 := by omega
  clear hX hX2 WS hxb hll hsz h6
  go_wp2_with fail
  refine (RD.out a4 k c4 _ _ (Q4.out.first k (by omega)) (by omega) (by omega) N4.out).mono ?_
  rintro e w5 ⟨hb5, hways⟩
  rw [RC.out] at hways
  rcases hways with ⟨z, hz, rfl⟩ | ⟨t9, v9, ht, _, _⟩
  rotate_left
  · cases ht
  obtain rfl : (3 : Int) = z := by injection hz
  have Q5 := Lib.hid ((Q4.out.below hb5).below ((Below.refl w5.heap.size w5).alloc (Nat.le_refl _) (.cells #[.int .i64 0, .slice none 0 0, .slice none 0 0] 26)))
  have B5 := Lib.hid (Below.step (Below.step B4.out hb5) ((Below.refl w5.heap.size w5).alloc (Nat.le_refl _) (.cells #[.int .i64 0, .slice none 0 0, .slice none 0 0] 26)))
  have O6 : Hid (Out (w5.alloc (.cells #[.int .i64 0, .slice none 0 0, .slice none 0 0] 26)) ((w5.alloc (.cells #[.int .i64 0, .slice none 0 0, .slice none 0 0] 26)).alloc (.cells #[] 5)) (.slice (some ⟨w5.heap.size + 1, 0, none⟩) 0 0) []) := out_empty
  have Q6 := Lib.hid (Q5.out.below ((Below.refl _ _).alloc (Nat.le_refl _) (.cells #[] 5)))
  clear hb5 hz Q4 B4 RC hk hkl hnz hkc t5 t6 h5 hlc4
  go_wp2_with (at_builtin; first
    | (refine out_append (W0 := w5.alloc (.cells #[.int .i64 0, .slice none 0 0, .slice none 0 0] 26)) (L := []) (zs := xb) rfl (.tmp 61) (.tmp 62) rfl rfl O6.out rfl Q6.out N4.out (by simp; omega) ?_; intro V7 w7 ho7; rw [List.nil_append] at ho7; have O7 := Lib.hid ho7; have P7 := Lib.hid (ho7.below ((Below.refl w7.heap.size w7).alloc (Nat.le_refl _) (.cells #[.int .u8 0] 5))); have Z7 := Lib.hid (row_const w7 [0] (0, 0) (by intro z hz; have : z = 0 := (by simpa using hz); omega)); clear ho7)
    | (go_must (refine out_append (W0 := w5.alloc (.cells #[.int .i64 0, .slice none 0 0, .slice none 0 0] 26)) (L := xb) (zs := [0]) rfl (.tmp 63) (.tmp 64) rfl rfl P7.out rfl Z7.out (fun e => by cases e) (by simp; omega) ?_; intro V8 w8 ho8; obtain ⟨a8, c8, rfl, hr8⟩ := ho8.row (by intro z hz; rcases List.mem_append.1 hz with h | h; exact hbz.out z h; have : z = 0 := (by simpa using h); omega); have R8 := Lib.hid hr8; have N8 := Lib.hid ho8.nilc; have C8 := Lib.hid (own_cap ho8.1); have B8 := Lib.hid (Below.trans B5.out (ho8.2.mono B5.out.size)); clear ho8 hr8; rw [show (xb ++ [(0 : Int)]).length = xb.length + 1 by simp] at R8 C8 ⊢)))
  refine (RD.out _ _ _ _ _ R8.out C8.out (by omega) N8.out).mono ?_
  rintro e w9 ⟨hb9, hways⟩
  rw [RM.out] at hways
  rcases hways with ⟨z, hz, rfl⟩ | ⟨t9, v9, ht, _, _⟩
  rotate_left
  · cases ht
  obtain rfl : (2 : Int) = z := by injection hz
  have B9 := Lib.hid (Below.step (Below.step B8.out hb9) ((Below.refl w9.heap.size w9).alloc (Nat.le_refl _) (.cells #[.int .i64 0, .slice none 0 0, .slice none 0 0] 26)))
  clear hb9 hz R8 C8 N8 B8 RM
  go_wp2
  go_ret
  exact ⟨rfl, B9.out⟩

end Go.Proofs.Ytefdfdnfpacfjaa
