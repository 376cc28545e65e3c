/-
  What the reference's Add and Sub answer, for stage 7 (limb).
-/
import Derived.Test.YtngoahbngckcfaaLimS
namespace Go.Proofs.Ytngoahbngckcfaa
open Go.RowKit
set_option linter.unusedVariables false

theorem out_nil32 (w : World) : Out32 w w (.slice none 0 0) [] := ⟨⟨rfl, .inl ⟨rfl, rfl⟩⟩, Below.refl _ _⟩
theorem meas_lt {k : Nat} (h : k ≤ 1000000) : (1000001 - ((k : Int) + 1)).toNat < (1000001 - (k : Int)).toNat := by omega
theorem limbs_snoc {L : List Int} {x : Int} (h : Limbs L) (h0 : 0 ≤ x) (h1 : x ≤ 4294967295) : Limbs (L ++ [x]) := by
  intro y hy
  rcases List.mem_append.1 hy with hy | hy
  · exact h y hy
  · simp at hy; omega

set_option maxHeartbeats 1000000 in
set_option maxRecDepth 10000 in
theorem radd_any (a b : Option Addr) (n m ca cb : Nat) (xs ys : List Int) (w : World) (hr : Row32 w a n xs) (hs : Row32 w b m ys) (hn : n ≤ 40000) (hm : m ≤ 40000) : Calls Try.prog 11 #[.slice a n ca, .slice b m cb] w (GivesL (valZ xs + valZ ys) w) := by
  have HA := Lib.hid hr
  have HB := Lib.hid hs
  have HL : Hid (xs.length = n ∧ ys.length = m) := Lib.hid ⟨hr.1, hs.1⟩
  clear hr hs
  go_enter Try.func11, Try.ntmps11
  go_wp2_with fail
  go_loopw [5, 6, 7] (fun V c i wr => ∃ (k : Nat) (z : Int) (L : List Int), i = .int .i64 (k : Int) ∧ c = .int .u64 z ∧ 0 ≤ z ∧ z ≤ 1 ∧ k ≤ n + m + 1 ∧ (n < k → m < k → z = 0) ∧ Out32 w wr V L ∧ Limbs L ∧ L.length = k ∧ valZ L + 4294967296 ^ k * z = valZ (xs.take k) + valZ (ys.take k)) (fun _ _ i _ => (1000001 - intOf i).toNat)
  case atStart => exact ⟨0, 0, [], rfl, rfl, by omega, by omega, by omega, fun _ _ => rfl, out_nil32 w, Limbs.nil, rfl, by simp [valZ]⟩
  case round =>
    obtain ⟨k, z, L, rfl, rfl, z0, z1, hk, hkz, ho, hL, hlen, hval⟩ := hrel
    have HO := Lib.hid ho
    have HLL := Lib.hid hL
    have HV := Lib.hid hval
    have RA := Lib.hid (HA.out.below ho.2)
    have RB := Lib.hid (HB.out.below ho.2)
    have HLE := Lib.hid hlen
    clear ho hL hval hlen
    by_cases hmore : k < n ∨ k < m ∨ 0 < z
    · have hkk : k ≤ n + m := by omega
      have hkM : k ≤ 1000000 := by omega
      obtain ⟨x, hx⟩ : ∃ x, xs[k]?.getD 0 = x := ⟨_, rfl⟩
      obtain ⟨y, hy⟩ : ∃ y, ys[k]?.getD 0 = y := ⟨_, rfl⟩
      have xr := HA.out.num k
      have yr := HB.out.num k
      have SS := Lib.hid (sum_step HLE.out HV.out)
      rw [hx] at xr
      rw [hy] at yr
      rw [hx, hy] at SS
      have HX := Lib.hid hx
      have HY := Lib.hid hy
      have xz : n ≤ k → x = 0 := fun h => by rw [← hx, List.getElem?_eq_none (by rw [HL.out.1]; exact h)]; rfl
      have yz : m ≤ k → y = 0 := fun h => by rw [← hy, List.getElem?_eq_none (by rw [HL.out.2]; exact h)]; rfl
      have HZ : Hid (n < k + 1 → m < k + 1 → (z + x + y) / 4294967296 = 0) := Lib.hid (fun h1 h2 => by rw [xz (by omega), yz (by omega)]; omega)
      clear hx hy HV xz yz
      have k1 : IntKind.u64.wrap (z + x) = z + x := IntWalk.u64_in _ (by omega)
      have k2 : IntKind.u64.wrap (z + x + y) = z + x + y := IntWalk.u64_in _ (by omega)
      have k3 : IntKind.u32.wrap (z + x + y) = (z + x + y) % 4294967296 := rfl
      have k4 : IntKind.u64.wrap ((z + x + y) / 4294967296) = (z + x + y) / 4294967296 := IntWalk.u64_in _ (by omega)
      have d0 : 0 ≤ (z + x + y) / 4294967296 := by omega
      have d1 : (z + x + y) / 4294967296 ≤ 1 := by omega
      have r0 : 0 ≤ (z + x + y) % 4294967296 := by omega
      have r1 : (z + x + y) % 4294967296 ≤ 4294967295 := by omega
      have O3 := Lib.hid (HO.out.alloc (.cells #[.int .u32 ((z + x + y) % 4294967296)] 36))
      obtain ⟨a1, c1, e1, r1'⟩ := (out_one32 wr ((z + x + y) % 4294967296)).row (by intro q hq; simp at hq; omega)
      injection e1 with e1 e2 e3
      subst e1 e3
      have R1 := Lib.hid r1'
      clear r1' e2
      have LN : Hid (L.length + [(z + x + y) % 4294967296].length ≤ 1000000) := Lib.hid (by rw [HLE.out]; simp; omega)
      have tn : (decide ((k : Int) < (n : Int)) || decide ((k : Int) < (m : Int)) || decide (0 < z)) = true := by simp; omega
      rcases Nat.lt_or_ge k n with h1 | h1
      · have t1 : decide ((k : Int) < (n : Int)) = true := decide_eq_true (by omega)
        go_wp2_with (first | (go_at_call 29; go_must (refine (part_any _ _ _ _ _ _ (by first | exact RA.out | exact RB.out)).mono ?_; rintro e w' ⟨rfl, rfl⟩; first | rw [HX.out] | rw [HY.out])) | (at_builtin; go_must (refine out_append32 (W0 := w) (L := L) (zs := [(z + x + y) % 4294967296]) rfl _ _ rfl rfl O3.out rfl R1.out (fun e => by cases e) LN.out ?_; intro V4 w4 ho4; have O4 := Lib.hid ho4; clear ho4)))
        go_roundw
        case rel => exact ⟨k + 1, _, _, by go_num, rfl, d0, d1, by omega, HZ.out, O4.out, limbs_snoc HLL.out r0 r1, by rw [List.length_append, HLE.out]; rfl, SS.out⟩
        case measure => simp only [intOf]; exact meas_lt hkM
      · have t1 : decide ((k : Int) < (n : Int)) = false := decide_eq_false (by omega)
        rcases Nat.lt_or_ge k m with h2 | h2
        · have t2 : decide ((k : Int) < (m : Int)) = true := decide_eq_true (by omega)
          go_wp2_with (first | (go_at_call 29; go_must (refine (part_any _ _ _ _ _ _ (by first | exact RA.out | exact RB.out)).mono ?_; rintro e w' ⟨rfl, rfl⟩; first | rw [HX.out] | rw [HY.out])) | (at_builtin; go_must (refine out_append32 (W0 := w) (L := L) (zs := [(z + x + y) % 4294967296]) rfl _ _ rfl rfl O3.out rfl R1.out (fun e => by cases e) LN.out ?_; intro V4 w4 ho4; have O4 := Lib.hid ho4; clear ho4)))
          go_roundw
          case rel => exact ⟨k + 1, _, _, by go_num, rfl, d0, d1, by omega, HZ.out, O4.out, limbs_snoc HLL.out r0 r1, by rw [List.length_append, HLE.out]; rfl, SS.out⟩
          case measure => simp only [intOf]; exact meas_lt hkM
        · have t2 : decide ((k : Int) < (m : Int)) = false := decide_eq_false (by omega)
          have t3 : decide (0 < z) = true := decide_eq_true (by omega)
          go_wp2_with (first | (go_at_call 29; go_must (refine (part_any _ _ _ _ _ _ (by first | exact RA.out | exact RB.out)).mono ?_; rintro e w' ⟨rfl, rfl⟩; first | rw [HX.out] | rw [HY.out])) | (at_builtin; go_must (refine out_append32 (W0 := w) (L := L) (zs := [(z + x + y) % 4294967296]) rfl _ _ rfl rfl O3.out rfl R1.out (fun e => by cases e) LN.out ?_; intro V4 w4 ho4; have O4 := Lib.hid ho4; clear ho4)))
          go_roundw
          case rel => exact ⟨k + 1, _, _, by go_num, rfl, d0, d1, by omega, HZ.out, O4.out, limbs_snoc HLL.out r0 r1, by rw [List.length_append, HLE.out]; rfl, SS.out⟩
          case measure => simp only [intOf]; exact meas_lt hkM
    · obtain rfl : z = 0 := by omega
      have F := Lib.hid (sum_end (by rw [HL.out.1]; omega) (by rw [HL.out.2]; omega) HV.out)
      have t1 : decide ((k : Int) < (n : Int)) = false := decide_eq_false (by omega)
      have t2 : decide ((k : Int) < (m : Int)) = false := decide_eq_false (by omega)
      obtain ⟨a4, c4, rfl, r4⟩ := HO.out.row HLL.out
      have R4 := Lib.hid r4
      have NC := Lib.hid HO.out.nilc
      have CC := Lib.hid (own_cap32 HO.out.1)
      have CB := Lib.hid (rbare_any a4 L.length c4 L wr r4 CC.out (by rw [HLE.out]; omega) NC.out)
      have B1 := Lib.hid HO.out.2
      clear r4 HV
      rw [F.out] at CB
      go_wp2_with fail
      refine CB.out.mono ?_
      rintro e w5 hg
      obtain ⟨a5, c5, rfl, h5⟩ := hg
      have H5 := Lib.hid h5
      clear h5
      go_wp2_with fail
      go_ret
      exact ⟨a5, c5, rfl, H5.out.1, H5.out.2.1, H5.out.2.2.1, B1.out.trans (H5.out.2.2.2.mono B1.out.size)⟩

end Go.Proofs.Ytngoahbngckcfaa
