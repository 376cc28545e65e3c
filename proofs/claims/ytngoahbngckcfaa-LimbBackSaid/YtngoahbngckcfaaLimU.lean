/-
  What the reference's Sub answers, for stage 7 (limb).
-/
import Derived.Test.YtngoahbngckcfaaLimT
namespace Go.Proofs.Ytngoahbngckcfaa
open Go.RowKit
set_option linter.unusedVariables false

/-- What is left of x when y is taken from it; 0 where it can't be. -/
def subI (x y : Int) : Int := if x < y then 0 else x - y
/-- The limbs of a difference are handed back, and whether there is one. -/
def GivesD (x y : Int) (w : World) (e : Ending) (w' : World) : Prop :=
  ∃ a c, e = .returned (.tuple #[.slice a (limZ (subI x y)).length c, .bool (!decide (x < y))]) ∧ Row32 w' a (limZ (subI x y)).length (limZ (subI x y)) ∧ (a = none → c = 0) ∧ (limZ (subI x y)).length ≤ c ∧ Below w.heap.size w w'
theorem limZ_zero : limZ 0 = [] := by unfold limZ; rw [limN]; rfl

set_option maxHeartbeats 1000000 in
set_option maxRecDepth 10000 in
theorem rsub_any (a b : Option Addr) (n m ca cb : Nat) (xs ys : List Int) (w : World) (hr : Row32 w a n xs) (hs : Row32 w b m ys) (hn : n ≤ 40000) (hm : m ≤ 40000) : Calls Try.prog 15 #[.slice a n ca, .slice b m cb] w (GivesD (valZ xs) (valZ ys) w) := by
  have HA := Lib.hid hr
  have HB := Lib.hid hs
  have LA := Lib.hid (row32_limbs hr)
  have LB := Lib.hid (row32_limbs hs)
  have HL : Hid (xs.length = n ∧ ys.length = m) := Lib.hid ⟨hr.1, hs.1⟩
  have CC := Lib.hid (rcmp_any a b n m ca cb xs ys w hr hs (by omega) (by omega))
  have CN := cmpI_neg (valZ xs) (valZ ys)
  clear hr hs
  by_cases hlt : valZ xs < valZ ys
  · have t0 : decide (cmpI (valZ xs) (valZ ys) < 0) = true := decide_eq_true (CN.2 hlt)
    have S0 : subI (valZ xs) (valZ ys) = 0 := if_pos hlt
    have D0 : (!decide (valZ xs < valZ ys)) = false := by simp [hlt]
    generalize cmpI (valZ xs) (valZ ys) = q at *
    go_enter Try.func15, Try.ntmps15
    go_wp2_with (go_at_call 23; go_must (refine CC.out.mono ?_; rintro e w2 ⟨rfl, h2⟩; rw [h2]))
    go_ret2
    refine ⟨none, 0, by rw [S0, limZ_zero, D0]; rfl, by rw [S0, limZ_zero]; exact Row32.nil _ _, fun _ => rfl, by rw [S0, limZ_zero]; exact Nat.le_refl _, Below.refl _ _⟩
  · have t0 : decide (cmpI (valZ xs) (valZ ys) < 0) = false := decide_eq_false (fun h => hlt (CN.1 h))
    have S0 : subI (valZ xs) (valZ ys) = valZ xs - valZ ys := if_neg hlt
    have D0 : (!decide (valZ xs < valZ ys)) = true := by simp [hlt]
    generalize cmpI (valZ xs) (valZ ys) = q at *
    go_enter Try.func15, Try.ntmps15
    go_wp2_with (go_at_call 23; go_must (refine CC.out.mono ?_; rintro e w2 ⟨rfl, h2⟩; rw [h2]))
    go_loopw [6, 7, 8] (fun V c i wr => ∃ (k : Nat) (o : Int) (L : List Int), i = .int .i64 (k : Int) ∧ c = .int .u64 o ∧ 0 ≤ o ∧ o ≤ 1 ∧ k ≤ n ∧ Out32 w wr V L ∧ Limbs L ∧ L.length = k ∧ valZ L - 4294967296 ^ k * o = valZ (xs.take k) - valZ (ys.take k)) (fun _ _ i _ => (1000001 - intOf i).toNat)
    case atStart => exact ⟨0, 0, [], rfl, rfl, by omega, by omega, by omega, out_nil32 w, Limbs.nil, rfl, by simp [valZ]⟩
    case round =>
      obtain ⟨k, o, L, rfl, rfl, o0, o1, hk, ho, hL, hlen, hval⟩ := hrel
      have HO := Lib.hid ho
      have HLL := Lib.hid hL
      have HV := Lib.hid hval
      have RA := Lib.hid (HA.out.below ho.2)
      have RB := Lib.hid (HB.out.below ho.2)
      have HLE := Lib.hid hlen
      clear ho hL hval hlen
      by_cases hmore : k < n
      · have t1 : decide ((k : Int) < (n : Int)) = true := decide_eq_true (by omega)
        have hkM : k ≤ 1000000 := by omega
        obtain ⟨x, hx⟩ : ∃ x, xs[k]?.getD 0 = x := ⟨_, rfl⟩
        obtain ⟨y, hy⟩ : ∃ y, ys[k]?.getD 0 = y := ⟨_, rfl⟩
        have xr := HA.out.num k
        have yr := HB.out.num k
        rw [hx] at xr
        rw [hy] at yr
        have HX := Lib.hid hx
        have HY := Lib.hid hy
        clear hx hy
        have k1 : IntKind.u64.wrap (y + o) = y + o := IntWalk.u64_in _ (by omega)
        by_cases h1 : x < y + o
        · have T : Hid (valZ (L ++ [x + 4294967296 - (y + o)]) - 4294967296 ^ (k + 1) * 1 = valZ (xs.take (k + 1)) - valZ (ys.take (k + 1))) := by
            have := dif_step (o' := 1) (d := x + 4294967296 - (y + o)) HLE.out HV.out (by rw [HX.out, HY.out]; omega)
            exact Lib.hid this
          have t2 : decide (x < y + o) = true := by simp; omega
          have k2 : IntKind.u64.wrap (x + 4294967296) = x + 4294967296 := IntWalk.u64_in _ (by omega)
          obtain ⟨d, hd⟩ : ∃ d, x + 4294967296 - (y + o) = d := ⟨_, rfl⟩
          rw [hd] at T
          have d0 : 0 ≤ d := by omega
          have d1 : d ≤ 4294967295 := by omega
          have k4 : IntKind.u64.wrap d = d := IntWalk.u64_in _ (by omega)
          have k5 : IntKind.u32.wrap d = d := IntWalk.u32_in _ (by omega)
          have O3 := Lib.hid (HO.out.alloc (.cells #[.int .u32 d] 36))
          obtain ⟨a1, c1, e1, r1'⟩ := (out_one32 wr d).row (by intro q hq; simp at hq; omega)
          injection e1 with e1 e2 e3
          subst e1 e3
          have R1 := Lib.hid r1'
          clear r1' e2
          have LN : Hid (L.length + [d].length ≤ 1000000) := Lib.hid (by rw [HLE.out]; simp; omega)
          clear HV h1
          go_wp2_with (first | (go_at_call 29; go_must (refine (part_any _ _ _ _ _ _ (by first | exact RA.out | exact RB.out)).mono ?_; rintro e w' ⟨rfl, rfl⟩; first | rw [HX.out] | rw [HY.out])) | (at_builtin; go_must (refine out_append32 (W0 := w) (L := L) (zs := [d]) rfl _ _ rfl rfl O3.out rfl R1.out (fun e => by cases e) LN.out ?_; intro V4 w4 ho4; have O4 := Lib.hid ho4; clear ho4)))
          go_roundw
          case rel => exact ⟨k + 1, 1, L ++ [d], by go_num, rfl, by omega, by omega, by omega, O4.out, limbs_snoc HLL.out d0 d1, by rw [List.length_append, HLE.out]; rfl, T.out⟩
          case measure => simp only [intOf]; exact meas_lt hkM
        · have T : Hid (valZ (L ++ [x - (y + o)]) - 4294967296 ^ (k + 1) * 0 = valZ (xs.take (k + 1)) - valZ (ys.take (k + 1))) := by
            have := dif_step (o' := 0) (d := x - (y + o)) HLE.out HV.out (by rw [HX.out, HY.out]; omega)
            exact Lib.hid this
          have t2 : decide (x < y + o) = false := by simp; omega
          obtain ⟨d, hd⟩ : ∃ d, x - (y + o) = d := ⟨_, rfl⟩
          rw [hd] at T
          have d0 : 0 ≤ d := by omega
          have d1 : d ≤ 4294967295 := by omega
          have k4 : IntKind.u64.wrap d = d := IntWalk.u64_in _ (by omega)
          have k5 : IntKind.u32.wrap d = d := IntWalk.u32_in _ (by omega)
          have O3 := Lib.hid (HO.out.alloc (.cells #[.int .u32 d] 36))
          obtain ⟨a1, c1, e1, r1'⟩ := (out_one32 wr d).row (by intro q hq; simp at hq; omega)
          injection e1 with e1 e2 e3
          subst e1 e3
          have R1 := Lib.hid r1'
          clear r1' e2
          have LN : Hid (L.length + [d].length ≤ 1000000) := Lib.hid (by rw [HLE.out]; simp; omega)
          clear HV h1
          go_wp2_with (first | (go_at_call 29; go_must (refine (part_any _ _ _ _ _ _ (by first | exact RA.out | exact RB.out)).mono ?_; rintro e w' ⟨rfl, rfl⟩; first | rw [HX.out] | rw [HY.out])) | (at_builtin; go_must (refine out_append32 (W0 := w) (L := L) (zs := [d]) rfl _ _ rfl rfl O3.out rfl R1.out (fun e => by cases e) LN.out ?_; intro V4 w4 ho4; have O4 := Lib.hid ho4; clear ho4)))
          go_roundw
          case rel => exact ⟨k + 1, 0, L ++ [d], by go_num, rfl, by omega, by omega, by omega, O4.out, limbs_snoc HLL.out d0 d1, by rw [List.length_append, HLE.out]; rfl, T.out⟩
          case measure => simp only [intOf]; exact meas_lt hkM
      · have t1 : decide ((k : Int) < (n : Int)) = false := decide_eq_false (by omega)
        obtain rfl : k = n := by omega
        have F : Hid (valZ L = valZ xs - valZ ys) := Lib.hid (dif_end (o := o) LA.out LB.out HLL.out (by rw [HLE.out, HL.out.1]) (by omega) ⟨o0, o1⟩ (by rw [HL.out.1]; exact HV.out))
        obtain ⟨a4, c4, rfl, r4⟩ := HO.out.row HLL.out
        have NC := Lib.hid HO.out.nilc
        have CB := Lib.hid (rbare_any a4 L.length c4 L wr r4 (own_cap32 HO.out.1) (by rw [HLE.out]; omega) NC.out)
        have B1 := Lib.hid HO.out.2
        clear r4 HV
        rw [F.out] at CB
        go_wp2_with fail
        refine CB.out.mono ?_
        rintro e w5 hg
        obtain ⟨a5, c5, rfl, h5⟩ := hg
        have H5 := Lib.hid h5
        clear h5
        go_wp2_with fail
        go_ret2
        exact ⟨a5, c5, by rw [D0, S0]; rfl, by rw [S0]; exact H5.out.1, H5.out.2.1, by rw [S0]; exact H5.out.2.2.1, B1.out.trans (H5.out.2.2.2.mono B1.out.size)⟩

end Go.Proofs.Ytngoahbngckcfaa
