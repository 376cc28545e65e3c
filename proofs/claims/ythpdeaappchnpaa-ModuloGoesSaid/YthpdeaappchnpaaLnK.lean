/-
  What the package's and the reference's Len answer, for stage 7 (limb).
-/
import Derived.Test.YthpdeaappchnpaaLnJ
import Derived.Test.YthpdeaappchnpaaShelf
namespace Go.Proofs.Ythpdeaappchnpaa
open Go.RowKit
set_option linter.unusedVariables false

set_option maxHeartbeats 500000 in
theorem len_any (a : Option Addr) (n ca : Nat) (zs : List Int) (w : World) (hr : Row32 w a n zs) (hca : n ≤ ca) (hn : n ≤ 1000000) (hnil : a = none → ca = 0) :
    Calls Try.prog 16 #[.slice a n ca] w fun e w' => e = .returned (.int .i64 (bitZ (valZ zs))) ∧ w' = w := by
  have NN := Lib.hid (normalized_any a n ca zs w hr hca hn hnil)
  have HN := Lib.hid hr.norm
  have V0 := valZ_nonneg (row32_limbs hr)
  have ln : (limZ (valZ zs)).length ≤ n := by have := (norm_take (row32_limbs hr)).1; have := hr.1; omega
  have LN := Lib.hid (limZ_limbs (valZ zs))
  clear hr hnil
  generalize valZ zs = v at *
  go_enter Try.func16, Try.ntmps16
  go_wp2_with fail
  refine NN.out.mono ?_
  rintro e w2 ⟨rfl, rfl⟩
  by_cases h0 : (limZ v).length = 0
  · have e := limZ_nil V0 h0
    have E : bitZ v = 0 := by rw [e]; exact bitZ_zero
    rw [h0]
    clear NN HN
    go_wp2_with fail
    go_ret
    exact ⟨by rw [E]; rfl, rfl⟩
  · obtain ⟨k, hk⟩ : ∃ k, (limZ v).length = k + 1 := ⟨(limZ v).length - 1, by omega⟩
    have B := bitZ_top V0 hk
    rw [hk] at HN ⊢
    obtain ⟨b, off, rfl, hb, hc⟩ := HN.out.2.2 (by omega)
    have c0 := hc k (by omega)
    have xr := LN.out.at k
    generalize (limZ v)[k]?.getD 0 = x at *
    have L32 := Lib.hid (Try.bits_Len32 x w2 xr.1 xr.2)
    rw [bitZ_len xr.1 xr.2] at L32
    have xb : bitZ x ≤ 32 := by
      have := bitN_le 32 x.toNat (by omega)
      exact this
    have x0 := bitZ_nonneg x
    have t0 : (((k + 1 : Nat) : Int) == 0) = false := by simp; omega
    have w1 : IntKind.i64.wrap (((k + 1 : Nat) : Int) - 1) = (k : Int) := by rw [show ((k + 1 : Nat) : Int) - 1 = (k : Int) by omega]; exact IntWalk.i64_in _ (by omega)
    have w1' : IntKind.i64.wrap ((k : Int) + 1 - 1) = (k : Int) := by rw [show (k : Int) + 1 - 1 = (k : Int) by omega]; exact IntWalk.i64_in _ (by omega)
    have w1'' : IntKind.i64.wrap (k : Int) = (k : Int) := IntWalk.i64_in _ (by omega)
    have w2' : IntKind.i64.wrap (32 * (k : Int)) = 32 * (k : Int) := IntWalk.i64_in _ (by omega)
    have w3 : IntKind.i64.wrap (32 * (k : Int) + bitZ x) = 32 * (k : Int) + bitZ x := IntWalk.i64_in _ (by omega)
    have kI : (k : Int) < ((k + 1 : Nat) : Int) := by omega
    have kI' : (k : Int) < (k : Int) + 1 := by omega
    have kN : (0 : Int) ≤ (k : Int) := by omega
    have BB := Lib.hid B
    clear NN HN hc hk B ln h0
    generalize bitZ x = y at *
    go_wp2_with fail
    refine L32.out.mono ?_
    rintro e w3 ⟨rfl, rfl⟩
    go_wp2_with fail
    go_ret
    exact ⟨by rw [BB.out]; rfl, rfl⟩

set_option maxHeartbeats 500000 in
theorem rlen_any (a : Option Addr) (n ca : Nat) (zs : List Int) (w : World) (hr : Row32 w a n zs) (hca : n ≤ ca) (hn : n ≤ 100000) (hnil : a = none → ca = 0) :
    Calls Try.prog 27 #[.slice a n ca] w fun e w' => e = .returned (.int .i64 (bitZ (valZ zs))) ∧ Below w.heap.size w w' := by
  have NN := Lib.hid (rbare_any a n ca zs w hr hca hn hnil)
  have V0 := valZ_nonneg (row32_limbs hr)
  have ln : (limZ (valZ zs)).length ≤ n := by have := (norm_take (row32_limbs hr)).1; have := hr.1; omega
  have LN := Lib.hid (limZ_limbs (valZ zs))
  clear hr hnil
  generalize valZ zs = v at *
  go_enter Try.func27, Try.ntmps27
  go_wp2_with fail
  refine NN.out.mono ?_
  rintro e w2 ⟨a', c, rfl, hrow, hnil, hle, hbel⟩
  have HR := Lib.hid hrow
  have HB := Lib.hid hbel
  clear hrow hnil hbel NN
  by_cases h0 : (limZ v).length = 0
  · have e := limZ_nil V0 h0
    have E : bitZ v = 0 := by rw [e]; exact bitZ_zero
    rw [h0]
    go_wp2_with fail
    go_ret
    exact ⟨by rw [E]; rfl, HB.out⟩
  · obtain ⟨k, hk⟩ : ∃ k, (limZ v).length = k + 1 := ⟨(limZ v).length - 1, by omega⟩
    have B := bitZ_top V0 hk
    rw [hk] at HR ⊢
    obtain ⟨b, off, rfl, hb, hc⟩ := HR.out.2.2 (by omega)
    have c0 := hc k (by omega)
    have xr := LN.out.at k
    generalize (limZ v)[k]?.getD 0 = x at *
    have t0 : (((k + 1 : Nat) : Int) == 0) = false := by simp; omega
    have w1 : IntKind.i64.wrap (((k + 1 : Nat) : Int) - 1) = (k : Int) := by rw [show ((k + 1 : Nat) : Int) - 1 = (k : Int) by omega]; exact IntWalk.i64_in _ (by omega)
    have w1' : IntKind.i64.wrap ((k : Int) + 1 - 1) = (k : Int) := by rw [show (k : Int) + 1 - 1 = (k : Int) by omega]; exact IntWalk.i64_in _ (by omega)
    have w1'' : IntKind.i64.wrap (k : Int) = (k : Int) := IntWalk.i64_in _ (by omega)
    have w2' : IntKind.i64.wrap (32 * ((k + 1 : Nat) : Int)) = 32 * (k : Int) + 32 := by rw [show 32 * ((k + 1 : Nat) : Int) = 32 * (k : Int) + 32 by omega]; exact IntWalk.i64_in _ (by omega)
    have w2'' : IntKind.i64.wrap (32 * ((k : Int) + 1)) = 32 * (k : Int) + 32 := by rw [show 32 * ((k : Int) + 1) = 32 * (k : Int) + 32 by omega]; exact IntWalk.i64_in _ (by omega)
    have w3 : IntKind.i64.wrap (32 * (k : Int) + 32 - 32) = 32 * (k : Int) := by rw [show 32 * (k : Int) + 32 - 32 = 32 * (k : Int) by omega]; exact IntWalk.i64_in _ (by omega)
    have w3' : IntKind.i64.wrap (32 * (k : Int)) = 32 * (k : Int) := IntWalk.i64_in _ (by omega)
    have kI : (k : Int) < ((k + 1 : Nat) : Int) := by omega
    have kI' : (k : Int) < (k : Int) + 1 := by omega
    have kN : (0 : Int) ≤ (k : Int) := by omega
    have BB := Lib.hid B
    have kb : k ≤ 100000 := by omega
    clear HR hc hk B ln h0
    go_wp2_with fail
    go_loop [4, 5] (fun kV xV => ∃ y z : Int, kV = .int .i64 y ∧ xV = .int .u32 z ∧ 0 ≤ z ∧ z ≤ 4294967295 ∧ 0 ≤ y ∧ y ≤ 32 * (k : Int) + 32 ∧ y + bitZ z = bitZ v) (fun _ xV => (intOf xV).toNat)
    case atStart => exact ⟨_, _, rfl, rfl, xr.1, xr.2, by omega, by omega, BB.out.symm⟩
    case round =>
      obtain ⟨y, z, rfl, rfl, z0, z1, y0, y1, hv⟩ := hrel
      have HV := Lib.hid hv
      clear hv
      by_cases hz : z = 0
      · subst hz
        have t1 : decide ((0 : Int) < 0) = false := by decide
        have E := HV.out
        rw [bitZ_zero, Int.add_zero] at E
        go_wp2_with fail
        go_ret
        exact ⟨rfl, HB.out⟩
      · have t1 : decide (0 < z) = true := decide_eq_true (by omega)
        have E := HV.out
        rw [bitZ_step (show 0 < z by omega)] at E
        have yb := bitZ_nonneg (z / 2)
        have vb : bitZ v ≤ 32 * (k : Int) + 32 := by
          have := bitN_le 32 x.toNat (by omega)
          have hB := BB.out
          unfold bitZ at hB ⊢
          omega
        have w4 : IntKind.i64.wrap (y + 1) = y + 1 := IntWalk.i64_in _ (by omega)
        have w5 : IntKind.u32.wrap (z / 2) = z / 2 := IntWalk.u32_in _ (by omega)
        have w5' : z.tdiv 2 = z / 2 := Int.tdiv_eq_ediv_of_nonneg (by omega)
        have HE : Hid (y + 1 + bitZ (z / 2) = bitZ v) := Lib.hid (by omega)
        have yb2 : y + 1 ≤ 32 * (k : Int) + 32 := by omega
        clear E vb yb HV
        go_wp2_with fail
        go_round
        case rel => exact ⟨_, _, rfl, rfl, by omega, by omega, by omega, yb2, HE.out⟩
        case measure => simp only [intOf]; omega

end Go.Proofs.Ythpdeaappchnpaa
