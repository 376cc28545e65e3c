/-
  What the package's addMultiple answers, for stage 7 (limb).
-/
import Derived.Test.YthpdeaappchnpaaLnE
import Derived.Test.YthpdeaappchnpaaLimW
namespace Go.Proofs.Ythpdeaappchnpaa
open Go.RowKit
set_option linter.unusedVariables false

theorem row_step {zs ys : List Int} {i k : Nat} {c x V : Int} (hk : i + k < zs.length) (h : valZ zs + 4294967296 ^ (i + k) * c = V + x * 4294967296 ^ i * valZ (ys.take k)) :
    valZ (zs.set (i + k) ((x * ys[k]?.getD 0 + zs[i + k]?.getD 0 + c) % 4294967296)) + 4294967296 ^ (i + (k + 1)) * ((x * ys[k]?.getD 0 + zs[i + k]?.getD 0 + c) / 4294967296) = V + x * 4294967296 ^ i * valZ (ys.take (k + 1)) := by
  rw [show x * ys[k]?.getD 0 + zs[i + k]?.getD 0 + c = c + zs[i + k]?.getD 0 + x * ys[k]?.getD 0 by omega]
  exact mul_step hk h

/-- What addMultiple leaves in the limbs from i on. -/
def Added (W0 w : World) (g M i m : Nat) (L ys : List Int) (x : Int) (e : Ending) (w' : World) : Prop :=
  ∃ (L' : List Int) (c : Int), e = .returned (.int .u32 c) ∧ 0 ≤ c ∧ c ≤ 4294967295 ∧ Out32 W0 w' (.slice (some ⟨g, 0, none⟩) M M) L' ∧ Limbs L' ∧ L'.length = M ∧ valZ L' + 4294967296 ^ (i + m) * c = valZ L + x * 4294967296 ^ i * valZ ys ∧ (∀ j, i + m ≤ j → L'[j]?.getD 0 = L[j]?.getD 0) ∧ Below W0.heap.size w w'

set_option maxHeartbeats 1000000 in
set_option maxRecDepth 10000 in
theorem addMultiple_any (W0 w : World) (g M i m cN cb : Nat) (b : Option Addr) (L ys : List Int) (x : Int) (ho : Out32 W0 w (.slice (some ⟨g, 0, none⟩) M M) L) (hln : L.length = M) (hg : W0.heap.size ≤ g) (hL : Limbs L) (hi : i + m ≤ M) (hM : M ≤ 100000) (hr : Row32 W0 b m ys) (x0 : 0 ≤ x) (x1 : x ≤ 4294967295) :
    Calls Try.prog 32 #[.slice (some ⟨g, i, none⟩) m cN, .slice b m cb, .int .u32 x] w (Added W0 w g M i m L ys x) := by
  have HO := Lib.hid ho
  have HLN := Lib.hid hln
  have HLL := Lib.hid hL
  have HR := Lib.hid hr
  have k1 : IntKind.u64.wrap x = x := IntWalk.u64_in _ (by omega)
  clear ho hln hL hr
  go_enter Try.func32, Try.ntmps32
  go_wp2_with fail
  go_loopw [7, 12] (fun cV kV wr => ∃ (k : Nat) (c : Int) (L1 : List Int), cV = .int .u64 c ∧ kV = .int .i64 (k : Int) ∧ k ≤ m ∧ 0 ≤ c ∧ c ≤ 4294967295 ∧ Out32 W0 wr (.slice (some ⟨g, 0, none⟩) M M) L1 ∧ Limbs L1 ∧ L1.length = M ∧ valZ L1 + 4294967296 ^ (i + k) * c = valZ L + x * 4294967296 ^ i * valZ (ys.take k) ∧ (∀ j, i + k ≤ j → L1[j]?.getD 0 = L[j]?.getD 0) ∧ Below W0.heap.size w wr) (fun _ kV _ => (1000001 - intOf kV).toNat)
  case atStart => exact ⟨0, 0, L, rfl, rfl, by omega, by omega, by omega, HO.out, HLL.out, HLN.out, by simp [valZ], fun _ _ => rfl, Below.refl _ _⟩
  case round =>
    obtain ⟨k, c, L1, rfl, rfl, hk, c0, c1, ho, hL, hlen, hval, hsame, hbw⟩ := hrel
    have HBW := Lib.hid hbw
    have HO1 := Lib.hid ho
    have HL1 := Lib.hid hL
    have HN1 := Lib.hid hlen
    have HV1 := Lib.hid hval
    have HQ1 := Lib.hid hsame
    have RB := Lib.hid (HR.out.below ho.2)
    clear ho hL hlen hval hsame hbw HO
    by_cases hmore : k < m
    · have t1 : decide ((k : Int) < (m : Int)) = true := decide_eq_true (by omega)
      have hkM : k ≤ 1000000 := by omega
      have kI : (k : Int) < (m : Int) := by omega
      have kN : (0 : Int) ≤ (k : Int) := by omega
      obtain ⟨b1, o1, rfl, hb1, hc1⟩ := RB.out.2.2 (by omega)
      have cy := hc1 k hmore
      obtain ⟨cx, fx⟩ := HO1.out.cell (i + k) (by rw [HN1.out]; omega)
      have zr := HL1.out.at (i + k)
      have yr := RB.out.num k
      have hS := row_step (i := i) (k := k) (c := c) (x := x) (ys := ys) (by rw [HN1.out]; omega) HV1.out
      generalize L1[i + k]?.getD 0 = z at *
      generalize ys[k]?.getD 0 = y at *
      have MR := mul_range c0 c1 zr.1 zr.2 x0 x1 yr.1 yr.2
      have k2 : IntKind.u64.wrap y = y := IntWalk.u64_in _ (by omega)
      have k3 : IntKind.u64.wrap (x * y) = x * y := IntWalk.u64_in _ (by omega)
      have k4 : IntKind.u64.wrap z = z := IntWalk.u64_in _ (by omega)
      have k5 : IntKind.u64.wrap (x * y + z) = x * y + z := IntWalk.u64_in _ (by omega)
      have k6 : IntKind.u64.wrap (x * y + z + c) = x * y + z + c := IntWalk.u64_in _ (by omega)
      have eT : c + z + x * y = x * y + z + c := by omega
      rw [eT] at MR
      have HS := Lib.hid hS
      clear hS hc1 HV1
      obtain ⟨T, hT⟩ : ∃ T, x * y + z + c = T := ⟨_, rfl⟩
      rw [hT] at k6 MR HS
      have HT := Lib.hid hT
      have k7 : IntKind.u32.wrap T = T % 4294967296 := rfl
      have k8 : IntKind.u64.wrap (T / 4294967296) = T / 4294967296 := IntWalk.u64_in _ (by omega)
      have d0 := MR.2.2.1
      have d1 := MR.2.2.2.1
      clear MR eT
      go_wp2_with fail
      go_quiet (fail)
      have O2 := Lib.hid (HO1.out.drewN nq)
      have B2 : Hid (Below W0.heap.size w (wr.drewN nq)) := Lib.hid { HBW.out with }
      clear cx fx
      generalize wr.drewN nq = w4 at *
      obtain ⟨cx, fx⟩ := O2.out.cell (i + k) (by rw [HN1.out]; omega)
      have O3 := Lib.hid (O2.out.set hg (i + k) (T % 4294967296))
      have B3 := Lib.hid (B2.out.setCell (p := ⟨g, i + k, none⟩) hg (.int .u32 (T % 4294967296)))
      have LN : Hid (Limbs (L1.set (i + k) (T % 4294967296))) := Lib.hid (limbs_set HL1.out _ (by omega) (by omega))
      have SO := Lib.hid (set_other (i := i + k) (r := T % 4294967296) HQ1.out)
      clear hT
      go_wp2_with fail
      go_roundw
      case rel => exact ⟨k + 1, _, _, rfl, by go_num, by omega, d0, d1, O3.out, LN.out, by rw [List.length_set]; exact HN1.out, HS.out, SO.out, B3.out⟩
      case measure => simp only [intOf]; exact meas_lt hkM
    · obtain rfl : k = m := by omega
      have t1 : decide ((k : Int) < (k : Int)) = false := decide_eq_false (by omega)
      have k2 : IntKind.u32.wrap c = c := IntWalk.u32_in _ (by omega)
      have E := HV1.out
      rw [List.take_of_length_le (by rw [HR.out.1]; omega)] at E
      have HE := Lib.hid E
      clear E
      go_wp2_with fail
      go_ret
      exact ⟨L1, c, rfl, c0, c1, HO1.out, HL1.out, HN1.out, HE.out, HQ1.out, HBW.out⟩

end Go.Proofs.Ythpdeaappchnpaa
