/-
  What the package's subtractMultiple and addTo answer, for stage 8 (modulo).
-/
import Derived.Test.YthpdeaappchnpaaMdC
import Derived.Test.YthpdeaappchnpaaLnG
namespace Go.Proofs.Ythpdeaappchnpaa
open Go.RowKit
set_option linter.unusedVariables false

/-- What is left in a part of a row, of which x times ys is taken away; what is owed. -/
def Subbed (W0 w : World) (g M cap i k : Nat) (L ys : List Int) (x : Int) (e : Ending) (w' : World) : Prop :=
  ∃ (L' : List Int) (o : Int), e = .returned (.int .u32 o) ∧ 0 ≤ o ∧ o ≤ 1 ∧ Out32 W0 w' (.slice (some ⟨g, 0, none⟩) M cap) L' ∧ Around L L' i k ∧ valZ (L'.drop i) = valZ (L.drop i) - x * valZ ys + 4294967296 ^ (k + 1) * o ∧ Only g w w'
/-- What is in a part of a row after ys is added; what goes over. -/
def Addeds (W0 w : World) (g M cap i k : Nat) (L ys : List Int) (e : Ending) (w' : World) : Prop :=
  ∃ (L' : List Int) (o : Int), e = .returned (.int .u32 o) ∧ 0 ≤ o ∧ o ≤ 1 ∧ Out32 W0 w' (.slice (some ⟨g, 0, none⟩) M cap) L' ∧ Around L L' i k ∧ valZ (L'.drop i) = valZ (L.drop i) + valZ ys - 4294967296 ^ (k + 1) * o ∧ Only g w w'

theorem Around.at {L L' : List Int} {i k : Nat} (h : Around L L' i k) (j : Nat) : 0 ≤ L'[j]?.getD 0 ∧ L'[j]?.getD 0 ≤ 4294967295 := h.2.1.at j

set_option maxHeartbeats 1000000 in
set_option maxRecDepth 10000 in
theorem subtract_any (W0 w : World) (g M cap i k cP cb : Nat) (b : Option Addr) (L ys : List Int) (x : Int) (ho : Out32 W0 w (.slice (some ⟨g, 0, none⟩) M cap) L) (hln : L.length = M) (hg : W0.heap.size ≤ g) (hL : Limbs L) (hi : i + k + 1 ≤ M) (hM : M ≤ 100000) (hr : Row32 W0 b k ys) (x0 : 0 ≤ x) (x1 : x ≤ 4294967295) :
    Calls Try.prog 42 #[.slice (some ⟨g, i, none⟩) (k + 1) cP, .slice b k cb, .int .u32 x] w (Subbed W0 w g M cap i k L ys x) := by
  have HO := Lib.hid ho
  have HLN := Lib.hid hln
  have HLL := Lib.hid hL
  have HR := Lib.hid hr
  have k1 : IntKind.u64.wrap x = x := IntWalk.u64_in _ (by omega)
  clear ho hln hL hr
  go_enter Try.func42, Try.ntmps42
  go_wp2_with fail
  go_loopw [7, 8, 12] (fun cV oV jV wr => ∃ (j : Nat) (c o : Int) (L1 : List Int), cV = .int .u64 c ∧ oV = .int .u32 o ∧ jV = .int .i64 (j : Int) ∧ j ≤ k ∧ 0 ≤ c ∧ c ≤ 4294967295 ∧ 0 ≤ o ∧ o ≤ 1 ∧ Out32 W0 wr (.slice (some ⟨g, 0, none⟩) M cap) L1 ∧ Around L L1 i k ∧ valZ (L1.drop i) = valZ (L.drop i) - x * valZ (ys.take j) + 4294967296 ^ j * (c + o) ∧ Only g w wr) (fun _ _ jV _ => (1000001 - intOf jV).toNat)
  case atStart => exact ⟨0, 0, 0, L, rfl, rfl, rfl, by omega, by omega, by omega, by omega, by omega, HO.out, .refl HLL.out _ _, by simp [valZ], .refl _ _⟩
  case round =>
    obtain ⟨j, c, o, L1, rfl, rfl, rfl, hj, c0, c1, o0, o1, ho, hA, hval, hon⟩ := hrel
    have HO1 := Lib.hid ho
    have HA1 := Lib.hid hA
    have HV1 := Lib.hid hval
    have ON1 := Lib.hid hon
    have HN1 : Hid (L1.length = M) := Lib.hid (hA.1.trans HLN.out)
    have RB := Lib.hid (HR.out.below ho.2)
    clear ho hA hval hon HO
    by_cases hmore : j < k
    · have t1 : decide ((j : Int) < (k : Int)) = true := decide_eq_true (by omega)
      have hjM : j ≤ 1000000 := by omega
      have jI : (j : Int) < (k : Int) := by omega
      have jI2 : (j : Int) < (k : Int) + 1 := by omega
      have jN : (0 : Int) ≤ (j : Int) := by omega
      obtain ⟨b1, o1', rfl, hb1, hc1⟩ := RB.out.2.2 (by omega)
      have cy := hc1 j hmore
      obtain ⟨cx, fx⟩ := HO1.out.cell (i + j) (by rw [HN1.out]; omega)
      have zr := HA1.out.at (i + j)
      have yr := RB.out.num j
      have hS := Lib.hid (fun (r q : Int) (h : r + -1 * (4294967296 * q) = L1[i + j]?.getD 0 + -1 * ((c + x * ys[j]?.getD 0) % 4294967296 + o)) => subm_step (by rw [HN1.out]; omega) HV1.out h)
      have HSET := Lib.hid (fun v => HO1.out.set hg (i + j) v)
      generalize L1[i + j]?.getD 0 = z at *
      generalize ys[j]?.getD 0 = y at *
      have MR := mul_range c0 c1 (show (0 : Int) ≤ 0 by omega) (by omega) x0 x1 yr.1 yr.2
      rw [Int.add_zero] at MR
      have k2 : IntKind.u64.wrap y = y := IntWalk.u64_in _ (by omega)
      have k3 : IntKind.u64.wrap (x * y) = x * y := IntWalk.u64_in _ (by omega)
      have k6 : IntKind.u64.wrap (c + x * y) = c + x * y := IntWalk.u64_in _ (by omega)
      clear hc1 HV1
      obtain ⟨T, hT⟩ : ∃ T, c + x * y = T := ⟨_, rfl⟩
      rw [hT] at k6 MR hS
      have HT := Lib.hid hT
      have k7 : IntKind.u32.wrap T = T % 4294967296 := rfl
      have k8 : IntKind.u64.wrap (T / 4294967296) = T / 4294967296 := IntWalk.u64_in _ (by omega)
      have d0 := MR.2.2.1
      have d1 := MR.2.2.2.1
      have e0 : 0 ≤ T % 4294967296 := by omega
      have e1 : T % 4294967296 ≤ 4294967295 := by omega
      clear MR
      go_wp2_with (go_at_call 46; go_must (refine (sub32_steps z (T % 4294967296) o wr zr.1 zr.2 e0 e1 o0 o1).mono ?_; rintro e w' ⟨rfl, r, q', rfl, r0, r1, q0', q1', hrq⟩; have HRQ := Lib.hid (hS.out r q' hrq); have r0h := Lib.hid r0; have r1h := Lib.hid r1; have q0h := Lib.hid q0'; have q1h := Lib.hid q1'; clear hrq r0 r1 q0' q1'))
      go_roundw
      case rel => exact ⟨j + 1, _, _, _, rfl, rfl, by go_num, by omega, d0, d1, q0h.out, q1h.out, HSET.out _, HA1.out.set (by omega) r0h.out r1h.out, HRQ.out, ON1.out.set _ _⟩
      case measure => simp only [intOf]; exact meas_lt hjM
    · obtain rfl : j = k := by omega
      have t1 : decide ((j : Int) < (j : Int)) = false := decide_eq_false (by omega)
      have jI2 : (j : Int) < (j : Int) + 1 := by omega
      have jN : (0 : Int) ≤ (j : Int) := by omega
      have k2 : IntKind.u32.wrap c = c := IntWalk.u32_in _ (by omega)
      have E := HV1.out
      rw [List.take_of_length_le (by rw [HR.out.1]; omega)] at E
      obtain ⟨cx, fx⟩ := HO1.out.cell (i + j) (by rw [HN1.out]; omega)
      have zr := HA1.out.at (i + j)
      have hS := Lib.hid (fun (r q : Int) (h : r + -1 * (4294967296 * q) = L1[i + j]?.getD 0 + -1 * (c + o)) => subm_end (by rw [HN1.out]; omega) E h)
      have HSET := Lib.hid (fun v => HO1.out.set hg (i + j) v)
      generalize L1[i + j]?.getD 0 = z at *
      clear E HV1
      go_wp2_with (go_at_call 46; go_must (refine (sub32_steps z c o wr zr.1 zr.2 c0 c1 o0 o1).mono ?_; rintro e w' ⟨rfl, r, q', rfl, r0, r1, q0', q1', hrq⟩; have HRQ := Lib.hid (hS.out r q' hrq); have r0h := Lib.hid r0; have r1h := Lib.hid r1; have q0h := Lib.hid q0'; have q1h := Lib.hid q1'; clear hrq r0 r1 q0' q1'))
      go_ret
      exact ⟨_, _, rfl, q0h.out, q1h.out, HSET.out _, HA1.out.set (by omega) r0h.out r1h.out, HRQ.out, ON1.out.set _ _⟩

set_option maxHeartbeats 1000000 in
set_option maxRecDepth 10000 in
theorem addTo_any (W0 w : World) (g M cap i k cP cb : Nat) (b : Option Addr) (L ys : List Int) (ho : Out32 W0 w (.slice (some ⟨g, 0, none⟩) M cap) L) (hln : L.length = M) (hg : W0.heap.size ≤ g) (hL : Limbs L) (hi : i + k + 1 ≤ M) (hM : M ≤ 100000) (hr : Row32 W0 b k ys) :
    Calls Try.prog 43 #[.slice (some ⟨g, i, none⟩) (k + 1) cP, .slice b k cb] w (Addeds W0 w g M cap i k L ys) := by
  have HO := Lib.hid ho
  have HLN := Lib.hid hln
  have HLL := Lib.hid hL
  have HR := Lib.hid hr
  clear ho hln hL hr
  go_enter Try.func43, Try.ntmps43
  go_wp2_with fail
  go_loopw [5, 9] (fun oV jV wr => ∃ (j : Nat) (o : Int) (L1 : List Int), oV = .int .u32 o ∧ jV = .int .i64 (j : Int) ∧ j ≤ k ∧ 0 ≤ o ∧ o ≤ 1 ∧ Out32 W0 wr (.slice (some ⟨g, 0, none⟩) M cap) L1 ∧ Around L L1 i k ∧ valZ (L1.drop i) = valZ (L.drop i) + valZ (ys.take j) - 4294967296 ^ j * o ∧ Only g w wr) (fun _ jV _ => (1000001 - intOf jV).toNat)
  case atStart => exact ⟨0, 0, L, rfl, rfl, by omega, by omega, by omega, HO.out, .refl HLL.out _ _, by simp [valZ], .refl _ _⟩
  case round =>
    obtain ⟨j, o, L1, rfl, rfl, hj, o0, o1, ho, hA, hval, hon⟩ := hrel
    have HO1 := Lib.hid ho
    have HA1 := Lib.hid hA
    have HV1 := Lib.hid hval
    have ON1 := Lib.hid hon
    have HN1 : Hid (L1.length = M) := Lib.hid (hA.1.trans HLN.out)
    have RB := Lib.hid (HR.out.below ho.2)
    clear ho hA hval hon HO
    by_cases hmore : j < k
    · have t1 : decide ((j : Int) < (k : Int)) = true := decide_eq_true (by omega)
      have hjM : j ≤ 1000000 := by omega
      have jI : (j : Int) < (k : Int) := by omega
      have jI2 : (j : Int) < (k : Int) + 1 := by omega
      have jN : (0 : Int) ≤ (j : Int) := by omega
      obtain ⟨b1, o1', rfl, hb1, hc1⟩ := HR.out.2.2 (by omega)
      have cy := later32 (base := W0.heap.size) ((HO1.out.2.cell (p := ⟨b1, o1' + j, none⟩) hb1).trans (hc1 j hmore)) hb1
      obtain ⟨cx0, fx0⟩ := HO1.out.cell (i + j) (by rw [HN1.out]; omega)
      have cx2 : wr.drew.cell? ⟨g, i + j, none⟩ = some (.int .u32 (L1[i + j]?.getD 0)) := cx0
      have fx : wr.drew.frozen? ⟨g, i + j, none⟩ = false := fx0
      have zr := HA1.out.at (i + j)
      have yr := RB.out.num j
      have hS := Lib.hid (fun (r q : Int) (h : r + 1 * (4294967296 * q) = L1[i + j]?.getD 0 + 1 * (ys[j]?.getD 0 + o)) => addm_step (by rw [HN1.out]; omega) HV1.out h)
      have HSET := Lib.hid (fun v => (HO1.out.set hg (i + j) v).drew)
      generalize L1[i + j]?.getD 0 = z at *
      generalize ys[j]?.getD 0 = y at *
      clear hc1 HV1 cx0 fx0
      go_wp2_with fail
      refine wp_region_ord (Below W0.heap.size) (Below.refl _) (fun _ _ _ => Below.trans) [(0, false), (1, false), (2, false), (3, false), (4, false), (6, false), (7, false), (8, false), (9, false), (10, false), (5, true), (11, true), (12, false), (13, false), (14, false), (15, false), (16, true), (17, false)] (by kernel_rfl) (by kernel_rfl) rfl (by kernel_rfl) (fun _ _ _ _ _ h => h) ?_
      repeat (refine ord_take _ rfl (by rfl) (fun W hW => by go_simp; first | done | rfl) ?_; simp only [Act.put, List.setIfInBounds_toArray, List.set_cons_zero, List.set_cons_succ])
      refine ord_sole rfl (by rfl) (fun K1 hK1 => ?_)
      unfold Oper.wp
      go_simp
      refine hK1 _ _ (Below.refl _ _) ?_
      clear hK1 K1 cy
      try simp only [Act.put, List.setIfInBounds_toArray, List.set_cons_zero, List.set_cons_succ]
      refine ord_sole rfl (by rfl) (fun K1 hK1 => ?_)
      go_simp
      refine (add32_steps z y o wr.drew zr.1 zr.2 yr.1 yr.2 o0 o1).mono ?_
      rintro e w' ⟨rfl, r, q', rfl, r0, r1, q0', q1', hrq⟩
      have HRQ := Lib.hid (hS.out r q' hrq)
      refine hK1 _ _ (Below.refl _ _) ?_
      clear hK1 K1
      try simp only [Act.put, List.setIfInBounds_toArray, List.set_cons_zero, List.set_cons_succ]
      repeat (refine ord_take _ rfl (by rfl) (fun W hW => by go_simp; first | done | rfl) ?_; try simp only [Act.put, List.setIfInBounds_toArray, List.set_cons_zero, List.set_cons_succ])
      refine ord_sole rfl (by rfl) (fun K1 hK1 => ?_)
      unfold Oper.wp
      go_simp
      refine hK1 _ _ ((Below.refl _ _).setCell (p := ⟨g, i + j, none⟩) hg _) ?_
      clear hK1 K1 cx2 fx
      try simp only [Act.put, List.setIfInBounds_toArray, List.set_cons_zero, List.set_cons_succ]
      refine ord_take _ rfl (by rfl) (fun W hW => by go_simp; first | done | rfl) ?_
      try simp only [Act.put, List.setIfInBounds_toArray, List.set_cons_zero, List.set_cons_succ]
      refine ord_end ?_
      have O5 := Lib.hid (HSET.out r)
      have N5 : Hid (Only g w (wr.setCell ⟨g, i + j, none⟩ (.int .u32 r)).drew) := Lib.hid (ON1.out.set (i + j) (.int .u32 r))
      clear HSET
      generalize (wr.setCell ⟨g, i + j, none⟩ (.int .u32 r)).drew = w5 at *
      go_wp2_with fail
      go_roundw
      case rel => exact ⟨j + 1, _, _, rfl, by go_num, by omega, q0', q1', O5.out, HA1.out.set (by omega) r0 r1, HRQ.out, N5.out⟩
      case measure => simp only [intOf]; exact meas_lt hjM
    · obtain rfl : j = k := by omega
      have t1 : decide ((j : Int) < (j : Int)) = false := decide_eq_false (by omega)
      have jI2 : (j : Int) < (j : Int) + 1 := by omega
      have jN : (0 : Int) ≤ (j : Int) := by omega
      have E := HV1.out
      rw [List.take_of_length_le (by rw [HR.out.1]; omega)] at E
      obtain ⟨cx, fx⟩ := HO1.out.cell (i + j) (by rw [HN1.out]; omega)
      have zr := HA1.out.at (i + j)
      have hS := Lib.hid (fun (r q : Int) (h : r + 1 * (4294967296 * q) = L1[i + j]?.getD 0 + 1 * (0 + o)) => addm_end (by rw [HN1.out]; omega) E h)
      have HSET := Lib.hid (fun v => HO1.out.set hg (i + j) v)
      generalize L1[i + j]?.getD 0 = z at *
      clear E HV1
      go_wp2_with (go_at_call 31; go_must (refine (add32_steps z 0 o wr zr.1 zr.2 (by omega) (by omega) o0 o1).mono ?_; rintro e w' ⟨rfl, r, q', rfl, r0, r1, q0', q1', hrq⟩; have HRQ := Lib.hid (hS.out r q' hrq); have r0h := Lib.hid r0; have r1h := Lib.hid r1; have q0h := Lib.hid q0'; have q1h := Lib.hid q1'; clear hrq r0 r1 q0' q1'))
      go_ret
      exact ⟨_, _, rfl, q0h.out, q1h.out, HSET.out _, HA1.out.set (by omega) r0h.out r1h.out, HRQ.out, ON1.out.set _ _⟩

end Go.Proofs.Ythpdeaappchnpaa
