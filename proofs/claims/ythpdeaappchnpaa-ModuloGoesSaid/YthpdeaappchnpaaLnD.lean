/-
  What the package's combine answers, for stage 7 (limb).
-/
import Derived.Test.YthpdeaappchnpaaLnC
import Derived.Test.YthpdeaappchnpaaLimV
import Derived.WalkMore
namespace Go.Proofs.Ythpdeaappchnpaa
open Go.RowKit
set_option linter.unusedVariables false

theorem comb_mem {P V T c q r x y s z : Int} (hs : s = 1 ∨ s = -1) (h : z + s * (P * c) = V + s * T) (hr : r + s * (4294967296 * q) = x + s * (y + c)) : z + P * (r - x) + s * (P * 4294967296 * q) = V + s * (T + P * y) := by
  rcases hs with rfl | rfl
  · have e : r - x = y + c - 4294967296 * q := by omega
    rw [e, Int.mul_sub, Int.mul_add, ← Int.mul_assoc]
    omega
  · have e : r - x = 4294967296 * q - (y + c) := by omega
    rw [e, Int.mul_sub, Int.mul_add, ← Int.mul_assoc]
    omega
/-- A limb more of a sum, or of a difference. -/
theorem comb_step {zs ys : List Int} {i : Nat} {V s c q r : Int} (hs : s = 1 ∨ s = -1) (hi : i < zs.length) (h : valZ zs + s * (4294967296 ^ i * c) = V + s * valZ (ys.take i)) (hr : r + s * (4294967296 * q) = zs[i]?.getD 0 + s * (ys[i]?.getD 0 + c)) :
    valZ (zs.set i r) + s * (4294967296 ^ (i + 1) * q) = V + s * valZ (ys.take (i + 1)) := by
  rw [valZ_set zs i r hi, valZ_take, Int.pow_succ]
  exact comb_mem hs h hr
theorem comb_end {zs ys : List Int} {i N : Nat} {V s : Int} (hN : i ≤ N) (hi : ys.length ≤ i) (h : valZ zs + s * (4294967296 ^ i * 0) = V + s * valZ (ys.take i)) : valZ zs + s * (4294967296 ^ N * 0) = V + s * valZ (ys.take N) := by
  rw [valZ_all hi] at h
  rw [valZ_all (show ys.length ≤ N by omega), ← h]
  simp
theorem set_other {L1 L : List Int} {i : Nat} {r : Int} (h : ∀ j, i ≤ j → L1[j]?.getD 0 = L[j]?.getD 0) : ∀ j, i + 1 ≤ j → (L1.set i r)[j]?.getD 0 = L[j]?.getD 0 := by
  intro j hj
  rw [List.getElem?_set_ne (by omega)]
  exact h j (by omega)

/-- What combine leaves in the first N limbs of a row. -/
def Combined (W0 : World) (A : Option Addr) (n cap N : Nat) (L ys : List Int) (s : Int) (e : Ending) (w' : World) : Prop :=
  e = .returned (.tuple #[]) ∧ ∃ (L' : List Int) (q : Int), Out32 W0 w' (.slice A n cap) L' ∧ Limbs L' ∧ L'.length = n ∧ 0 ≤ q ∧ q ≤ 1 ∧ valZ L' + s * (4294967296 ^ N * q) = valZ L + s * valZ (ys.take N) ∧ ∀ i, N ≤ i → L'[i]?.getD 0 = L[i]?.getD 0

set_option maxHeartbeats 1000000 in
set_option maxRecDepth 10000 in
theorem combine_add (s : Int) (hst : Steps 31 s) (hs : s = 1 ∨ s = -1) (W0 w : World) (A b : Option Addr) (n cap N c m cb : Nat) (L ys : List Int) (ho : Out32 W0 w (.slice A n cap) L) (hln : L.length = n) (hA : 0 < N → ∃ g, A = some ⟨g, 0, none⟩ ∧ W0.heap.size ≤ g) (hN : N ≤ n) (hL : Limbs L) (hr : Row32 W0 b m ys) (hn : n ≤ 100001) (hm : m ≤ 100000) :
    Calls Try.prog 30 #[.slice A N c, .slice b m cb, .func (.func 31) #[] #[]] w (Combined W0 A n cap N L ys s) := by
  have ST := Lib.hid hst
  have HO := Lib.hid ho
  have HLN := Lib.hid hln
  have HLL := Lib.hid hL
  have HR := Lib.hid hr
  have HAA := Lib.hid hA
  have HS := Lib.hid hs
  clear hst ho hln hL hr hA hs
  go_enter Try.func30, Try.ntmps30
  go_wp2_with fail
  go_step3
  go_wp2_with fail
  go_step3
  go_wp2_with fail
  go_loopw [6, 11] (fun cV iV wr => ∃ (i : Nat) (q : Int) (L1 : List Int), cV = .int .u32 q ∧ iV = .int .i64 (i : Int) ∧ i ≤ N ∧ 0 ≤ q ∧ q ≤ 1 ∧ Out32 W0 wr (.slice A n cap) L1 ∧ Limbs L1 ∧ L1.length = n ∧ valZ L1 + s * (4294967296 ^ i * q) = valZ L + s * valZ (ys.take i) ∧ ∀ j, i ≤ j → L1[j]?.getD 0 = L[j]?.getD 0) (fun _ iV _ => (1000001 - intOf iV).toNat)
  case atStart => exact ⟨0, 0, L, rfl, rfl, by omega, by omega, by omega, HO.out, HLL.out, HLN.out, by simp [valZ], fun _ _ => rfl⟩
  case round =>
    obtain ⟨i, q, L1, rfl, rfl, hi, q0, q1, ho, hL, hlen, hval, hsame⟩ := hrel
    have HO1 := Lib.hid ho
    have HL1 := Lib.hid hL
    have HN1 := Lib.hid hlen
    have HV1 := Lib.hid hval
    have HQ1 := Lib.hid hsame
    have RB := Lib.hid (HR.out.below ho.2)
    clear ho hL hlen hval hsame HO
    by_cases hmore : i < N
    · have t1 : decide ((i : Int) < (N : Int)) = true := decide_eq_true (by omega)
      obtain ⟨g, rfl, hg⟩ := HAA.out (by omega)
      have hiM : i ≤ 1000000 := by omega
      have iI : (i : Int) < (N : Int) := by omega
      have iN : (0 : Int) ≤ (i : Int) := by omega
      by_cases him : i < m
      · have t2 : decide ((i : Int) < (m : Int)) = true := decide_eq_true (by omega)
        have iM : (i : Int) < (m : Int) := by omega
        obtain ⟨b1, o1, rfl, hb1, hc1⟩ := RB.out.2.2 (by omega)
        have cy := hc1 i him
        obtain ⟨cx, fx⟩ := HO1.out.cell i (by rw [HN1.out]; omega)
        have xr := HL1.out.at i
        have yr := RB.out.num i
        have CS := Lib.hid (fun (r q' : Int) (h : r + s * (4294967296 * q') = L1[i]?.getD 0 + s * (ys[i]?.getD 0 + q)) => comb_step HS.out (by rw [HN1.out]; omega) HV1.out h)
        have HSET := Lib.hid (fun v => HO1.out.set hg i v)
        generalize L1[i]?.getD 0 = x at *
        generalize ys[i]?.getD 0 = y at *
        clear hc1 HV1
        go_wp2_with (go_at_call 31; go_must (refine (ST.out x y q wr xr.1 xr.2 yr.1 yr.2 q0 q1).mono ?_; rintro e w' ⟨rfl, r, q', rfl, r0, r1, q0', q1', hrq⟩; have HRQ := Lib.hid (CS.out r q' hrq); have r0h := Lib.hid r0; have r1h := Lib.hid r1; have q0h := Lib.hid q0'; have q1h := Lib.hid q1'; clear hrq r0 r1 q0' q1'))
        go_roundw
        case rel => exact ⟨i + 1, _, _, rfl, by go_num, by omega, q0h.out, q1h.out, HSET.out _, limbs_set HL1.out i r0h.out r1h.out, by rw [List.length_set]; exact HN1.out, HRQ.out, set_other HQ1.out⟩
        case measure => simp only [intOf]; exact meas_lt hiM
      · have t2 : decide ((i : Int) < (m : Int)) = false := decide_eq_false (by omega)
        have yz : ys[i]?.getD 0 = 0 := by rw [List.getElem?_eq_none (by rw [HR.out.1]; omega)]; rfl
        by_cases hq : q = 0
        · have t3 : (q == 0) = true := by simpa using hq
          subst hq
          have E := Lib.hid (comb_end (N := N) (by omega) (by rw [HR.out.1]; omega) HV1.out)
          go_wp2_with fail
          refine bodyPost_end (results_none rfl _ _ _) rfl ?_
          exact ⟨rfl, L1, 0, HO1.out, HL1.out, HN1.out, by omega, by omega, E.out, fun j hj => HQ1.out j (by omega)⟩
        · have t3 : (q == 0) = false := by simpa using hq
          obtain ⟨cx, fx⟩ := HO1.out.cell i (by rw [HN1.out]; omega)
          have xr := HL1.out.at i
          have CS := Lib.hid (fun (r q' : Int) (h : r + s * (4294967296 * q') = L1[i]?.getD 0 + s * (0 + q)) => comb_step HS.out (by rw [HN1.out]; omega) HV1.out (by rw [yz]; exact h))
          have HSET := Lib.hid (fun v => HO1.out.set hg i v)
          generalize L1[i]?.getD 0 = x at *
          clear HV1 yz
          go_wp2_with (go_at_call 31; go_must (refine (ST.out x 0 q wr xr.1 xr.2 (by omega) (by omega) q0 q1).mono ?_; rintro e w' ⟨rfl, r, q', rfl, r0, r1, q0', q1', hrq⟩; have HRQ := Lib.hid (CS.out r q' hrq); have r0h := Lib.hid r0; have r1h := Lib.hid r1; have q0h := Lib.hid q0'; have q1h := Lib.hid q1'; clear hrq r0 r1 q0' q1'))
          go_roundw
          case rel => exact ⟨i + 1, _, _, rfl, by go_num, by omega, q0h.out, q1h.out, HSET.out _, limbs_set HL1.out i r0h.out r1h.out, by rw [List.length_set]; exact HN1.out, HRQ.out, set_other HQ1.out⟩
          case measure => simp only [intOf]; exact meas_lt hiM
    · obtain rfl : i = N := by omega
      have t1 : decide ((i : Int) < (i : Int)) = false := decide_eq_false (by omega)
      go_wp2_with fail
      refine bodyPost_end (results_none rfl _ _ _) rfl ?_
      exact ⟨rfl, L1, q, HO1.out, HL1.out, HN1.out, q0, q1, HV1.out, HQ1.out⟩

set_option maxHeartbeats 1000000 in
set_option maxRecDepth 10000 in
theorem combine_sub (s : Int) (hst : Steps 46 s) (hs : s = 1 ∨ s = -1) (W0 w : World) (A b : Option Addr) (n cap N c m cb : Nat) (L ys : List Int) (ho : Out32 W0 w (.slice A n cap) L) (hln : L.length = n) (hA : 0 < N → ∃ g, A = some ⟨g, 0, none⟩ ∧ W0.heap.size ≤ g) (hN : N ≤ n) (hL : Limbs L) (hr : Row32 W0 b m ys) (hn : n ≤ 100001) (hm : m ≤ 100000) :
    Calls Try.prog 30 #[.slice A N c, .slice b m cb, .func (.func 46) #[] #[]] w (Combined W0 A n cap N L ys s) := by
  have ST := Lib.hid hst
  have HO := Lib.hid ho
  have HLN := Lib.hid hln
  have HLL := Lib.hid hL
  have HR := Lib.hid hr
  have HAA := Lib.hid hA
  have HS := Lib.hid hs
  clear hst ho hln hL hr hA hs
  go_enter Try.func30, Try.ntmps30
  go_wp2_with fail
  go_step3
  go_wp2_with fail
  go_step3
  go_wp2_with fail
  go_loopw [6, 11] (fun cV iV wr => ∃ (i : Nat) (q : Int) (L1 : List Int), cV = .int .u32 q ∧ iV = .int .i64 (i : Int) ∧ i ≤ N ∧ 0 ≤ q ∧ q ≤ 1 ∧ Out32 W0 wr (.slice A n cap) L1 ∧ Limbs L1 ∧ L1.length = n ∧ valZ L1 + s * (4294967296 ^ i * q) = valZ L + s * valZ (ys.take i) ∧ ∀ j, i ≤ j → L1[j]?.getD 0 = L[j]?.getD 0) (fun _ iV _ => (1000001 - intOf iV).toNat)
  case atStart => exact ⟨0, 0, L, rfl, rfl, by omega, by omega, by omega, HO.out, HLL.out, HLN.out, by simp [valZ], fun _ _ => rfl⟩
  case round =>
    obtain ⟨i, q, L1, rfl, rfl, hi, q0, q1, ho, hL, hlen, hval, hsame⟩ := hrel
    have HO1 := Lib.hid ho
    have HL1 := Lib.hid hL
    have HN1 := Lib.hid hlen
    have HV1 := Lib.hid hval
    have HQ1 := Lib.hid hsame
    have RB := Lib.hid (HR.out.below ho.2)
    clear ho hL hlen hval hsame HO
    by_cases hmore : i < N
    · have t1 : decide ((i : Int) < (N : Int)) = true := decide_eq_true (by omega)
      obtain ⟨g, rfl, hg⟩ := HAA.out (by omega)
      have hiM : i ≤ 1000000 := by omega
      have iI : (i : Int) < (N : Int) := by omega
      have iN : (0 : Int) ≤ (i : Int) := by omega
      by_cases him : i < m
      · have t2 : decide ((i : Int) < (m : Int)) = true := decide_eq_true (by omega)
        have iM : (i : Int) < (m : Int) := by omega
        obtain ⟨b1, o1, rfl, hb1, hc1⟩ := RB.out.2.2 (by omega)
        have cy := hc1 i him
        obtain ⟨cx, fx⟩ := HO1.out.cell i (by rw [HN1.out]; omega)
        have xr := HL1.out.at i
        have yr := RB.out.num i
        have CS := Lib.hid (fun (r q' : Int) (h : r + s * (4294967296 * q') = L1[i]?.getD 0 + s * (ys[i]?.getD 0 + q)) => comb_step HS.out (by rw [HN1.out]; omega) HV1.out h)
        have HSET := Lib.hid (fun v => HO1.out.set hg i v)
        generalize L1[i]?.getD 0 = x at *
        generalize ys[i]?.getD 0 = y at *
        clear hc1 HV1
        go_wp2_with (go_at_call 46; go_must (refine (ST.out x y q wr xr.1 xr.2 yr.1 yr.2 q0 q1).mono ?_; rintro e w' ⟨rfl, r, q', rfl, r0, r1, q0', q1', hrq⟩; have HRQ := Lib.hid (CS.out r q' hrq); have r0h := Lib.hid r0; have r1h := Lib.hid r1; have q0h := Lib.hid q0'; have q1h := Lib.hid q1'; clear hrq r0 r1 q0' q1'))
        go_roundw
        case rel => exact ⟨i + 1, _, _, rfl, by go_num, by omega, q0h.out, q1h.out, HSET.out _, limbs_set HL1.out i r0h.out r1h.out, by rw [List.length_set]; exact HN1.out, HRQ.out, set_other HQ1.out⟩
        case measure => simp only [intOf]; exact meas_lt hiM
      · have t2 : decide ((i : Int) < (m : Int)) = false := decide_eq_false (by omega)
        have yz : ys[i]?.getD 0 = 0 := by rw [List.getElem?_eq_none (by rw [HR.out.1]; omega)]; rfl
        by_cases hq : q = 0
        · have t3 : (q == 0) = true := by simpa using hq
          subst hq
          have E := Lib.hid (comb_end (N := N) (by omega) (by rw [HR.out.1]; omega) HV1.out)
          go_wp2_with fail
          refine bodyPost_end (results_none rfl _ _ _) rfl ?_
          exact ⟨rfl, L1, 0, HO1.out, HL1.out, HN1.out, by omega, by omega, E.out, fun j hj => HQ1.out j (by omega)⟩
        · have t3 : (q == 0) = false := by simpa using hq
          obtain ⟨cx, fx⟩ := HO1.out.cell i (by rw [HN1.out]; omega)
          have xr := HL1.out.at i
          have CS := Lib.hid (fun (r q' : Int) (h : r + s * (4294967296 * q') = L1[i]?.getD 0 + s * (0 + q)) => comb_step HS.out (by rw [HN1.out]; omega) HV1.out (by rw [yz]; exact h))
          have HSET := Lib.hid (fun v => HO1.out.set hg i v)
          generalize L1[i]?.getD 0 = x at *
          clear HV1 yz
          go_wp2_with (go_at_call 46; go_must (refine (ST.out x 0 q wr xr.1 xr.2 (by omega) (by omega) q0 q1).mono ?_; rintro e w' ⟨rfl, r, q', rfl, r0, r1, q0', q1', hrq⟩; have HRQ := Lib.hid (CS.out r q' hrq); have r0h := Lib.hid r0; have r1h := Lib.hid r1; have q0h := Lib.hid q0'; have q1h := Lib.hid q1'; clear hrq r0 r1 q0' q1'))
          go_roundw
          case rel => exact ⟨i + 1, _, _, rfl, by go_num, by omega, q0h.out, q1h.out, HSET.out _, limbs_set HL1.out i r0h.out r1h.out, by rw [List.length_set]; exact HN1.out, HRQ.out, set_other HQ1.out⟩
          case measure => simp only [intOf]; exact meas_lt hiM
    · obtain rfl : i = N := by omega
      have t1 : decide ((i : Int) < (i : Int)) = false := decide_eq_false (by omega)
      go_wp2_with fail
      refine bodyPost_end (results_none rfl _ _ _) rfl ?_
      exact ⟨rfl, L1, q, HO1.out, HL1.out, HN1.out, q0, q1, HV1.out, HQ1.out⟩

end Go.Proofs.Ythpdeaappchnpaa
