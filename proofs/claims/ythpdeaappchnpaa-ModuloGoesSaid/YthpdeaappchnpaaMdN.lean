/-
  What the reference's DivMod answers, for stage 8 (modulo).
-/
import Derived.Test.YthpdeaappchnpaaMdM
namespace Go.Proofs.Ythpdeaappchnpaa
open Go.RowKit
set_option linter.unusedVariables false

/-- A number doubled, with room. -/
theorem dbl_end {L0 L : List Int} {N : Nat} {c o : Int} (hl0 : L0.length = N + 1) (hl : L.length = N + 1) (hL : Limbs L) (c1 : c ≤ 1) (o0 : 0 ≤ o) (hv : valZ L0 < 4294967296 ^ N) (h : valZ L = valZ L0 + valZ (L0.take (N + 1)) + c - 4294967296 ^ (N + 1) * o) : valZ L = 2 * valZ L0 + c := by
  rw [List.take_of_length_le (by omega)] at h
  have n := valZ_nonneg hL
  rw [Int.pow_succ] at h
  have p := pow_pos32 N
  generalize (4294967296 : Int) ^ N = B at *
  rcases (show o = 0 ∨ 1 ≤ o by omega) with rfl | ho
  · omega
  · have := Int.mul_le_mul_of_nonneg_left ho (show (0 : Int) ≤ B * 4294967296 by omega)
    omega
/-- A difference in place, with nothing owed. -/
theorem low_end {L1 L ns : List Int} {N : Nat} {o : Int} (hl1 : ns.length = N + 1) (hl : L.length = N + 1) (hL : Limbs L) (o0 : 0 ≤ o) (hle : valZ ns ≤ valZ L1) (h : valZ L = valZ L1 - valZ (ns.take (N + 1)) + 4294967296 ^ (N + 1) * o) : valZ L = valZ L1 - valZ ns := by
  rw [List.take_of_length_le (by omega)] at h
  have n := valZ_lt hL
  rw [hl] at n
  generalize (4294967296 : Int) ^ (N + 1) = B at *
  have n0 := valZ_nonneg hL
  rcases (show o = 0 ∨ 1 ≤ o by omega) with rfl | ho
  · omega
  · have := Int.mul_le_mul_of_nonneg_left ho (show (0 : Int) ≤ B by omega)
    omega
theorem bitdiv_end {A M r q : Int} (h : BitDiv A M 0 r q) : r = A % M ∧ q = A / M := by
  obtain ⟨h1, h2⟩ := h
  simp at h1 h2
  exact ⟨h1, h2⟩

set_option maxHeartbeats 4000000 in
set_option maxRecDepth 100000 in
theorem rdivmod_call {w : World} {x m : Int} {a b : Option Addr} {n k ca cb : Nat} (hx : Num w x a n ca) (hm : Num w m b k cb) (hn : n ≤ 30000) (hk : k ≤ 30000) :
    Calls Try.prog 10 #[.slice a n ca, .slice b k cb] w (ResQ x m n k w) := by
  obtain ⟨i0, hi, hz0, hz1, hz2⟩ := info_parts Try.info32
  have m0 := hm.nonneg.1
  have x0 := hx.nonneg.1
  have QL := Lib.hid (quo_len hx.nonneg m0)
  have RL := Lib.hid (rem_len (x := x) hm.nonneg)
  have mlk : (limZ m).length ≤ k := limZ_le hm.nonneg.1 hm.nonneg.2
  have X1 : Hid (x < 2 ^ (32 * n)) := Lib.hid (by have := hx.nonneg.2; rwa [pow32] at this)
  obtain ⟨ys, hyr, hyv, hyc, hyn⟩ := hm
  have BC := Lib.hid (rbare_own b k cb ys w hyr hyc (by omega) hyn)
  rw [hyv] at BC
  obtain ⟨xs, hxr, hxv, hxc, hxn⟩ := hx
  have HX := Lib.hid hxr
  have HXV := Lib.hid hxv
  have VM := Lib.hid (limZ_val m0)
  have LM := Lib.hid (limZ_limbs m)
  have Z2 := Lib.hid hz2
  clear hyr hyv hyc hyn hxr hxv hxc hxn hz2
  go_enter Try.func10, Try.ntmps10
  go_wp2_with fail
  refine BC.out.mono ?_
  rintro e w2 ⟨V, rfl, ho⟩
  have HO := Lib.hid ho
  clear BC
  by_cases h0 : (limZ m).length = 0
  · have hz := limZ_nil m0 h0
    subst hz
    obtain ⟨a2, c2, rfl, _⟩ := ho.row LM.out
    have hl0 : ((limZ 0).length : Int) = 0 := by rw [h0]; rfl
    clear ho
    go_wp2_with fail
    go_ret3
    exact ⟨none, 0, 0, none, 0, 0, by simp, by rw [Int.ediv_zero]; exact norm_nil _, norm_nil _, Nat.zero_le _, Nat.zero_le _, HO.out.2⟩
  · obtain ⟨g2, cap2, rfl, hg2⟩ := ho.form (by omega)
    have mp : 0 < m := by
      rcases (show m = 0 ∨ 0 < m by omega) with h | h
      · subst h
        exact absurd (by rw [limZ_zero]; rfl) h0
      · exact h
    obtain ⟨N, hN⟩ : ∃ N, (limZ m).length = N := ⟨_, rfl⟩
    rw [hN] at HO h0 mlk ⊢
    have HN := Lib.hid hN
    have t0 : ((N : Int) == 0) = false := by simp; omega
    have MN : Hid (m < 4294967296 ^ N) := Lib.hid (by have := valZ_lt LM.out; rwa [VM.out, hN] at this)
    clear ho hN
    have O3 := Lib.hid (HO.out.alloc (.cells #[.int .u32 0] 35))
    have Z3 : Hid (Row32 (w2.alloc (.cells #[.int .u32 0] 35)) (some ⟨w2.heap.size, 0, none⟩) 1 [0]) := Lib.hid (row32_const w2 [0] (by intro x hx; simp at hx; omega))
    have hN1 : (limZ m).length + 1 ≤ 1000000 := by rw [HN.out]; omega
    have LN1 : Hid ((limZ m ++ [0]).length = N + 1) := Lib.hid (by rw [List.length_append, HN.out]; rfl)
    have VN1 : Hid (valZ (limZ m ++ [0]) = m) := Lib.hid (by rw [valZ_append, VM.out]; simp [valZ])
    have LL1 : Hid (Limbs (limZ m ++ [0])) := Lib.hid (limbs_snoc LM.out (by omega) (by omega))
    generalize hns : limZ m ++ [0] = ns at *
    have HNS := Lib.hid hns
    clear hns
    have wN : IntKind.i64.wrap (32 * (n : Int)) = 32 * (n : Int) := IntWalk.i64_in _ (by omega)
    have wN2 : IntKind.i64.wrap (32 * (n : Int) - 1) = 32 * (n : Int) - 1 := IntWalk.i64_in _ (by omega)
    go_wp2_with (first
      | (at_builtin; go_must (refine out_append32 (W0 := w) (L := limZ m) (zs := [0]) rfl _ _ rfl rfl O3.out rfl Z3.out (fun e => by cases e) hN1 ?_; intro V4 w4 ho4; rw [HNS.out] at ho4; obtain ⟨g4, cap4, rfl, hg4⟩ := ho4.form (by rw [LN1.out]; omega); rw [LN1.out] at ho4 ⊢; have O4 := Lib.hid ho4; clear ho4))
      | (at_make; refine wpList_make_full _ rfl _ _ 22 rfl w4.heap.size 35 i0 (.int .u32 0) 1 Try.underlying22 hi hz0 hz1 _ _ _ _ (N + 1) rfl rfl ?b0 ?b00 ?b1 ?b2 ?b3 ?_))
    case b0 => first | rfl | omega
    case b00 => first | rfl | omega
    case b1 => rw [Z2.out]; omega
    case b2 => unfold maxLen; omega
    case b3 => exact Nat.le_refl _
    intro w5 hown0 hgrow
    have R5 := Lib.hid (out_made32 hown0 hgrow)
    have B4 := Lib.hid O4.out.2
    have NR : Hid (Row32 w4 (some ⟨g4, 0, none⟩) (N + 1) ns) := Lib.hid (O4.out.normed LL1.out).1
    have X4 := Lib.hid (HX.out.below B4.out)
    clear hown0 hgrow O4 O3 Z3 HO HX HNS hN1
    go_wp2_with (at_make; refine wpList_make_full _ rfl _ _ 22 rfl w5.heap.size 35 i0 (.int .u32 0) 1 Try.underlying22 hi hz0 hz1 _ _ _ _ n rfl rfl ?b0 ?b00 ?b1 ?b2 ?b3 ?_)
    case b0 => first | rfl | omega
    case b00 => first | rfl | omega
    case b1 => rw [Z2.out]; omega
    case b2 => unfold maxLen; omega
    case b3 => exact Nat.le_refl _
    intro w6 hown0 hgrow
    have R6 := Lib.hid (R5.out.below (out_made32 hown0 hgrow).2)
    have Q6 := Lib.hid ((out_made32 hown0 hgrow).wider R5.out.2)
    have hlt45 := R5.out.lt
    have hle5 := R5.out.2.size
    clear hown0 hgrow R5 Z2 hz1 hz0 hi
    generalize w5.heap.size = gq at *
    obtain ⟨gr, hgr⟩ : ∃ gr, w4.heap.size = gr := ⟨_, rfl⟩
    rw [hgr] at R6 hlt45 hle5 ⊢
    have HG4 := Lib.hid hgr
    have hne : gq ≠ gr := by omega
    clear hgr
    go_wp2_with fail
    go_loopw [10] (fun iV wr => ∃ (kk : Nat) (L Q : List Int), iV = .int .i64 ((kk : Int) - 1) ∧ kk ≤ 32 * n ∧ Out32 w4 wr (.slice (some ⟨gr, 0, none⟩) (N + 1) (N + 1)) L ∧ Limbs L ∧ L.length = N + 1 ∧ valZ L < m ∧ Out32 w4 wr (.slice (some ⟨gq, 0, none⟩) n n) Q ∧ Limbs Q ∧ Q.length = n ∧ BitDiv x m kk (valZ L) (valZ Q)) (fun iV _ => (intOf iV + 1).toNat)
    case atStart => exact ⟨32 * n, _, _, rfl, Nat.le_refl _, R6.out, limbs_zeros _, by simp, by rw [valZ_zeros]; exact mp, Q6.out, limbs_zeros _, by simp, by rw [valZ_zeros, valZ_zeros]; exact bitdiv_start x0 X1.out mp⟩
    case round =>
      obtain ⟨kk, L, Q, rfl, hkk, hor, hLL, hln, hlt, hoq, hLQ, hlq, hbd⟩ := hrel
      have HOR := Lib.hid hor
      have HLL := Lib.hid hLL
      have HLN := Lib.hid hln
      have HLT := Lib.hid hlt
      have HOQ := Lib.hid hoq
      have HLQ := Lib.hid hLQ
      have HQN := Lib.hid hlq
      have HBD := Lib.hid hbd
      have X7 := Lib.hid (X4.out.below hor.2)
      clear hor hLL hln hlt hoq hLQ hlq hbd R6 Q6
      rcases Nat.eq_zero_or_pos kk with hk0 | hk0
      · subst hk0
        rw [show ((0 : Nat) : Int) - 1 = -1 by rfl]
        have t0 : decide ((0 : Int) ≤ -1) = false := by decide
        have E := bitdiv_end HBD.out
        have RQ := HOQ.out.normed HLQ.out
        have RR := HOR.out.normed HLL.out
        have NQ : Num wr (x / m) (some ⟨gq, 0, none⟩) n n := ⟨Q, RQ.1, E.2, RQ.2.1, RQ.2.2⟩
        have NR : Num wr (remZ x m) (some ⟨gr, 0, none⟩) (N + 1) (N + 1) := ⟨L, RR.1, by rw [remZ_pos mp]; exact E.1, RR.2.1, RR.2.2⟩
        have C1 := Lib.hid (rbare_call NQ (by omega))
        have H1 := Lib.hid NR
        have HB3 := Lib.hid (B4.out.trans (HOQ.out.2.mono B4.out.size))
        clear RQ RR NQ NR E HOR HOQ
        go_wp2_with fail
        refine C1.out.mono ?_
        rintro e w8 ⟨q1, l1, c1, rfl, hN1, hl1, hb4⟩
        have C2 := Lib.hid (rbare_call (H1.out.below hb4) (by omega))
        have HN1 := Lib.hid hN1
        have HB4 := Lib.hid hb4
        clear hN1 hb4 C1 H1
        go_wp2_with fail
        refine C2.out.mono ?_
        rintro e w9 ⟨q2, l2, c2, rfl, hN2, hl2, hb5⟩
        have HN2 := Lib.hid hN2
        have HB5 := Lib.hid hb5
        clear hN2 hb5 C2
        go_wp2_with fail
        go_ret3
        exact ⟨q1, l1, c1, q2, l2, c2, by rw [show decide (m = 0) = false from decide_eq_false (by omega)]; rfl, HN1.out.below HB5.out, HN2.out, by rw [HN1.out.1]; exact QL.out, by rw [HN2.out.1]; exact RL.out, Below.step (Below.step HB3.out HB4.out) HB5.out⟩
      · obtain ⟨j, rfl⟩ : ∃ j, kk = j + 1 := ⟨kk - 1, by omega⟩
        rw [show ((j + 1 : Nat) : Int) - 1 = (j : Int) by omega]
        have t0 : decide ((0 : Int) ≤ (j : Int)) = true := decide_eq_true (by omega)
        have BT := Lib.hid (rbit_any a n ca j xs wr X7.out (by omega) (by omega))
        rw [HXV.out] at BT
        have LOW := Lib.hid (bitdiv_low mp HBD.out)
        have HIGH := Lib.hid (bitdiv_high mp HBD.out)
        have c01 : x / 2 ^ j % 2 = 0 ∨ x / 2 ^ j % 2 = 1 := by omega
        generalize x / 2 ^ j % 2 = c at *
        go_wp2_with fail
        refine BT.out.mono ?_
        rintro e w7 ⟨rfl, hw7⟩
        subst hw7
        clear BT
        go_wp2_with fail
        go_loopw [11, 12] (fun cV iV w7 => ∃ (i : Nat) (o : Int) (L1 : List Int), cV = .int .u32 o ∧ iV = .int .i64 (i : Int) ∧ i ≤ N + 1 ∧ 0 ≤ o ∧ o ≤ 1 ∧ Out32 w4 w7 (.slice (some ⟨gr, 0, none⟩) (N + 1) (N + 1)) L1 ∧ Limbs L1 ∧ L1.length = N + 1 ∧ (∀ l, i ≤ l → L1[l]?.getD 0 = L[l]?.getD 0) ∧ valZ L1 = valZ L + valZ (L.take i) + c - 4294967296 ^ i * o ∧ Out32 w4 w7 (.slice (some ⟨gq, 0, none⟩) n n) Q) (fun _ iV _ => (1000001 - intOf iV).toNat)
        case atStart => exact ⟨0, c, L, rfl, rfl, by omega, by omega, by omega, HOR.out, HLL.out, HLN.out, fun _ _ => rfl, by simp [valZ], HOQ.out⟩
        case round =>
          obtain ⟨i, o, L1, rfl, rfl, hi, o0, o1, ho1, hL1, hn1, hs1, hv1, hq1⟩ := hrel
          have O1 := Lib.hid ho1
          have LL := Lib.hid hL1
          have N1 := Lib.hid hn1
          have S1 := Lib.hid hs1
          have V1 := Lib.hid hv1
          have Q1 := Lib.hid hq1
          clear ho1 hL1 hn1 hs1 hv1 hq1 HOR HOQ X7
          by_cases hmore : i < N + 1
          · have t1 : decide ((i : Int) < (N : Int) + 1) = true := decide_eq_true (by omega)
            have iI : (i : Int) < (N : Int) + 1 := by omega
            have iM : i ≤ 1000000 := by omega
            obtain ⟨cx, fx⟩ := O1.out.cell i (by rw [N1.out]; omega)
            have zr := LL.out.at i
            have ST := dbl_step (L0 := L) (by rw [N1.out]; omega) (S1.out i (Nat.le_refl _)) V1.out
            have HSET := Lib.hid (fun v => O1.out.set (by rw [HG4.out]; exact Nat.le_refl _) i v)
            rw [← S1.out i (Nat.le_refl _)] at ST
            generalize L1[i]?.getD 0 = z at *
            have k1 : IntKind.u32.wrap (z * 2) = z * 2 % 4294967296 := rfl
            have k3 : bits .or .u32 (z * 2 % 4294967296) o = z * 2 % 4294967296 + o := or_one (by omega) (by omega) (by omega) (by omega)
            have k4 : IntKind.u32.wrap (z / 2147483648) = z / 2147483648 := IntWalk.u32_in _ (by omega)
            have e31 : z * 2 / 4294967296 = z / 2147483648 := by omega
            rw [e31] at ST
            have HST := Lib.hid ST
            have LN := Lib.hid (limbs_set LL.out i (v := z * 2 % 4294967296 + o) (by omega) (by omega))
            have SO := Lib.hid (set_other (i := i) (r := z * 2 % 4294967296 + o) S1.out)
            have z0 : 0 ≤ z / 2147483648 := by omega
            have z1 : z / 2147483648 ≤ 1 := by omega
            have O2 := Lib.hid (HSET.out (z * 2 % 4294967296 + o))
            have Q2 := Lib.hid (Q1.out.only (Only.set (.refl gr wr) i (.int .u32 (z * 2 % 4294967296 + o))) hne (O1.out.2.setCell (p := ⟨gr, i, none⟩) (by rw [HG4.out]; exact Nat.le_refl _) _))
            clear ST V1 S1 e31 HSET
            go_wp2_with fail
            go_roundw
            case rel => exact ⟨i + 1, _, _, rfl, by go_num, by omega, z0, z1, O2.out, LN.out, by rw [List.length_set]; exact N1.out, SO.out, HST.out, Q2.out⟩
            case measure => simp only [intOf]; exact meas_lt iM
          · obtain rfl : i = N + 1 := by omega
            have t1 : decide ((N : Int) + 1 < (N : Int) + 1) = false := decide_eq_false (by omega)
            have VV := Lib.hid (dbl_end HLN.out N1.out LL.out (by omega) o0 (by have := HLT.out; have := MN.out; omega) V1.out)
            have RL1 := Lib.hid (rless_any (some ⟨gr, 0, none⟩) (some ⟨g4, 0, none⟩) (N + 1) (N + 1) cap4 L1 ns wr (O1.out.normed LL.out).1 (NR.out.below O1.out.2) (by omega))
            rw [VN1.out, VV.out] at RL1
            clear V1 S1
            go_wp2_with fail
            refine RL1.out.mono ?_
            rintro e w8 ⟨rfl, dq, rfl⟩
            have O8 := Lib.hid (O1.out.drewN dq)
            have Q8 := Lib.hid (Q1.out.drewN dq)
            clear RL1 O1 Q1
            generalize wr.drewN dq = w8 at *
            by_cases hcm : 2 * valZ L + c < m
            · have t2 : decide (2 * valZ L + c < m) = true := decide_eq_true hcm
              have BD := Lib.hid (LOW.out hcm)
              rw [← VV.out] at BD
              have S8 : Hid (valZ L1 < m) := Lib.hid (by rw [VV.out]; exact hcm)
              clear LOW HIGH
              go_wp2_with fail
              go_roundw
              case rel => exact ⟨j, L1, Q, rfl, by omega, O8.out, LL.out, N1.out, S8.out, Q8.out, HLQ.out, HQN.out, BD.out⟩
              case measure => simp only [intOf]; omega
            · have t2 : decide (2 * valZ L + c < m) = false := decide_eq_false hcm
              have BD := Lib.hid (HIGH.out (by omega))
              rw [← VV.out] at BD
              have GE : Hid (m ≤ valZ L1) := Lib.hid (by rw [VV.out]; omega)
              have UP : Hid (valZ L1 < 2 * m) := Lib.hid (by rw [VV.out]; have := HLT.out; omega)
              clear LOW HIGH
              go_wp2_with fail
              go_loopw [14, 15] (fun oV iV w9 => ∃ (i : Nat) (o : Int) (L2 : List Int), oV = .int .u64 o ∧ iV = .int .i64 (i : Int) ∧ i ≤ N + 1 ∧ 0 ≤ o ∧ o ≤ 1 ∧ Out32 w4 w9 (.slice (some ⟨gr, 0, none⟩) (N + 1) (N + 1)) L2 ∧ Limbs L2 ∧ L2.length = N + 1 ∧ (∀ l, i ≤ l → L2[l]?.getD 0 = L1[l]?.getD 0) ∧ valZ L2 = valZ L1 - valZ (ns.take i) + 4294967296 ^ i * o ∧ Out32 w4 w9 (.slice (some ⟨gq, 0, none⟩) n n) Q) (fun _ iV _ => (1000001 - intOf iV).toNat)
              case atStart => exact ⟨0, 0, L1, rfl, rfl, by omega, by omega, by omega, O8.out, LL.out, N1.out, fun _ _ => rfl, by simp [valZ], Q8.out⟩
              case round =>
                obtain ⟨i, o, L2, rfl, rfl, hi, o0, o1, ho1, hL1, hn1, hs1, hv1, hq1⟩ := hrel
                have O9 := Lib.hid ho1
                have LL2 := Lib.hid hL1
                have N2 := Lib.hid hn1
                have S2 := Lib.hid hs1
                have V2 := Lib.hid hv1
                have Q9 := Lib.hid hq1
                clear ho1 hL1 hn1 hs1 hv1 hq1 O8 Q8
                by_cases hmore : i < N + 1
                · have t1 : decide ((i : Int) < (N : Int) + 1) = true := decide_eq_true (by omega)
                  have iI : (i : Int) < (N : Int) + 1 := by omega
                  have iM : i ≤ 1000000 := by omega
                  obtain ⟨cx, fx⟩ := O9.out.cell i (by rw [N2.out]; omega)
                  obtain ⟨b4, o4, e4, hb4, hc4⟩ := NR.out.2.2 (by omega)
                  injection e4 with e4
                  injection e4 with e4 e5
                  subst e4 e5
                  have cy := (O9.out.2.cell (p := ⟨g4, 0 + i, none⟩) hb4).trans (hc4 i hmore)
                  rw [Nat.zero_add] at cy
                  have zr := LL2.out.at i
                  have yr := NR.out.num i
                  have ST := Lib.hid (fun o' => low_step (L0 := L1) (L := L2) (ns := ns) (i := i) (o := o) (o' := o') (by rw [N2.out]; omega) (S2.out i (Nat.le_refl _)) V2.out)
                  have HSET := Lib.hid (fun v => O9.out.set (by rw [HG4.out]; exact Nat.le_refl _) i v)
                  have HFAR := Lib.hid (fun v => Q9.out.only (Only.set (.refl gr wr) i (.int .u32 v)) hne (O9.out.2.setCell (p := ⟨gr, i, none⟩) (by rw [HG4.out]; exact Nat.le_refl _) (.int .u32 v)))
                  have SOF := Lib.hid (fun r => set_other (i := i) (r := r) S2.out)
                  have LNF := Lib.hid (fun v h1 h2 => limbs_set LL2.out i (v := v) h1 h2)
                  rw [← S2.out i (Nat.le_refl _)] at ST
                  generalize L2[i]?.getD 0 = z at *
                  generalize ns[i]?.getD 0 = y at *
                  have k1 : IntKind.u64.wrap y = y := IntWalk.u64_in _ (by omega)
                  have k2 : IntKind.u64.wrap (y + o) = y + o := IntWalk.u64_in _ (by omega)
                  have k3 : IntKind.u64.wrap z = z := IntWalk.u64_in _ (by omega)
                  clear hc4 V2 S2
                  by_cases hzy : z < y + o
                  · have t3 : decide (z < y + o) = true := decide_eq_true hzy
                    have k5 : IntKind.u64.wrap (z - (y + o)) = z - (y + o) + 18446744073709551616 := by
                      show (z - (y + o)) % 18446744073709551616 = _
                      omega
                    have k6 : IntKind.u32.wrap (z - (y + o) + 18446744073709551616) = z - (y + o) + 4294967296 := by
                      show (z - (y + o) + 18446744073709551616) % 4294967296 = _
                      omega
                    have k6' : (z - (y + o) + 18446744073709551616) % 4294967296 = z - (y + o) + 4294967296 := by omega
                    have HST := ST.out 1
                    rw [Int.mul_one 4294967296] at HST
                    have HS := Lib.hid HST
                    have O10 := Lib.hid (HSET.out (z - (y + o) + 4294967296))
                    have Q10 := Lib.hid (HFAR.out (z - (y + o) + 4294967296))
                    have SO := Lib.hid (SOF.out (z - (y + o) + 4294967296))
                    have LN := Lib.hid (LNF.out (z - (y + o) + 4294967296) (by omega) (by omega))
                    clear ST HST HSET HFAR SOF LNF
                    go_wp2_with fail
                    go_roundw
                    case rel => exact ⟨i + 1, _, _, rfl, by go_num, by omega, by omega, by omega, O10.out, LN.out, by rw [List.length_set]; exact N2.out, SO.out, HS.out, Q10.out⟩
                    case measure => simp only [intOf]; exact meas_lt iM
                  · have t3 : decide (z < y + o) = false := decide_eq_false hzy
                    have k5 : IntKind.u64.wrap (z - (y + o)) = z - (y + o) := IntWalk.u64_in _ (by omega)
                    have k6 : IntKind.u32.wrap (z - (y + o)) = z - (y + o) := IntWalk.u32_in _ (by omega)
                    have k6' : (z - (y + o)) % 4294967296 = z - (y + o) := by omega
                    have HST := ST.out 0
                    rw [Int.mul_zero 4294967296, Int.add_zero (z - (y + o))] at HST
                    have HS := Lib.hid HST
                    have O10 := Lib.hid (HSET.out (z - (y + o)))
                    have Q10 := Lib.hid (HFAR.out (z - (y + o)))
                    have SO := Lib.hid (SOF.out (z - (y + o)))
                    have LN := Lib.hid (LNF.out (z - (y + o)) (by omega) (by omega))
                    clear ST HST HSET HFAR SOF LNF
                    go_wp2_with fail
                    go_roundw
                    case rel => exact ⟨i + 1, _, _, rfl, by go_num, by omega, by omega, by omega, O10.out, LN.out, by rw [List.length_set]; exact N2.out, SO.out, HS.out, Q10.out⟩
                    case measure => simp only [intOf]; exact meas_lt iM
                · obtain rfl : i = N + 1 := by omega
                  have t1 : decide ((N : Int) + 1 < (N : Int) + 1) = false := decide_eq_false (by omega)
                  have V3 := low_end LN1.out N2.out LL2.out o0 (by rw [VN1.out]; exact GE.out) V2.out
                  rw [VN1.out] at V3
                  rw [← V3] at BD
                  have S9 : Hid (valZ L2 < m) := Lib.hid (by rw [V3]; have := UP.out; omega)
                  obtain ⟨qq, hqq⟩ : ∃ qq, j / 32 = qq := ⟨_, rfl⟩
                  have r32 := Nat.mod_lt j (show 0 < 32 by omega)
                  obtain ⟨bb, hbb⟩ : ∃ bb, j % 32 = bb := ⟨_, rfl⟩
                  rw [hbb] at r32
                  have jq : j = 32 * qq + bb := by omega
                  have qn : qq < n := by omega
                  obtain ⟨cx, fx⟩ := Q9.out.cell qq (by rw [HQN.out]; exact qn)
                  have zr := HLQ.out.at qq
                  have FREE := bit_free HLQ.out (j := qq) r32 (u := x / 2 ^ (j + 1) / m) (by rw [HBD.out.2, jq])
                  obtain ⟨OB, OB1⟩ := or_bit zr.1 (by omega) r32 FREE
                  have VS : Hid (valZ (Q.set qq (Q[qq]?.getD 0 + 2 ^ bb)) = valZ Q + 2 ^ j) := Lib.hid (by
                    rw [valZ_set _ _ _ (by rw [HQN.out]; exact qn), jq, Int.pow_add, pow32]
                    congr 2
                    omega)
                  have p2 := two_pow_pos bb
                  have QS := Lib.hid (fun v => (Q9.out.set (Nat.le_trans (by rw [HG4.out]; exact Nat.le_refl _) hle5) qq v).drew)
                  have RS := Lib.hid (fun v => (O9.out.only (Only.set (.refl gq wr) qq (.int .u32 v)) (Ne.symm hne) (Q9.out.2.setCell (p := ⟨gq, qq, none⟩) (Nat.le_trans (by rw [HG4.out]; exact Nat.le_refl _) hle5) (.int .u32 v))).drew)
                  have LNF := Lib.hid (limbs_set HLQ.out qq (v := Q[qq]?.getD 0 + 2 ^ bb) (by omega) OB1)
                  rw [← VS.out] at BD
                  generalize Q[qq]?.getD 0 = z at *
                  have cx2 : wr.drew.cell? ⟨gq, qq, none⟩ = some (.int .u32 z) := cx
                  have fx2 : wr.drew.frozen? ⟨gq, qq, none⟩ = false := fx
                  have k3 : (j : Int) / 32 = (qq : Int) := by omega
                  have k3' : (j : Int).tdiv 32 = (qq : Int) := by rw [Int.tdiv_eq_ediv_of_nonneg (by omega)]; exact k3
                  have k4 : (j : Int) % 32 = (bb : Int) := by omega
                  have k4' : (j : Int).tmod 32 = (bb : Int) := by rw [Int.tmod_eq_emod_of_nonneg (by omega)]; exact k4
                  have k5 : IntKind.i64.wrap (qq : Int) = (qq : Int) := IntWalk.i64_in _ (by omega)
                  have k6 : IntKind.i64.wrap (bb : Int) = (bb : Int) := IntWalk.i64_in _ (by omega)
                  have k7 : IntKind.i64.wrap ((j : Int) - 1) = (j : Int) - 1 := IntWalk.i64_in _ (by omega)
                  have k8 : IntKind.u32.wrap (2 ^ bb) = 2 ^ bb := IntWalk.u32_in _ (by omega)
                  have qI : (qq : Int) < (n : Int) := by omega
                  have HJ := Lib.hid jq
                  clear V2 S2 V3 jq hqq hbb cx fx FREE VS
                  go_wp2_with fail
                  refine wp_region_ord (Below w4.heap.size) (Below.refl _) (fun _ _ _ => Below.trans) [(0, false), (1, false), (2, false), (3, false), (4, false), (5, false), (6, false), (8, false), (9, false), (10, false), (7, true), (11, false), (12, false), (13, true)] (by kernel_rfl) (by kernel_rfl) rfl (by kernel_rfl) (fun _ _ _ _ _ h => h) ?_
                  repeat (refine ord_take _ rfl (by rfl) (fun W hW => by go_simp; first | done | rfl) ?_; simp only [Act.put, List.setIfInBounds_toArray, List.set_cons_zero, List.set_cons_succ])
                  refine ord_sole rfl (by rfl) (fun K1 hK1 => ?_)
                  unfold Oper.wp
                  go_simp
                  refine hK1 _ _ (Below.refl _ _) ?_
                  clear hK1 K1
                  try simp only [Act.put, List.setIfInBounds_toArray, List.set_cons_zero, List.set_cons_succ]
                  repeat (refine ord_take _ rfl (by rfl) (fun W hW => by go_simp; first | done | rfl) ?_; try simp only [Act.put, List.setIfInBounds_toArray, List.set_cons_zero, List.set_cons_succ])
                  refine ord_sole rfl (by rfl) (fun K1 hK1 => ?_)
                  unfold Oper.wp
                  go_simp
                  have hgq4 : w4.heap.size ≤ gq := Nat.le_trans (by rw [HG4.out]; exact Nat.le_refl _) hle5
                  refine hK1 _ _ ((Below.refl _ _).setCell (p := ⟨gq, qq, none⟩) hgq4 _) ?_
                  clear hK1 K1 cx2 fx2
                  refine ord_end ?_
                  have Q11 := Lib.hid (QS.out (z + 2 ^ bb))
                  have R11 := Lib.hid (RS.out (z + 2 ^ bb))
                  have BDD := Lib.hid BD
                  clear QS RS BD O9 Q9
                  generalize (wr.setCell ⟨gq, qq, none⟩ (.int .u32 (z + 2 ^ bb))).drew = w11 at *
                  go_wp2_with fail
                  go_roundw
                  case rel => exact ⟨j, L2, _, rfl, by omega, R11.out, LL2.out, N2.out, S9.out, Q11.out, LNF.out, by rw [List.length_set]; exact HQN.out, BDD.out.out⟩
                  case measure => simp only [intOf]; omega

end Go.Proofs.Ythpdeaappchnpaa
