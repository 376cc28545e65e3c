/-
  What the package's Bare and Cmp answer, for stage 7 (limb).
-/
import Derived.Test.YthpdeaappchnpaaLnB
import Derived.Test.YthpdeaappchnpaaLimU
namespace Go.Proofs.Ythpdeaappchnpaa
open Go.RowKit
set_option linter.unusedVariables false

theorem row32_none {w : World} {n : Nat} {zs : List Int} (h : Row32 w none n zs) : n = 0 ∧ zs = [] := by
  have h0 : n = 0 := by
    rcases Nat.eq_zero_or_pos n with h0 | h0
    · exact h0
    · obtain ⟨_, _, e, _⟩ := h.2.2 h0
      cases e
  have := h.1
  exact ⟨h0, List.eq_nil_of_length_eq_zero (by omega)⟩

set_option maxHeartbeats 500000 in
theorem clone_any (a : Option Addr) (n ca : Nat) (zs : List Int) (w : World) (hr : Row32 w a n zs) (hn : n ≤ 1000000) (hnil : a = none → ca = 0) :
    Calls Try.prog 33 #[.slice a n ca] w fun e w' => ∃ a' c, e = .returned (.slice a' n c) ∧ Out32 w w' (.slice a' n c) zs := by
  have HR := Lib.hid hr
  have NI := Lib.hid hnil
  cases a with
  | none =>
    obtain ⟨rfl, rfl⟩ := row32_none hr
    obtain rfl := hnil rfl
    clear hr hnil
    have q0 : ∀ w : World, (binOp .eql 22 (.slice none 0 0) (.slice none 0 0)).run Try.prog w = .ok (.bool true) w := fun w => Lib.run_eql_slice_nil w 22 35 none 0 0 0 0 Try.underlying22
    go_enter Try.func33, Try.ntmps33
    go_wp2_with fail
    go_ret
    exact ⟨none, 0, rfl, out_nil32 w⟩
  | some ad =>
    have hl := hr.1
    clear hr hnil
    have O3 := Lib.hid (out_zero32 w)
    have R3 : Hid (Row32 (w.alloc (.cells #[] 35)) (some ad) n zs) := Lib.hid (HR.out.below ((Below.refl _ _).alloc (Nat.le_refl _) _))
    have HN : Hid (([] : List Int).length + n ≤ 1000000) := Lib.hid (by simp; omega)
    have q0 : ∀ w : World, (binOp .eql 22 (.slice (some ad) n ca) (.slice none 0 0)).run Try.prog w = .ok (.bool false) w := fun w => Lib.run_eql_slice_nil w 22 35 (some ad) n ca 0 0 Try.underlying22
    go_enter Try.func33, Try.ntmps33
    go_wp2_with (at_builtin; go_must (refine out_append32 (W0 := w) (L := []) (zs := zs) rfl _ _ rfl rfl O3.out rfl R3.out NI.out HN.out ?_; intro V4 w4 ho4; rw [List.nil_append] at ho4; have O4 := Lib.hid ho4; clear ho4))
    go_ret
    have o := O4.out
    rcases o.1.2 with ⟨rfl, h0⟩ | ⟨g, cap, cur, rfl, _⟩
    · exact ⟨none, 0, by rw [← hl, h0]; rfl, by rw [← hl, h0]; exact o⟩
    · exact ⟨_, cap, by rw [hl]; rfl, by rw [← hl]; exact o⟩

/-- A row of the call's own, and its limbs from the beginning. -/
theorem Out32.normed {W0 wr : World} {a : Option Addr} {n c : Nat} {L : List Int} (h : Out32 W0 wr (.slice a n c) L) (hL : Limbs L) : Row32 wr a n L ∧ n ≤ c ∧ (a = none → c = 0) := by
  obtain ⟨a', c', e, hr⟩ := h.row hL
  injection e with e1 e2 e3
  subst e1 e2 e3
  exact ⟨hr, own_cap32 h.1, h.nilc⟩

set_option maxHeartbeats 500000 in
theorem bare_own (a : Option Addr) (n ca : Nat) (zs : List Int) (w : World) (hr : Row32 w a n zs) (hn : n ≤ 1000000) (hnil : a = none → ca = 0) :
    Calls Try.prog 19 #[.slice a n ca] w fun e w' => ∃ a' c, e = .returned (.slice a' (limZ (valZ zs)).length (limZ (valZ zs)).length) ∧ Out32 w w' (.slice a' n c) zs := by
  have CL := Lib.hid (clone_any a n ca zs w hr hn hnil)
  have HL := Lib.hid (row32_limbs hr)
  clear hr hnil
  go_enter Try.func19, Try.ntmps19
  go_wp2_with fail
  refine CL.out.mono ?_
  rintro e w2 ⟨a', c, rfl, ho⟩
  have HO := Lib.hid ho
  have NN := Lib.hid (normalized_any a' n c zs w2 (ho.normed HL.out).1 (ho.normed HL.out).2.1 hn (ho.normed HL.out).2.2)
  clear ho
  go_wp2_with fail
  refine NN.out.mono ?_
  rintro e w3 ⟨rfl, hw3⟩
  have HW := Lib.hid hw3
  clear hw3
  go_wp2_with fail
  go_ret
  exact ⟨a', c, rfl, by rw [HW.out]; exact HO.out⟩
theorem bare_any (a : Option Addr) (n ca : Nat) (zs : List Int) (w : World) (hr : Row32 w a n zs) (hn : n ≤ 1000000) (hnil : a = none → ca = 0) :
    Calls Try.prog 19 #[.slice a n ca] w (GivesL (valZ zs) w) := by
  refine (bare_own a n ca zs w hr hn hnil).mono ?_
  rintro e w2 ⟨a', c, rfl, ho⟩
  have t := ho.normed (row32_limbs hr)
  refine ⟨a', _, rfl, t.1.norm, fun e => ?_, Nat.le_refl _, ho.2⟩
  subst e
  have := (row32_none t.1).2
  subst this
  rw [show valZ [] = 0 from rfl, limZ_zero]
  rfl

theorem len_less {xs ys : List Int} (hx : Limbs xs) (hy : Limbs ys) (ny : Normal ys) (h : xs.length < ys.length) : valZ xs < valZ ys := by
  have h1 := valZ_lt hx
  have h2 := pow_mono32 (show xs.length ≤ ys.length - 1 by omega)
  obtain ⟨k, hk⟩ : ∃ k, ys.length = k + 1 := ⟨ys.length - 1, by omega⟩
  rw [hk, show k + 1 - 1 = k by omega] at h2
  have e := valZ_parts ys k
  rw [valZ_drop ys k, show ys.drop (k + 1) = [] from List.drop_of_length_le (by omega), valZ, Int.mul_zero, Int.add_zero] at e
  have t := take_lt hy k
  have hl : ys.getLast? = some (ys[k]?.getD 0) := by
    rw [List.getLast?_eq_getElem?, hk, show k + 1 - 1 = k by omega, List.getElem?_eq_getElem (by omega)]
    rfl
  have n0 := ny _ hl
  have r := hy.at k
  have p := pow_pos32 k
  have := Int.mul_le_mul_of_nonneg_left (show (1 : Int) ≤ ys[k]?.getD 0 by omega) (Int.le_of_lt p)
  rw [Int.mul_one] at this
  omega
theorem len_cmp {xs ys : List Int} (hx : Limbs xs) (hy : Limbs ys) (nx : Normal xs) (ny : Normal ys) (h : xs.length ≠ ys.length) : cmpI (xs.length : Int) (ys.length : Int) = cmpI (valZ xs) (valZ ys) := by
  unfold cmpI
  rcases Nat.lt_or_gt_of_ne h with h | h
  · rw [if_pos (by omega), if_pos (len_less hx hy ny h)]
  · have := len_less hy hx nx h
    rw [if_neg (by omega), if_pos (by omega), if_neg (by omega), if_pos this]

set_option maxHeartbeats 1000000 in
set_option maxRecDepth 10000 in
theorem cmp_any (a b : Option Addr) (n m ca cb : Nat) (xs ys : List Int) (w : World) (hr : Row32 w a n xs) (hs : Row32 w b m ys) (hn : n ≤ 100000) (hm : m ≤ 100000) (hca : n ≤ ca) (hcb : m ≤ cb) (hna : a = none → ca = 0) (hnb : b = none → cb = 0) :
    Calls Try.prog 20 #[.slice a n ca, .slice b m cb] w fun e w' => e = .returned (.int .i64 (cmpI (valZ xs) (valZ ys))) ∧ ∃ q, w' = w.drewN q := by
  have NA := Lib.hid (normalized_any a n ca xs w hr hca (by omega) hna)
  have NB := Lib.hid (normalized_any b m cb ys w hs hcb (by omega) hnb)
  have HA := Lib.hid hr.norm
  have HB := Lib.hid hs.norm
  have VA := limZ_val (valZ_nonneg (row32_limbs hr))
  have VB := limZ_val (valZ_nonneg (row32_limbs hs))
  have LA := Lib.hid (limZ_limbs (valZ xs))
  have LB := Lib.hid (limZ_limbs (valZ ys))
  have MA := Lib.hid (limZ_normal (valZ xs))
  have MB := Lib.hid (limZ_normal (valZ ys))
  have la : (limZ (valZ xs)).length ≤ n := by have := (norm_take (row32_limbs hr)).1; have := hr.1; omega
  have lb : (limZ (valZ ys)).length ≤ m := by have := (norm_take (row32_limbs hs)).1; have := hs.1; omega
  clear hr hs hna hnb
  rw [← VA, ← VB]
  generalize limZ (valZ xs) = us at *
  generalize limZ (valZ ys) = vs at *
  clear VA VB
  obtain ⟨p, hp⟩ : ∃ p, us.length = p := ⟨_, rfl⟩
  obtain ⟨r, hr⟩ : ∃ r, vs.length = r := ⟨_, rfl⟩
  rw [hp] at la NA HA
  rw [hr] at lb NB HB
  have HP := Lib.hid hp
  have HRR := Lib.hid hr
  clear hp hr
  go_enter Try.func20, Try.ntmps20
  go_wp2_with fail
  refine NA.out.mono ?_
  rintro e w2 ⟨rfl, rfl⟩
  go_wp2_with fail
  refine NB.out.mono ?_
  rintro e w2 ⟨rfl, rfl⟩
  by_cases hne : p = r
  · subst hne
    have t0 : ((p : Int) != (p : Int)) = false := by simp
    have w1 : IntKind.i64.wrap ((p : Int) - 1) = (p : Int) - 1 := IntWalk.i64_in _ (by omega)
    have TOP : Hid (valZ (us.drop p) = valZ (vs.drop p)) := Lib.hid (by rw [List.drop_of_length_le (by rw [HP.out]; omega), List.drop_of_length_le (by rw [HRR.out]; omega)])
    clear NA NB MA MB
    go_wp2_with fail
    go_loopw [5] (fun i wr => ∃ k q : Nat, k ≤ p ∧ i = .int .i64 ((k : Int) - 1) ∧ valZ (us.drop k) = valZ (vs.drop k) ∧ wr = w2.drewN q) (fun i _ => (intOf i + 1).toNat)
    case atStart => exact ⟨p, 0, Nat.le_refl _, rfl, TOP.out, rfl⟩
    case round =>
      obtain ⟨k, q, hk, rfl, hd, hw⟩ := hrel
      have HD := Lib.hid hd
      have HW := Lib.hid hw
      have RA : Hid (Row32 wr a p us) := Lib.hid (by rw [hw]; exact HA.out.drewN q)
      have RB : Hid (Row32 wr b p vs) := Lib.hid (by rw [hw]; exact HB.out.drewN q)
      clear hd hw TOP
      rcases Nat.eq_zero_or_pos k with h0 | h0
      · subst h0
        have E := cmp_eq HD.out
        rw [show ((0 : Nat) : Int) - 1 = -1 by rfl]
        have t0 : decide ((0 : Int) ≤ -1) = false := by decide
        go_wp2_with fail
        go_ret
        exact ⟨by rw [E]; rfl, q, HW.out⟩
      · obtain ⟨j, rfl⟩ : ∃ j, k = j + 1 := ⟨k - 1, by omega⟩
        have CL := Lib.hid (cmp_lt (k := j) LA.out LB.out HD.out)
        have CG := Lib.hid (cmp_gt (k := j) LA.out LB.out HD.out)
        have CD := Lib.hid (cmp_down (k := j) HD.out)
        rw [show ((j + 1 : Nat) : Int) - 1 = (j : Int) by omega]
        have t0 : decide ((0 : Int) ≤ (j : Int)) = true := decide_eq_true (by omega)
        have w3 : IntKind.i64.wrap ((j : Int) - 1) = (j : Int) - 1 := IntWalk.i64_in _ (by omega)
        obtain ⟨b1, o1, rfl, hb1, hc1⟩ := RA.out.2.2 (by omega)
        obtain ⟨b2, o2, rfl, hb2, hc2⟩ := RB.out.2.2 (by omega)
        have c1 := hc1 j (by omega)
        have c2 := hc2 j (by omega)
        have jI : (j : Int) < (p : Int) := by omega
        generalize us[j]?.getD 0 = x at *
        generalize vs[j]?.getD 0 = y at *
        clear hc1 hc2 HD w1 t0
        have t0 : decide ((0 : Int) ≤ (j : Int)) = true := decide_eq_true (by omega)
        by_cases hxy : x = y
        · have E := Lib.hid (CD.out hxy)
          have t1 : (x != y) = false := by simpa using hxy
          clear CL CG CD
          go_wp2_with fail
          go_quiet (fail)
          have N2 : Hid (wr.drewN nq = w2.drewN (q + nq)) := by rw [HW.out]; exact Lib.hid (World.drewN_drewN _ _ _)
          generalize wr.drewN nq = w4 at *
          go_wp2_with fail
          go_roundw
          case rel => exact ⟨j, _, by omega, rfl, E.out, N2.out⟩
          case measure => simp only [intOf]; omega
        · have t1 : (x != y) = true := by simpa using hxy
          have E : Hid (cmpI x y = cmpI (valZ us) (valZ vs)) := Lib.hid (by
            rcases Int.lt_or_gt_of_ne hxy with h1 | h1
            · rw [CL.out h1]; exact if_pos h1
            · rw [CG.out h1]; unfold cmpI; rw [if_neg (by omega), if_pos h1])
          clear CL CG CD
          go_wp2_with fail
          go_quiet (fail)
          have N2 : Hid (wr.drewN nq = w2.drewN (q + nq)) := by rw [HW.out]; exact Lib.hid (World.drewN_drewN _ _ _)
          obtain ⟨q2, hq2⟩ : ∃ q2, q + nq = q2 := ⟨_, rfl⟩
          rw [hq2] at N2
          clear hq2
          have e1 : (wr.drewN nq).cell? ⟨b1, o1 + j, none⟩ = some (.int .u32 x) := c1
          have e2 : (wr.drewN nq).cell? ⟨b2, o2 + j, none⟩ = some (.int .u32 y) := c2
          generalize wr.drewN nq = w4 at *
          clear c1 c2
          go_wp2_with fail
          go_quiet ((go_at_call 35; exact Calls.quiet_of_same (compare_u32 _ _ _)))
          have N3 : Hid (w4.drewN nq = w2.drewN (q2 + nq)) := by rw [N2.out]; exact Lib.hid (World.drewN_drewN _ _ _)
          generalize w4.drewN nq = w5 at *
          go_wp2_with fail
          go_ret
          exact ⟨by rw [E.out]; rfl, _, N3.out⟩
  · have t0 : ((p : Int) != (r : Int)) = true := by simp; omega
    have E : Hid (cmpI (p : Int) (r : Int) = cmpI (valZ us) (valZ vs)) := Lib.hid (by
      rw [← HP.out, ← HRR.out]
      exact len_cmp LA.out LB.out MA.out MB.out (by rw [HP.out, HRR.out]; exact hne))
    clear NA NB
    go_wp2_with (go_at_call 34; go_must (refine (compare_int _ _ _).mono ?_; rintro e w' ⟨rfl, rfl⟩))
    go_ret
    exact ⟨by rw [E.out]; rfl, 0, rfl⟩

end Go.Proofs.Ythpdeaappchnpaa
