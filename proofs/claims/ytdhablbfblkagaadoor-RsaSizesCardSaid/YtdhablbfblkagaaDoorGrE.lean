/-
  Merged texts: LnC, LnD, LnE, LnF, LnG, LnH, LnI, LnJ, Shelf.
-/
import Derived.Test.YtdhablbfblkagaaDoorGrD
import Derived.WalkMore
import Derived.Laws.CopyOwn
import Derived.Lib.BitFns
import Derived.Shelf.Small.Bits
import Derived.Test.YtdhablbfblkagaaDoorProg
namespace Go.Proofs.YtdhablbfblkagaaDoor
open Go.RowKit
set_option linter.unusedVariables false

theorem row32_none {w : World} {n : Nat} {zs : List Int} (h : Row32 w none n zs) : n = 0 ∧ zs = [] := by
  have h0 : n = 0 := by
    rcases Nat.eq_zero_or_pos n with h0 | h0
    · exact h0
    · obtain ⟨_, _, e, _⟩ := h.2.2 h0
      cases e
  have := h.1
  exact ⟨h0, List.eq_nil_of_length_eq_zero (by omega)⟩

set_option maxHeartbeats 500000 in
theorem clone_any (a : Option Addr) (n ca : Nat) (zs : List Int) (w : World) (hr : Row32 w a n zs) (hn : n ≤ 1000000) (hnil : a = none → ca = 0) :
    Calls Tryd.prog 72 #[.slice a n ca] w fun e w' => ∃ a' c, e = .returned (.slice a' n c) ∧ Out32 w w' (.slice a' n c) zs := by
  have HR := Lib.hid hr
  have NI := Lib.hid hnil
  cases a with
  | none =>
    obtain ⟨rfl, rfl⟩ := row32_none hr
    obtain rfl := hnil rfl
    clear hr hnil
    have q0 : ∀ w : World, (binOp .eql 41 (.slice none 0 0) (.slice none 0 0)).run Tryd.prog w = .ok (.bool true) w := fun w => Lib.run_eql_slice_nil w 41 23 none 0 0 0 0 Tryd.underlying41
    go_enter Tryd.func72, Tryd.ntmps72
    go_wp2_with fail
    go_ret
    exact ⟨none, 0, rfl, out_nil32 w⟩
  | some ad =>
    have hl := hr.1
    clear hr hnil
    have O3 := Lib.hid (out_zero32 w)
    have R3 : Hid (Row32 (w.alloc (.cells #[] 23)) (some ad) n zs) := Lib.hid (HR.out.below ((Below.refl _ _).alloc (Nat.le_refl _) _))
    have HN : Hid (([] : List Int).length + n ≤ 1000000) := Lib.hid (by simp; omega)
    have q0 : ∀ w : World, (binOp .eql 41 (.slice (some ad) n ca) (.slice none 0 0)).run Tryd.prog w = .ok (.bool false) w := fun w => Lib.run_eql_slice_nil w 41 23 (some ad) n ca 0 0 Tryd.underlying41
    go_enter Tryd.func72, Tryd.ntmps72
    go_wp2_with (at_builtin; go_must (refine out_append32 (W0 := w) (L := []) (zs := zs) rfl _ _ rfl rfl O3.out rfl R3.out NI.out HN.out ?_; intro V4 w4 ho4; rw [List.nil_append] at ho4; have O4 := Lib.hid ho4; clear ho4))
    go_ret
    have o := O4.out
    rcases o.1.2 with ⟨rfl, h0⟩ | ⟨g, cap, cur, rfl, _⟩
    · exact ⟨none, 0, by rw [← hl, h0]; rfl, by rw [← hl, h0]; exact o⟩
    · exact ⟨_, cap, by rw [hl]; rfl, by rw [← hl]; exact o⟩

/-- A row of the call's own, and its limbs from the beginning. -/
theorem Out32.normed {W0 wr : World} {a : Option Addr} {n c : Nat} {L : List Int} (h : Out32 W0 wr (.slice a n c) L) (hL : Limbs L) : Row32 wr a n L ∧ n ≤ c ∧ (a = none → c = 0) := by
  obtain ⟨a', c', e, hr⟩ := h.row hL
  injection e with e1 e2 e3
  subst e1 e2 e3
  exact ⟨hr, own_cap32 h.1, h.nilc⟩

set_option maxHeartbeats 500000 in
theorem bare_own (a : Option Addr) (n ca : Nat) (zs : List Int) (w : World) (hr : Row32 w a n zs) (hn : n ≤ 1000000) (hnil : a = none → ca = 0) :
    Calls Tryd.prog 59 #[.slice a n ca] w fun e w' => ∃ a' c, e = .returned (.slice a' (limZ (valZ zs)).length (limZ (valZ zs)).length) ∧ Out32 w w' (.slice a' n c) zs := by
  have CL := Lib.hid (clone_any a n ca zs w hr hn hnil)
  have HL := Lib.hid (row32_limbs hr)
  clear hr hnil
  go_enter Tryd.func59, Tryd.ntmps59
  go_wp2_with fail
  refine CL.out.mono ?_
  rintro e w2 ⟨a', c, rfl, ho⟩
  have HO := Lib.hid ho
  have NN := Lib.hid (normalized_any a' n c zs w2 (ho.normed HL.out).1 (ho.normed HL.out).2.1 hn (ho.normed HL.out).2.2)
  clear ho
  go_wp2_with fail
  refine NN.out.mono ?_
  rintro e w3 ⟨rfl, hw3⟩
  have HW := Lib.hid hw3
  clear hw3
  go_wp2_with fail
  go_ret
  exact ⟨a', c, rfl, by rw [HW.out]; exact HO.out⟩
theorem bare_any (a : Option Addr) (n ca : Nat) (zs : List Int) (w : World) (hr : Row32 w a n zs) (hn : n ≤ 1000000) (hnil : a = none → ca = 0) :
    Calls Tryd.prog 59 #[.slice a n ca] w (GivesL (valZ zs) w) := by
  refine (bare_own a n ca zs w hr hn hnil).mono ?_
  rintro e w2 ⟨a', c, rfl, ho⟩
  have t := ho.normed (row32_limbs hr)
  refine ⟨a', _, rfl, t.1.norm, fun e => ?_, Nat.le_refl _, ho.2⟩
  subst e
  have := (row32_none t.1).2
  subst this
  rw [show valZ [] = 0 from rfl, limZ_zero]
  rfl

theorem len_less {xs ys : List Int} (hx : Limbs xs) (hy : Limbs ys) (ny : Normal ys) (h : xs.length < ys.length) : valZ xs < valZ ys := by
  have h1 := valZ_lt hx
  have h2 := pow_mono32 (show xs.length ≤ ys.length - 1 by omega)
  obtain ⟨k, hk⟩ : ∃ k, ys.length = k + 1 := ⟨ys.length - 1, by omega⟩
  rw [hk, show k + 1 - 1 = k by omega] at h2
  have e := valZ_parts ys k
  rw [valZ_drop ys k, show ys.drop (k + 1) = [] from List.drop_of_length_le (by omega), valZ, Int.mul_zero, Int.add_zero] at e
  have t := take_lt hy k
  have hl : ys.getLast? = some (ys[k]?.getD 0) := by
    rw [List.getLast?_eq_getElem?, hk, show k + 1 - 1 = k by omega, List.getElem?_eq_getElem (by omega)]
    rfl
  have n0 := ny _ hl
  have r := hy.at k
  have p := pow_pos32 k
  have := Int.mul_le_mul_of_nonneg_left (show (1 : Int) ≤ ys[k]?.getD 0 by omega) (Int.le_of_lt p)
  rw [Int.mul_one] at this
  omega
theorem len_cmp {xs ys : List Int} (hx : Limbs xs) (hy : Limbs ys) (nx : Normal xs) (ny : Normal ys) (h : xs.length ≠ ys.length) : cmpI (xs.length : Int) (ys.length : Int) = cmpI (valZ xs) (valZ ys) := by
  unfold cmpI
  rcases Nat.lt_or_gt_of_ne h with h | h
  · rw [if_pos (by omega), if_pos (len_less hx hy ny h)]
  · have := len_less hy hx nx h
    rw [if_neg (by omega), if_pos (by omega), if_neg (by omega), if_pos this]

set_option maxHeartbeats 1000000 in
set_option maxRecDepth 10000 in
theorem cmp_any (a b : Option Addr) (n m ca cb : Nat) (xs ys : List Int) (w : World) (hr : Row32 w a n xs) (hs : Row32 w b m ys) (hn : n ≤ 100000) (hm : m ≤ 100000) (hca : n ≤ ca) (hcb : m ≤ cb) (hna : a = none → ca = 0) (hnb : b = none → cb = 0) :
    Calls Tryd.prog 18 #[.slice a n ca, .slice b m cb] w fun e w' => e = .returned (.int .i64 (cmpI (valZ xs) (valZ ys))) ∧ ∃ q, w' = w.drewN q := by
  have NA := Lib.hid (normalized_any a n ca xs w hr hca (by omega) hna)
  have NB := Lib.hid (normalized_any b m cb ys w hs hcb (by omega) hnb)
  have HA := Lib.hid hr.norm
  have HB := Lib.hid hs.norm
  have VA := limZ_val (valZ_nonneg (row32_limbs hr))
  have VB := limZ_val (valZ_nonneg (row32_limbs hs))
  have LA := Lib.hid (limZ_limbs (valZ xs))
  have LB := Lib.hid (limZ_limbs (valZ ys))
  have MA := Lib.hid (limZ_normal (valZ xs))
  have MB := Lib.hid (limZ_normal (valZ ys))
  have la : (limZ (valZ xs)).length ≤ n := by have := (norm_take (row32_limbs hr)).1; have := hr.1; omega
  have lb : (limZ (valZ ys)).length ≤ m := by have := (norm_take (row32_limbs hs)).1; have := hs.1; omega
  clear hr hs hna hnb
  rw [← VA, ← VB]
  generalize limZ (valZ xs) = us at *
  generalize limZ (valZ ys) = vs at *
  clear VA VB
  obtain ⟨p, hp⟩ : ∃ p, us.length = p := ⟨_, rfl⟩
  obtain ⟨r, hr⟩ : ∃ r, vs.length = r := ⟨_, rfl⟩
  rw [hp] at la NA HA
  rw [hr] at lb NB HB
  have HP := Lib.hid hp
  have HRR := Lib.hid hr
  clear hp hr
  go_enter Tryd.func18, Tryd.ntmps18
  go_wp2_with fail
  refine NA.out.mono ?_
  rintro e w2 ⟨rfl, rfl⟩
  go_wp2_with fail
  refine NB.out.mono ?_
  rintro e w2 ⟨rfl, rfl⟩
  by_cases hne : p = r
  · subst hne
    have t0 : ((p : Int) != (p : Int)) = false := by simp
    have w1 : IntKind.i64.wrap ((p : Int) - 1) = (p : Int) - 1 := IntWalk.i64_in _ (by omega)
    have TOP : Hid (valZ (us.drop p) = valZ (vs.drop p)) := Lib.hid (by rw [List.drop_of_length_le (by rw [HP.out]; omega), List.drop_of_length_le (by rw [HRR.out]; omega)])
    clear NA NB MA MB
    go_wp2_with fail
    go_loopw [5] (fun i wr => ∃ k q : Nat, k ≤ p ∧ i = .int .i64 ((k : Int) - 1) ∧ valZ (us.drop k) = valZ (vs.drop k) ∧ wr = w2.drewN q) (fun i _ => (intOf i + 1).toNat)
    case atStart => exact ⟨p, 0, Nat.le_refl _, rfl, TOP.out, rfl⟩
    case round =>
      obtain ⟨k, q, hk, rfl, hd, hw⟩ := hrel
      have HD := Lib.hid hd
      have HW := Lib.hid hw
      have RA : Hid (Row32 wr a p us) := Lib.hid (by rw [hw]; exact HA.out.drewN q)
      have RB : Hid (Row32 wr b p vs) := Lib.hid (by rw [hw]; exact HB.out.drewN q)
      clear hd hw TOP
      rcases Nat.eq_zero_or_pos k with h0 | h0
      · subst h0
        have E := cmp_eq HD.out
        rw [show ((0 : Nat) : Int) - 1 = -1 by rfl]
        have t0 : decide ((0 : Int) ≤ -1) = false := by decide
        go_wp2_with fail
        go_ret
        exact ⟨by rw [E]; rfl, q, HW.out⟩
      · obtain ⟨j, rfl⟩ : ∃ j, k = j + 1 := ⟨k - 1, by omega⟩
        have CL := Lib.hid (cmp_lt (k := j) LA.out LB.out HD.out)
        have CG := Lib.hid (cmp_gt (k := j) LA.out LB.out HD.out)
        have CD := Lib.hid (cmp_down (k := j) HD.out)
        rw [show ((j + 1 : Nat) : Int) - 1 = (j : Int) by omega]
        have t0 : decide ((0 : Int) ≤ (j : Int)) = true := decide_eq_true (by omega)
        have w3 : IntKind.i64.wrap ((j : Int) - 1) = (j : Int) - 1 := IntWalk.i64_in _ (by omega)
        obtain ⟨b1, o1, rfl, hb1, hc1⟩ := RA.out.2.2 (by omega)
        obtain ⟨b2, o2, rfl, hb2, hc2⟩ := RB.out.2.2 (by omega)
        have c1 := hc1 j (by omega)
        have c2 := hc2 j (by omega)
        have jI : (j : Int) < (p : Int) := by omega
        generalize us[j]?.getD 0 = x at *
        generalize vs[j]?.getD 0 = y at *
        clear hc1 hc2 HD w1 t0
        have t0 : decide ((0 : Int) ≤ (j : Int)) = true := decide_eq_true (by omega)
        by_cases hxy : x = y
        · have E := Lib.hid (CD.out hxy)
          have t1 : (x != y) = false := by simpa using hxy
          clear CL CG CD
          go_wp2_with fail
          go_quiet (fail)
          have N2 : Hid (wr.drewN nq = w2.drewN (q + nq)) := by rw [HW.out]; exact Lib.hid (World.drewN_drewN _ _ _)
          generalize wr.drewN nq = w4 at *
          go_wp2_with fail
          go_roundw
          case rel => exact ⟨j, _, by omega, rfl, E.out, N2.out⟩
          case measure => simp only [intOf]; omega
        · have t1 : (x != y) = true := by simpa using hxy
          have E : Hid (cmpI x y = cmpI (valZ us) (valZ vs)) := Lib.hid (by
            rcases Int.lt_or_gt_of_ne hxy with h1 | h1
            · rw [CL.out h1]; exact if_pos h1
            · rw [CG.out h1]; unfold cmpI; rw [if_neg (by omega), if_pos h1])
          clear CL CG CD
          go_wp2_with fail
          go_quiet (fail)
          have N2 : Hid (wr.drewN nq = w2.drewN (q + nq)) := by rw [HW.out]; exact Lib.hid (World.drewN_drewN _ _ _)
          obtain ⟨q2, hq2⟩ : ∃ q2, q + nq = q2 := ⟨_, rfl⟩
          rw [hq2] at N2
          clear hq2
          have e1 : (wr.drewN nq).cell? ⟨b1, o1 + j, none⟩ = some (.int .u32 x) := c1
          have e2 : (wr.drewN nq).cell? ⟨b2, o2 + j, none⟩ = some (.int .u32 y) := c2
          generalize wr.drewN nq = w4 at *
          clear c1 c2
          go_wp2_with fail
          go_quiet ((go_at_call 42; exact Calls.quiet_of_same (compare_u32 _ _ _)))
          have N3 : Hid (w4.drewN nq = w2.drewN (q2 + nq)) := by rw [N2.out]; exact Lib.hid (World.drewN_drewN _ _ _)
          generalize w4.drewN nq = w5 at *
          go_wp2_with fail
          go_ret
          exact ⟨by rw [E.out]; rfl, _, N3.out⟩
  · have t0 : ((p : Int) != (r : Int)) = true := by simp; omega
    have E : Hid (cmpI (p : Int) (r : Int) = cmpI (valZ us) (valZ vs)) := Lib.hid (by
      rw [← HP.out, ← HRR.out]
      exact len_cmp LA.out LB.out MA.out MB.out (by rw [HP.out, HRR.out]; exact hne))
    clear NA NB
    go_wp2_with (go_at_call 41; go_must (refine (compare_int _ _ _).mono ?_; rintro e w' ⟨rfl, rfl⟩))
    go_ret
    exact ⟨by rw [E.out]; rfl, 0, rfl⟩

end Go.Proofs.YtdhablbfblkagaaDoor

namespace Go.Proofs.YtdhablbfblkagaaDoor
open Go.RowKit
set_option linter.unusedVariables false

theorem comb_mem {P V T c q r x y s z : Int} (hs : s = 1 ∨ s = -1) (h : z + s * (P * c) = V + s * T) (hr : r + s * (4294967296 * q) = x + s * (y + c)) : z + P * (r - x) + s * (P * 4294967296 * q) = V + s * (T + P * y) := by
  rcases hs with rfl | rfl
  · have e : r - x = y + c - 4294967296 * q := by omega
    rw [e, Int.mul_sub, Int.mul_add, ← Int.mul_assoc]
    omega
  · have e : r - x = 4294967296 * q - (y + c) := by omega
    rw [e, Int.mul_sub, Int.mul_add, ← Int.mul_assoc]
    omega
/-- A limb more of a sum, or of a difference. -/
theorem comb_step {zs ys : List Int} {i : Nat} {V s c q r : Int} (hs : s = 1 ∨ s = -1) (hi : i < zs.length) (h : valZ zs + s * (4294967296 ^ i * c) = V + s * valZ (ys.take i)) (hr : r + s * (4294967296 * q) = zs[i]?.getD 0 + s * (ys[i]?.getD 0 + c)) :
    valZ (zs.set i r) + s * (4294967296 ^ (i + 1) * q) = V + s * valZ (ys.take (i + 1)) := by
  rw [valZ_set zs i r hi, valZ_take, Int.pow_succ]
  exact comb_mem hs h hr
theorem comb_end {zs ys : List Int} {i N : Nat} {V s : Int} (hN : i ≤ N) (hi : ys.length ≤ i) (h : valZ zs + s * (4294967296 ^ i * 0) = V + s * valZ (ys.take i)) : valZ zs + s * (4294967296 ^ N * 0) = V + s * valZ (ys.take N) := by
  rw [valZ_all hi] at h
  rw [valZ_all (show ys.length ≤ N by omega), ← h]
  simp
theorem set_other {L1 L : List Int} {i : Nat} {r : Int} (h : ∀ j, i ≤ j → L1[j]?.getD 0 = L[j]?.getD 0) : ∀ j, i + 1 ≤ j → (L1.set i r)[j]?.getD 0 = L[j]?.getD 0 := by
  intro j hj
  rw [List.getElem?_set_ne (by omega)]
  exact h j (by omega)

/-- What combine leaves in the first N limbs of a row. -/
def Combined (W0 : World) (A : Option Addr) (n cap N : Nat) (L ys : List Int) (s : Int) (e : Ending) (w' : World) : Prop :=
  e = .returned (.tuple #[]) ∧ ∃ (L' : List Int) (q : Int), Out32 W0 w' (.slice A n cap) L' ∧ Limbs L' ∧ L'.length = n ∧ 0 ≤ q ∧ q ≤ 1 ∧ valZ L' + s * (4294967296 ^ N * q) = valZ L + s * valZ (ys.take N) ∧ ∀ i, N ≤ i → L'[i]?.getD 0 = L[i]?.getD 0

end Go.Proofs.YtdhablbfblkagaaDoor

namespace Go.Proofs.YtdhablbfblkagaaDoor
open Go.RowKit
set_option linter.unusedVariables false

theorem u32_one (cs : List Int) : ∀ v ∈ cs.map (Value.int .u32), v.oneCell' = true := by
  intro v hv
  obtain ⟨_, _, rfl⟩ := List.mem_map.1 hv
  rfl
theorem grown_setRow32 (w : World) (g : Nat) (cs : Array Value) : w.grownBy (w.setRow g cs) (some g) :=
  ⟨rfl, rfl, rfl, by simp [World.setRow], fun k _ hk => setRow_other w g k _ (fun e => hk (by simp [e]))⟩
theorem Tryd.sizeU32 : (Tryd.prog.info? 23).map (·.size) = some 1 := by kernel_rfl
/-- Limbs are copied to the beginning of a row. -/
theorem copy32 {ops : Array Oper} {rest : List Oper} {o : Oper} {a : Act} {Q : Exit → Act → World → Prop} {w W0 : World} (hgd : o.guard = none) (d s : Operand) (hop : o.op = .call { callee := .builtin .copy, args := #[d, s], argTypes := #[41, 41] })
    (g N cap : Nat) (sp : Option Addr) (m c : Nat) (L zs : List Int) (hd : a.eval d = .slice (some ⟨g, 0, none⟩) N cap) (hs : a.eval s = .slice sp m c) (ho : Out32 W0 w (.slice (some ⟨g, 0, none⟩) N cap) L) (hg : W0.heap.size ≤ g) (hr : Row32 w sp m zs) (hm : m ≤ N)
    (h : ∀ w', Out32 W0 w' (.slice (some ⟨g, 0, none⟩) N cap) (zs ++ L.drop m) → wpList Tryd.prog ops Q rest (a.put o.dst (.int .i64 (m : Int))) w') : wpList Tryd.prog ops Q (o :: rest) a w := by
  have hz := hr.1
  have hN := ho.size
  subst hN
  by_cases h0 : m = 0
  · subst h0
    obtain rfl : zs = [] := List.eq_nil_of_length_eq_zero hz
    refine wpList_copy_nothing hgd d s 41 41 hop 23 Tryd.underlying41 Tryd.sizeU32 _ sp L.length cap 0 c hd hs (by simp) ?_
    exact h w (by simpa using ho)
  · obtain ⟨b, off, rfl, hb, hc⟩ := hr.2.2 (by omega)
    obtain ⟨hlen, hown⟩ := ho.1
    rcases hown with ⟨e, _⟩ | ⟨g', cap', cur, e, h1, h2, h3, h4, h5, h6⟩
    · cases e
    · injection e with e1 e2 e3
      injection e1 with e1
      injection e1 with e1
      subst e1 e3
      have hsrc : ∀ j v, (zs.map (Value.int .u32))[j]? = some v → w.cell? (Addr.add ⟨b, off, none⟩ j) = some v := by
        intro j v hv
        rw [Addr.add_lit]
        rw [List.getElem?_map] at hv
        rcases Nat.lt_or_ge j zs.length with hj | hj
        · rw [hc j (by omega), List.getElem?_eq_getElem hj]
          rw [List.getElem?_eq_getElem hj] at hv
          exact hv
        · rw [List.getElem?_eq_none hj] at hv
          cases hv
      refine wpList_copy_own hgd d s 41 41 hop 23 Tryd.underlying41 Tryd.sizeU32 g 0 L.length cap ⟨b, off, none⟩ m c hd hs cur 23 h2 (zs.map (Value.int .u32)) (by rw [List.length_map, hz]; exact (Nat.min_eq_left hm).symm) hsrc (by rw [List.length_map, h5]; omega) (u32_one zs) ?_
      rw [List.length_map, hz]
      refine h _ ⟨⟨?_, .inr ⟨g, cap, (cur.toList.take 0 ++ (zs.map (Value.int .u32) ++ cur.toList.drop (0 + m))).toArray, ?_, h1, ?_, ?_, h4, ?_, ?_⟩⟩, ?_⟩
      · simp [hz]
      · rw [List.length_append, List.length_drop, hz]
        congr 1
        omega
      · exact setRow_heap w g cur _ 23 (0, 0) h2
      · rw [List.length_append, List.length_drop, hz]
        omega
      · have hcs : cur.toList.length = cur.size := by simp
        simp only [List.take_zero, List.nil_append, List.size_toArray, List.length_append, List.length_map, List.length_drop, hz, hcs, h5]
        omega
      · simp only [List.take_zero, List.nil_append, Nat.zero_add, Nat.mul_one, List.length_append, List.length_drop, hz, List.map_append]
        rw [show m + (L.length - m) = (zs.map (Value.int .u32)).length + (L.length - m) by rw [List.length_map, hz], List.take_length_add_append, ← List.drop_take, show L.length = L.length * 1 by omega, h6, List.map_drop]
      · exact ho.2.grown (grown_setRow32 w g _) ho.2.size (fun k hk => by injection hk with hk; omega)

theorem add_end {xs ys L' : List Int} {n : Nat} {q : Int} (hx : Limbs xs) (hy : Limbs ys) (hL : Limbs L') (hn : xs.length = n) (hm : ys.length ≤ n) (q0 : 0 ≤ q) (q1 : q ≤ 1) (h : valZ L' + 1 * (4294967296 ^ (n + 1) * q) = valZ (xs ++ List.drop n (List.replicate (n + 1) 0)) + 1 * valZ (ys.take (n + 1))) : valZ L' = valZ xs + valZ ys := by
  rw [valZ_all (by omega), valZ_append, List.drop_replicate, valZ_zeros, Int.mul_zero, Int.add_zero, Int.one_mul, Int.one_mul] at h
  have a1 := valZ_lt hx
  have a2 := valZ_lt hy
  have a3 := valZ_nonneg hL
  have a4 := pow_mono32 hm
  have a5 := pow_pos32 n
  rw [hn] at a1
  rw [Int.pow_succ] at h
  have hq : q = 0 ∨ q = 1 := by omega
  rcases hq with rfl | rfl
  · omega
  · omega

theorem sub_tail {xs L' : List Int} {k : Nat} (hl : L'.length = xs.length) (hk : valZ (xs.take k) = valZ xs) (hs : ∀ i, k ≤ i → L'[i]?.getD 0 = xs[i]?.getD 0) : valZ L' = valZ (L'.take k) := by
  have e : L'.drop k = xs.drop k := by
    apply List.ext_getElem?
    intro i
    rw [List.getElem?_drop, List.getElem?_drop]
    have := hs (k + i) (by omega)
    rcases Nat.lt_or_ge (k + i) xs.length with h | h
    · rw [List.getElem?_eq_getElem (by omega), List.getElem?_eq_getElem h] at this ⊢
      simpa using this
    · rw [List.getElem?_eq_none (by omega), List.getElem?_eq_none h]
  have h1 := valZ_parts L' k
  have h2 := valZ_parts xs k
  rw [e] at h1
  omega
theorem sub_end {xs ys L' : List Int} {q : Int} (hx : Limbs xs) (hy : Limbs ys) (hL : Limbs L') (hl : L'.length = xs.length) (hle : valZ ys ≤ valZ xs) (q0 : 0 ≤ q) (q1 : q ≤ 1)
    (h : valZ L' + -1 * (4294967296 ^ (limZ (valZ xs)).length * q) = valZ xs + -1 * valZ (ys.take (limZ (valZ xs)).length)) (hs : ∀ i, (limZ (valZ xs)).length ≤ i → L'[i]?.getD 0 = xs[i]?.getD 0) : valZ (L'.take (limZ (valZ xs)).length) = valZ xs - valZ ys := by
  have t := norm_take hx
  have v := limZ_val (valZ_nonneg hx)
  have e := sub_tail hl (by rw [t.2, v]) hs
  rw [e] at h
  have hlu : (limZ (valZ xs)).length ≤ L'.length := by rw [hl]; exact t.1
  have := dif_end (out := L'.take (limZ (valZ xs)).length) (o := q) (limZ_limbs (valZ xs)) hy (hL.take _) (by rw [List.length_take, Nat.min_eq_left hlu]) (by rw [v]; exact hle) ⟨q0, q1⟩ (by rw [List.take_of_length_le (l := limZ (valZ xs)) (Nat.le_refl _), v]; omega)
  rw [this, v]

theorem giv_comm {x y : Int} {w : World} {e : Ending} {w' : World} (h : GivesL (y + x) w e w') : GivesL (x + y) w e w' := by rwa [Int.add_comm] at h

end Go.Proofs.YtdhablbfblkagaaDoor

namespace Go.Proofs.YtdhablbfblkagaaDoor
open Go.RowKit
set_option linter.unusedVariables false

theorem row_step {zs ys : List Int} {i k : Nat} {c x V : Int} (hk : i + k < zs.length) (h : valZ zs + 4294967296 ^ (i + k) * c = V + x * 4294967296 ^ i * valZ (ys.take k)) :
    valZ (zs.set (i + k) ((x * ys[k]?.getD 0 + zs[i + k]?.getD 0 + c) % 4294967296)) + 4294967296 ^ (i + (k + 1)) * ((x * ys[k]?.getD 0 + zs[i + k]?.getD 0 + c) / 4294967296) = V + x * 4294967296 ^ i * valZ (ys.take (k + 1)) := by
  rw [show x * ys[k]?.getD 0 + zs[i + k]?.getD 0 + c = c + zs[i + k]?.getD 0 + x * ys[k]?.getD 0 by omega]
  exact mul_step hk h

/-- What addMultiple leaves in the limbs from i on. -/
def Added (W0 w : World) (g M i m : Nat) (L ys : List Int) (x : Int) (e : Ending) (w' : World) : Prop :=
  ∃ (L' : List Int) (c : Int), e = .returned (.int .u32 c) ∧ 0 ≤ c ∧ c ≤ 4294967295 ∧ Out32 W0 w' (.slice (some ⟨g, 0, none⟩) M M) L' ∧ Limbs L' ∧ L'.length = M ∧ valZ L' + 4294967296 ^ (i + m) * c = valZ L + x * 4294967296 ^ i * valZ ys ∧ (∀ j, i + m ≤ j → L'[j]?.getD 0 = L[j]?.getD 0) ∧ Below W0.heap.size w w'

set_option maxHeartbeats 1000000 in
set_option maxRecDepth 10000 in
theorem addMultiple_any (W0 w : World) (g M i m cN cb : Nat) (b : Option Addr) (L ys : List Int) (x : Int) (ho : Out32 W0 w (.slice (some ⟨g, 0, none⟩) M M) L) (hln : L.length = M) (hg : W0.heap.size ≤ g) (hL : Limbs L) (hi : i + m ≤ M) (hM : M ≤ 100000) (hr : Row32 W0 b m ys) (x0 : 0 ≤ x) (x1 : x ≤ 4294967295) :
    Calls Tryd.prog 75 #[.slice (some ⟨g, i, none⟩) m cN, .slice b m cb, .int .u32 x] w (Added W0 w g M i m L ys x) := by
  have HO := Lib.hid ho
  have HLN := Lib.hid hln
  have HLL := Lib.hid hL
  have HR := Lib.hid hr
  have k1 : IntKind.u64.wrap x = x := IntWalk.u64_in _ (by omega)
  clear ho hln hL hr
  go_enter Tryd.func75, Tryd.ntmps75
  go_wp2_with fail
  go_loopw [7, 12] (fun cV kV wr => ∃ (k : Nat) (c : Int) (L1 : List Int), cV = .int .u64 c ∧ kV = .int .i64 (k : Int) ∧ k ≤ m ∧ 0 ≤ c ∧ c ≤ 4294967295 ∧ Out32 W0 wr (.slice (some ⟨g, 0, none⟩) M M) L1 ∧ Limbs L1 ∧ L1.length = M ∧ valZ L1 + 4294967296 ^ (i + k) * c = valZ L + x * 4294967296 ^ i * valZ (ys.take k) ∧ (∀ j, i + k ≤ j → L1[j]?.getD 0 = L[j]?.getD 0) ∧ Below W0.heap.size w wr) (fun _ kV _ => (1000001 - intOf kV).toNat)
  case atStart => exact ⟨0, 0, L, rfl, rfl, by omega, by omega, by omega, HO.out, HLL.out, HLN.out, by simp [valZ], fun _ _ => rfl, Below.refl _ _⟩
  case round =>
    obtain ⟨k, c, L1, rfl, rfl, hk, c0, c1, ho, hL, hlen, hval, hsame, hbw⟩ := hrel
    have HBW := Lib.hid hbw
    have HO1 := Lib.hid ho
    have HL1 := Lib.hid hL
    have HN1 := Lib.hid hlen
    have HV1 := Lib.hid hval
    have HQ1 := Lib.hid hsame
    have RB := Lib.hid (HR.out.below ho.2)
    clear ho hL hlen hval hsame hbw HO
    by_cases hmore : k < m
    · have t1 : decide ((k : Int) < (m : Int)) = true := decide_eq_true (by omega)
      have hkM : k ≤ 1000000 := by omega
      have kI : (k : Int) < (m : Int) := by omega
      have kN : (0 : Int) ≤ (k : Int) := by omega
      obtain ⟨b1, o1, rfl, hb1, hc1⟩ := RB.out.2.2 (by omega)
      have cy := hc1 k hmore
      obtain ⟨cx, fx⟩ := HO1.out.cell (i + k) (by rw [HN1.out]; omega)
      have zr := HL1.out.at (i + k)
      have yr := RB.out.num k
      have hS := row_step (i := i) (k := k) (c := c) (x := x) (ys := ys) (by rw [HN1.out]; omega) HV1.out
      generalize L1[i + k]?.getD 0 = z at *
      generalize ys[k]?.getD 0 = y at *
      have MR := mul_range c0 c1 zr.1 zr.2 x0 x1 yr.1 yr.2
      have k2 : IntKind.u64.wrap y = y := IntWalk.u64_in _ (by omega)
      have k3 : IntKind.u64.wrap (x * y) = x * y := IntWalk.u64_in _ (by omega)
      have k4 : IntKind.u64.wrap z = z := IntWalk.u64_in _ (by omega)
      have k5 : IntKind.u64.wrap (x * y + z) = x * y + z := IntWalk.u64_in _ (by omega)
      have k6 : IntKind.u64.wrap (x * y + z + c) = x * y + z + c := IntWalk.u64_in _ (by omega)
      have eT : c + z + x * y = x * y + z + c := by omega
      rw [eT] at MR
      have HS := Lib.hid hS
      clear hS hc1 HV1
      obtain ⟨T, hT⟩ : ∃ T, x * y + z + c = T := ⟨_, rfl⟩
      rw [hT] at k6 MR HS
      have HT := Lib.hid hT
      have k7 : IntKind.u32.wrap T = T % 4294967296 := rfl
      have k8 : IntKind.u64.wrap (T / 4294967296) = T / 4294967296 := IntWalk.u64_in _ (by omega)
      have d0 := MR.2.2.1
      have d1 := MR.2.2.2.1
      clear MR eT
      go_wp2_with fail
      go_quiet (fail)
      have O2 := Lib.hid (HO1.out.drewN nq)
      have B2 : Hid (Below W0.heap.size w (wr.drewN nq)) := Lib.hid { HBW.out with }
      clear cx fx
      generalize wr.drewN nq = w4 at *
      obtain ⟨cx, fx⟩ := O2.out.cell (i + k) (by rw [HN1.out]; omega)
      have O3 := Lib.hid (O2.out.set hg (i + k) (T % 4294967296))
      have B3 := Lib.hid (B2.out.setCell (p := ⟨g, i + k, none⟩) hg (.int .u32 (T % 4294967296)))
      have LN : Hid (Limbs (L1.set (i + k) (T % 4294967296))) := Lib.hid (limbs_set HL1.out _ (by omega) (by omega))
      have SO := Lib.hid (set_other (i := i + k) (r := T % 4294967296) HQ1.out)
      clear hT
      go_wp2_with fail
      go_roundw
      case rel => exact ⟨k + 1, _, _, rfl, by go_num, by omega, d0, d1, O3.out, LN.out, by rw [List.length_set]; exact HN1.out, HS.out, SO.out, B3.out⟩
      case measure => simp only [intOf]; exact meas_lt hkM
    · obtain rfl : k = m := by omega
      have t1 : decide ((k : Int) < (k : Int)) = false := decide_eq_false (by omega)
      have k2 : IntKind.u32.wrap c = c := IntWalk.u32_in _ (by omega)
      have E := HV1.out
      rw [List.take_of_length_le (by rw [HR.out.1]; omega)] at E
      have HE := Lib.hid E
      clear E
      go_wp2_with fail
      go_ret
      exact ⟨L1, c, rfl, c0, c1, HO1.out, HL1.out, HN1.out, HE.out, HQ1.out, HBW.out⟩

end Go.Proofs.YtdhablbfblkagaaDoor

namespace Go.Proofs.YtdhablbfblkagaaDoor
open Go.RowKit
set_option linter.unusedVariables false

theorem mul_round {L L' us vs : List Int} {i r : Nat} {c : Int} (hi : i + r < L'.length) (hz : L'[i + r]?.getD 0 = 0) (h : valZ L' + 4294967296 ^ (i + r) * c = valZ L + us[i]?.getD 0 * 4294967296 ^ i * valZ vs) (hv : valZ L = valZ (us.take i) * valZ vs) :
    valZ (L'.set (i + r) c) = valZ (us.take (i + 1)) * valZ vs := by
  rw [valZ_set L' _ _ hi, hz, Int.sub_zero, h, hv, valZ_take, Int.add_mul, Int.mul_comm (us[i]?.getD 0)]
theorem set_high {L' L : List Int} {i r : Nat} {c : Int} (h : ∀ j, i + r ≤ j → L'[j]?.getD 0 = L[j]?.getD 0) (hz : ∀ j, i + r ≤ j → L[j]?.getD 0 = 0) : ∀ j, i + 1 + r ≤ j → (L'.set (i + r) c)[j]?.getD 0 = 0 := by
  intro j hj
  rw [List.getElem?_set_ne (by omega), h j (by omega), hz j (by omega)]

theorem Out32.drew {W0 wr : World} {V : Value} {L : List Int} (h : Out32 W0 wr V L) : Out32 W0 wr.drew V L := ⟨h.1, { h.2 with }⟩

set_option maxHeartbeats 2000000 in
set_option maxRecDepth 10000 in
theorem mul_any (a b : Option Addr) (n m ca cb : Nat) (xs ys : List Int) (w : World) (hr : Row32 w a n xs) (hs : Row32 w b m ys) (hn : n ≤ 40000) (hm : m ≤ 40000) (hca : n ≤ ca) (hcb : m ≤ cb) (hna : a = none → ca = 0) (hnb : b = none → cb = 0) :
    Calls Tryd.prog 63 #[.slice a n ca, .slice b m cb] w (GivesL (valZ xs * valZ ys) w) := by
  obtain ⟨i0, hi, hz0, hz1, hz2⟩ := info_parts Tryd.info32
  have NA := Lib.hid (normalized_any a n ca xs w hr hca (by omega) hna)
  have NB := Lib.hid (normalized_any b m cb ys w hs hcb (by omega) hnb)
  have HA := Lib.hid hr.norm
  have HB := Lib.hid hs.norm
  have VA := limZ_val (valZ_nonneg (row32_limbs hr))
  have VB := limZ_val (valZ_nonneg (row32_limbs hs))
  have la : (limZ (valZ xs)).length ≤ n := by have := (norm_take (row32_limbs hr)).1; have := hr.1; omega
  have lb : (limZ (valZ ys)).length ≤ m := by have := (norm_take (row32_limbs hs)).1; have := hs.1; omega
  clear hr hs hna hnb
  rw [← VA, ← VB]
  generalize limZ (valZ xs) = us at *
  generalize limZ (valZ ys) = vs at *
  clear VA VB
  obtain ⟨p, hp⟩ : ∃ p, us.length = p := ⟨_, rfl⟩
  obtain ⟨r, hr⟩ : ∃ r, vs.length = r := ⟨_, rfl⟩
  rw [hp] at la NA HA
  rw [hr] at lb NB HB
  have HP := Lib.hid hp
  have HRR := Lib.hid hr
  clear hp hr
  have w1 : IntKind.i64.wrap ((p : Int) + (r : Int)) = (p : Int) + (r : Int) := IntWalk.i64_in _ (by omega)
  go_enter Tryd.func63, Tryd.ntmps63
  go_wp2_with fail
  refine NA.out.mono ?_
  rintro e w2 ⟨rfl, rfl⟩
  go_wp2_with fail
  refine NB.out.mono ?_
  rintro e w3 ⟨rfl, hw3⟩
  subst hw3
  clear NA NB
  go_wp2_with (at_make; refine wpList_make_full _ rfl _ _ 41 rfl w3.heap.size 23 i0 (.int .u32 0) 1 Tryd.underlying41 hi hz0 hz1 _ _ _ _ (p + r) rfl rfl ?b0 ?b00 ?b1 ?b2 ?b3 ?_)
  case b0 => first | rfl | omega
  case b00 => first | rfl | omega
  case b1 => rw [hz2]; omega
  case b2 => unfold maxLen; omega
  case b3 => exact Nat.le_refl _
  intro w1 hown0 hgrow
  have HO := Lib.hid (out_made32 hown0 hgrow)
  clear hown0 hgrow hz2 hz1 hz0 hi
  go_wp2_with fail
  go_loopw [19] (fun iV wr => ∃ (i : Nat) (L : List Int), iV = .int .i64 (i : Int) ∧ i ≤ p ∧ Out32 w3 wr (.slice (some ⟨w3.heap.size, 0, none⟩) (p + r) (p + r)) L ∧ Limbs L ∧ L.length = p + r ∧ valZ L = valZ (us.take i) * valZ vs ∧ ∀ j, i + r ≤ j → L[j]?.getD 0 = 0) (fun iV _ => (1000001 - intOf iV).toNat)
  case atStart => exact ⟨0, _, rfl, by omega, HO.out, limbs_zeros _, by simp, by simp [valZ, valZ_zeros], fun j _ => by rw [List.getElem?_replicate]; split <;> rfl⟩
  case round =>
    obtain ⟨i, L, rfl, hi, ho, hL, hlen, hval, hzero⟩ := hrel
    have HO0 := Lib.hid ho
    have HL0 := Lib.hid hL
    have HN0 := Lib.hid hlen
    have HV0 := Lib.hid hval
    have HZ0 := Lib.hid hzero
    clear ho hL hlen hval hzero HO
    by_cases hmore : i < p
    · have t1 : decide ((i : Int) < (p : Int)) = true := decide_eq_true (by omega)
      have hiM : i ≤ 1000000 := by omega
      have RA := Lib.hid (HA.out.below HO0.out.2)
      obtain ⟨b1, o1, rfl, hb1, hc1⟩ := HA.out.2.2 (by omega)
      have ca0 : ∀ W, Below w3.heap.size wr.drew W → W.cell? ⟨b1, o1 + i, none⟩ = some (.int .u32 (us[i]?.getD 0)) := fun W hW => by
        have h1 : W.cell? ⟨b1, o1 + i, none⟩ = wr.drew.cell? ⟨b1, o1 + i, none⟩ := hW.cell (p := ⟨b1, o1 + i, none⟩) hb1
        have h2 : wr.drew.cell? ⟨b1, o1 + i, none⟩ = w3.cell? ⟨b1, o1 + i, none⟩ := (show Below w3.heap.size w3 wr.drew from { HO0.out.2 with }).cell (p := ⟨b1, o1 + i, none⟩) hb1
        exact h1.trans (h2.trans (hc1 i hmore))
      have xr := HA.out.num i
      have MR := Lib.hid (fun (L' : List Int) (c : Int) => mul_round (L := L) (L' := L') (us := us) (vs := vs) (i := i) (r := r) (c := c))
      generalize us[i]?.getD 0 = x at *
      have AM := Lib.hid (addMultiple_any w3 wr.drew w3.heap.size (p + r) i r (p + r - i) r b L vs x HO0.out.drew HN0.out (Nat.le_refl _) HL0.out (by omega) (by omega) HB.out xr.1 xr.2)
      have i1 : IntKind.i64.wrap ((i : Int) + (r : Int)) = (i : Int) + (r : Int) := IntWalk.i64_in _ (by omega)
      have i2 : (i : Int) < (p : Int) := by omega
      have i3 : (i : Int) + (r : Int) < (p : Int) + (r : Int) := by omega
      have i4 : (i : Int) ≤ (i : Int) + (r : Int) := by omega
      have i5 : (i : Int) + (r : Int) ≤ (p : Int) + (r : Int) := by omega
      have i6 : 0 ≤ (i : Int) + (r : Int) := by omega
      have i7 : ((i : Int) + (r : Int)).toNat = i + r := by omega
      have i8 : i + r - i = r := by omega
      have i9 : ¬ p + r = i := by omega
      clear hc1
      go_wp2_with fail
      refine wp_region_ord (Below w3.heap.size) (Below.refl _) (fun _ _ _ => Below.trans) [(0, false), (1, false), (2, false), (3, false), (4, false), (5, false), (6, false), (7, false), (8, false), (9, false), (10, false), (11, false), (12, false), (13, false), (14, false), (15, false), (16, false), (17, true), (18, false), (19, true)] (by kernel_rfl) (by kernel_rfl) rfl (by kernel_rfl) (fun _ _ _ _ _ h => h) ?_
      repeat (refine ord_take _ rfl (by rfl) (fun W hW => by go_simp; first | done | rfl) ?_; simp only [Act.put, List.setIfInBounds_toArray, List.set_cons_zero, List.set_cons_succ])
      refine ord_sole rfl (by rfl) (fun K1 hK1 => ?_)
      go_simp
      refine AM.out.mono ?_
      rintro e w4 ⟨L', c, rfl, c0, c1, hO, hL', hlen, hval, hhigh, hbw⟩
      refine hK1 _ _ hbw ?_
      clear hK1 K1 ca0
      obtain ⟨cx, fx⟩ := hO.cell (i + r) (by rw [hlen]; omega)
      have z0 : L'[i + r]?.getD 0 = 0 := by rw [hhigh _ (Nat.le_refl _)]; exact HZ0.out _ (Nat.le_refl _)
      rw [z0] at cx
      have O5 := Lib.hid (hO.set (Nat.le_refl _) (i + r) c)
      have L5 := Lib.hid (limbs_set hL' (i + r) c0 c1)
      have V5 := Lib.hid (MR.out L' c (by rw [hlen]; omega) z0 hval HV0.out)
      have Z5 := Lib.hid (set_high (c := c) hhigh HZ0.out)
      have N5 := Lib.hid hlen
      clear hO hL' hlen hval hhigh hbw z0
      try simp only [Act.put, List.setIfInBounds_toArray, List.set_cons_zero, List.set_cons_succ]
      refine ord_take _ rfl (by rfl) (fun W hW => by go_simp; first | done | rfl) ?_
      try simp only [Act.put, List.setIfInBounds_toArray, List.set_cons_zero, List.set_cons_succ]
      refine ord_sole rfl (by rfl) (fun K1 hK1 => ?_)
      unfold Oper.wp
      go_simp
      refine hK1 _ _ ((Below.refl _ _).setCell (p := ⟨w3.heap.size, i + r, none⟩) (Nat.le_refl _) _) ?_
      clear hK1 K1 cx fx
      refine ord_end ?_
      generalize hw5 : w4.setCell ⟨w3.heap.size, i + r, none⟩ (.int .u32 c) = w5 at *
      clear hw5
      go_wp2_with fail
      go_roundw
      case rel => exact ⟨i + 1, _, by go_num, by omega, O5.out, L5.out, by rw [List.length_set]; exact N5.out, V5.out, Z5.out⟩
      case measure => simp only [intOf]; exact meas_lt hiM
    · obtain rfl : i = p := by omega
      have t1 : decide ((i : Int) < (i : Int)) = false := decide_eq_false (by omega)
      have F : Hid (valZ L = valZ us * valZ vs) := Lib.hid (by rw [HV0.out, List.take_of_length_le (by rw [HP.out]; omega)])
      have R3 := (HO0.out.normed HL0.out).1
      have N3 := Lib.hid (normalized_any (some ⟨w3.heap.size, 0, none⟩) (i + r) (i + r) L wr R3 (Nat.le_refl _) (by omega) (fun e => by cases e))
      have G3 := Lib.hid R3.norm
      rw [F.out] at N3 G3
      clear R3 HV0 F
      go_wp2_with fail
      refine N3.out.mono ?_
      rintro e w4 ⟨rfl, rfl⟩
      go_wp2_with fail
      go_ret
      exact ⟨_, _, rfl, G3.out, (fun e => by cases e), Nat.le_refl _, HO0.out.2⟩

end Go.Proofs.YtdhablbfblkagaaDoor

namespace Go.Proofs.YtdhablbfblkagaaDoor
open Go.RowKit
set_option linter.unusedVariables false

set_option maxHeartbeats 2000000 in
set_option maxRecDepth 10000 in
theorem rfrom_any (a : Option Addr) (n ca : Nat) (zs : List Int) (w : World) (hr : Row w a n zs) (hn : n ≤ 100000) : Calls Tryd.prog 24 #[.slice a n ca] w (GivesL (beV zs) w) := by
  obtain ⟨i0, hi, hz0, hz1, hz2⟩ := info_parts Tryd.info32
  have HA := Lib.hid hr
  have HL : Hid (zs.length = n) := Lib.hid hr.1
  clear hr
  obtain ⟨N, hN⟩ : ∃ N, n / 4 + 1 = N := ⟨_, rfl⟩
  have g1 : (n : Int) / 4 + 1 = (N : Int) := by omega
  have w1 : IntKind.i64.wrap ((n : Int) / 4) = (n : Int) / 4 := IntWalk.i64_in _ (by omega)
  have w2 : IntKind.i64.wrap ((n : Int) / 4 + 1) = (N : Int) := by rw [g1]; exact IntWalk.i64_in _ (by omega)
  go_enter Tryd.func24, Tryd.ntmps24
  go_wp2_with (at_make; refine wpList_make_full _ rfl _ _ 41 rfl w.heap.size 23 i0 (.int .u32 0) 1 Tryd.underlying41 hi hz0 hz1 _ _ _ _ N rfl rfl ?b0 ?b00 ?b1 ?b2 ?b3 ?_)
  case b0 => first | rfl | omega
  case b00 => first | rfl | omega
  case b1 => rw [hz2]; omega
  case b2 => unfold maxLen; omega
  case b3 => exact Nat.le_refl _
  intro w1 hown0 hgrow
  have HO := Lib.hid (out_made32 hown0 hgrow)
  clear hown0 hgrow hz2 hz1 hz0 hi
  go_wp2_with fail
  go_loopw [4] (fun iV wr => ∃ (i : Nat) (L : List Int), iV = .int .i64 (i : Int) ∧ i ≤ n ∧ Out32 w wr (.slice (some ⟨w.heap.size, 0, none⟩) N N) L ∧ Limbs L ∧ L.length = N ∧ valZ L = beV (zs.take i) * 256 ^ (n - i)) (fun iV _ => (1000001 - intOf iV).toNat)
  case atStart => exact ⟨0, _, rfl, by omega, HO.out, limbs_zeros _, by simp, by rw [valZ_zeros]; simp [beV_nil]⟩
  case round =>
    obtain ⟨i, L, rfl, hi, ho, hL, hlen, hval⟩ := hrel
    have HO2 := Lib.hid ho
    have HLL := Lib.hid hL
    have HN := Lib.hid hlen
    have HV := Lib.hid hval
    clear ho hL hlen hval HO
    by_cases hmore : i < n
    · have t1 : decide ((i : Int) < (n : Int)) = true := decide_eq_true (by omega)
      obtain ⟨k, hk⟩ : ∃ k, n - 1 - i = k := ⟨_, rfl⟩
      obtain ⟨q, hq⟩ : ∃ q, k / 4 = q := ⟨_, rfl⟩
      have r4 := Nat.mod_lt k (show 0 < 4 by omega)
      obtain ⟨r, hr⟩ : ∃ r, k % 4 = r := ⟨_, rfl⟩
      rw [hr] at r4
      obtain ⟨b, off, rfl, hbl0, hcell0⟩ := HA.out.2.2 (by omega)
      have cb : wr.drew.cell? ⟨b, off + i, none⟩ = some (.int .u8 (zs[i]?.getD 0)) := ((show Below w.heap.size w wr.drew from { HO2.out.2 with }).cell (p := ⟨b, off + i, none⟩) hbl0).trans (hcell0 i hmore)
      have br := HA.out.byte i
      have qN : q < N := by omega
      have HV1 : valZ L = beV (zs.take i) * 256 ^ (4 * q + r + 1) := by rw [HV.out, show n - i = 4 * q + r + 1 by omega]
      have S := from_step (b := zs[i]?.getD 0) (by rw [HN.out]; exact qN) HV1
      rw [← beV_take (by rw [HL.out]; exact hmore), show 4 * q + r = n - (i + 1) by omega] at S
      have RM := from_room HLL.out r4 (by rw [HN.out]; exact qN) HV1
      have lr : 0 ≤ L[q]?.getD 0 ∧ L[q]?.getD 0 ≤ 4294967295 := by
        rw [List.getElem?_eq_getElem (by rw [HN.out]; exact qN)]
        exact HLL.out _ (List.getElem_mem _)
      have FT := from_fits r4 lr.1 lr.2 br.1 br.2 RM
      obtain ⟨hc1, hf1⟩ := HO2.out.cell q (by rw [HN.out]; exact qN)
      have HSET := Lib.hid (fun v => HO2.out.set (Nat.le_refl _) q v)
      have LN := Lib.hid (limbs_set HLL.out q (v := L[q]?.getD 0 + zs[i]?.getD 0 * 256 ^ r) (by omega) (by omega))
      have SV := Lib.hid S
      generalize L[q]?.getD 0 = l at *
      generalize zs[i]?.getD 0 = z at *
      have k1 : IntKind.i64.wrap ((n : Int) - 1) = (n : Int) - 1 := IntWalk.i64_in _ (by omega)
      have k2 : IntKind.i64.wrap ((n : Int) - 1 - (i : Int)) = (k : Int) := by rw [show (n : Int) - 1 - (i : Int) = (k : Int) by omega]; exact IntWalk.i64_in _ (by omega)
      have k3 : (k : Int) / 4 = (q : Int) := by omega
      have k4 : (k : Int) % 4 = (r : Int) := by omega
      have k5 : IntKind.i64.wrap (q : Int) = (q : Int) := IntWalk.i64_in _ (by omega)
      have qI : (q : Int) < (N : Int) := by omega
      have iI : (i : Int) < (n : Int) := by omega
      have k6 : IntKind.u32.wrap z = z := IntWalk.u32_in _ (by omega)
      have hiM : i ≤ 1000000 := by omega
      clear hcell0 HV1 S RM HV
      have cz : ∀ W, Below w.heap.size wr.drew W → W.cell? ⟨b, off + i, none⟩ = some (.int .u8 z) := fun W hW => by
        have h1 : W.cell? ⟨b, off + i, none⟩ = wr.drew.cell? ⟨b, off + i, none⟩ := hW.cell (p := ⟨b, off + i, none⟩) hbl0
        exact h1.trans cb
      obtain rfl | rfl | rfl | rfl : r = 0 ∨ r = 1 ∨ r = 2 ∨ r = 3 := by omega
      · have kt : (k : Int).tmod 4 = 0 := by rw [Int.tmod_eq_emod_of_nonneg (by omega)]; omega
        have kp : (256 : Int) ^ 0 = 1 := by decide
        rw [kp, Int.mul_one] at FT LN SV
        have wz : IntKind.u32.wrap (z) = z := IntWalk.u32_in _ (by omega)
        have wl : IntKind.u32.wrap (l + z) = l + z := IntWalk.u32_in _ (by omega)
        have w8 : IntKind.i64.wrap 0 = 0 := by decide
        have hc2 : wr.drew.cell? ⟨w.heap.size, q, none⟩ = some (.int .u32 l) := hc1
        have hf2 : wr.drew.frozen? ⟨w.heap.size, q, none⟩ = false := hf1
        clear FT kp k4 r4
        go_wp2_with fail
        refine wp_region_ord (Below w.heap.size) (Below.refl _) (fun _ _ _ => Below.trans) [(0, false), (1, false), (2, false), (3, false), (4, false), (5, false), (6, false), (8, false), (9, false), (10, false), (11, false), (12, false), (13, false), (14, false), (15, false), (16, false), (7, true), (17, false), (18, false), (19, true)] (by kernel_rfl) (by kernel_rfl) rfl (by kernel_rfl) (fun _ _ _ _ _ h => h) ?_
        repeat (refine ord_take _ rfl (by rfl) (fun W hW => by go_simp; first | done | rfl) ?_; simp only [Act.put, List.setIfInBounds_toArray, List.set_cons_zero, List.set_cons_succ])
        refine ord_sole rfl (by rfl) (fun K1 hK1 => ?_)
        unfold Oper.wp
        go_simp
        refine hK1 _ _ (Below.refl _ _) ?_
        clear hK1 K1 cz
        try simp only [Act.put, List.setIfInBounds_toArray, List.set_cons_zero, List.set_cons_succ]
        repeat (refine ord_take _ rfl (by rfl) (fun W hW => by go_simp; first | done | rfl) ?_; try simp only [Act.put, List.setIfInBounds_toArray, List.set_cons_zero, List.set_cons_succ])
        refine ord_sole rfl (by rfl) (fun K1 hK1 => ?_)
        unfold Oper.wp
        go_simp
        refine hK1 _ _ ((Below.refl _ _).setCell (p := ⟨w.heap.size, q, none⟩) (Nat.le_refl _) _) ?_
        clear hK1 K1 hc1 hc2 hf1 hf2
        refine ord_end ?_
        have O5 := Lib.hid (HO2.out.set (Nat.le_refl _) q (l + z)).drew
        generalize hw5 : (wr.setCell ⟨w.heap.size, q, none⟩ (.int .u32 (l + z))).drew = w5 at *
        clear hw5
        go_wp2_with fail
        go_roundw
        case rel => exact ⟨i + 1, _, by go_num, by omega, O5.out, LN.out, by rw [List.length_set]; exact HN.out, SV.out⟩
        case measure => simp only [intOf]; exact meas_lt hiM
      · have kt : (k : Int).tmod 4 = 1 := by rw [Int.tmod_eq_emod_of_nonneg (by omega)]; omega
        have kp : (256 : Int) ^ 1 = 256 := by decide
        rw [kp] at FT LN SV
        have wz : IntKind.u32.wrap (z * 256) = z * 256 := IntWalk.u32_in _ (by omega)
        have wl : IntKind.u32.wrap (l + z * 256) = l + z * 256 := IntWalk.u32_in _ (by omega)
        have w8 : IntKind.i64.wrap 8 = 8 := by decide
        have hc2 : wr.drew.cell? ⟨w.heap.size, q, none⟩ = some (.int .u32 l) := hc1
        have hf2 : wr.drew.frozen? ⟨w.heap.size, q, none⟩ = false := hf1
        clear FT kp k4 r4
        go_wp2_with fail
        refine wp_region_ord (Below w.heap.size) (Below.refl _) (fun _ _ _ => Below.trans) [(0, false), (1, false), (2, false), (3, false), (4, false), (5, false), (6, false), (8, false), (9, false), (10, false), (11, false), (12, false), (13, false), (14, false), (15, false), (16, false), (7, true), (17, false), (18, false), (19, true)] (by kernel_rfl) (by kernel_rfl) rfl (by kernel_rfl) (fun _ _ _ _ _ h => h) ?_
        repeat (refine ord_take _ rfl (by rfl) (fun W hW => by go_simp; first | done | rfl) ?_; simp only [Act.put, List.setIfInBounds_toArray, List.set_cons_zero, List.set_cons_succ])
        refine ord_sole rfl (by rfl) (fun K1 hK1 => ?_)
        unfold Oper.wp
        go_simp
        refine hK1 _ _ (Below.refl _ _) ?_
        clear hK1 K1 cz
        try simp only [Act.put, List.setIfInBounds_toArray, List.set_cons_zero, List.set_cons_succ]
        repeat (refine ord_take _ rfl (by rfl) (fun W hW => by go_simp; first | done | rfl) ?_; try simp only [Act.put, List.setIfInBounds_toArray, List.set_cons_zero, List.set_cons_succ])
        refine ord_sole rfl (by rfl) (fun K1 hK1 => ?_)
        unfold Oper.wp
        go_simp
        refine hK1 _ _ ((Below.refl _ _).setCell (p := ⟨w.heap.size, q, none⟩) (Nat.le_refl _) _) ?_
        clear hK1 K1 hc1 hc2 hf1 hf2
        refine ord_end ?_
        have O5 := Lib.hid (HO2.out.set (Nat.le_refl _) q (l + z * 256)).drew
        generalize hw5 : (wr.setCell ⟨w.heap.size, q, none⟩ (.int .u32 (l + z * 256))).drew = w5 at *
        clear hw5
        go_wp2_with fail
        go_roundw
        case rel => exact ⟨i + 1, _, by go_num, by omega, O5.out, LN.out, by rw [List.length_set]; exact HN.out, SV.out⟩
        case measure => simp only [intOf]; exact meas_lt hiM
      · have kt : (k : Int).tmod 4 = 2 := by rw [Int.tmod_eq_emod_of_nonneg (by omega)]; omega
        have kp : (256 : Int) ^ 2 = 65536 := by decide
        rw [kp] at FT LN SV
        have wz : IntKind.u32.wrap (z * 65536) = z * 65536 := IntWalk.u32_in _ (by omega)
        have wl : IntKind.u32.wrap (l + z * 65536) = l + z * 65536 := IntWalk.u32_in _ (by omega)
        have w8 : IntKind.i64.wrap 16 = 16 := by decide
        have hc2 : wr.drew.cell? ⟨w.heap.size, q, none⟩ = some (.int .u32 l) := hc1
        have hf2 : wr.drew.frozen? ⟨w.heap.size, q, none⟩ = false := hf1
        clear FT kp k4 r4
        go_wp2_with fail
        refine wp_region_ord (Below w.heap.size) (Below.refl _) (fun _ _ _ => Below.trans) [(0, false), (1, false), (2, false), (3, false), (4, false), (5, false), (6, false), (8, false), (9, false), (10, false), (11, false), (12, false), (13, false), (14, false), (15, false), (16, false), (7, true), (17, false), (18, false), (19, true)] (by kernel_rfl) (by kernel_rfl) rfl (by kernel_rfl) (fun _ _ _ _ _ h => h) ?_
        repeat (refine ord_take _ rfl (by rfl) (fun W hW => by go_simp; first | done | rfl) ?_; simp only [Act.put, List.setIfInBounds_toArray, List.set_cons_zero, List.set_cons_succ])
        refine ord_sole rfl (by rfl) (fun K1 hK1 => ?_)
        unfold Oper.wp
        go_simp
        refine hK1 _ _ (Below.refl _ _) ?_
        clear hK1 K1 cz
        try simp only [Act.put, List.setIfInBounds_toArray, List.set_cons_zero, List.set_cons_succ]
        repeat (refine ord_take _ rfl (by rfl) (fun W hW => by go_simp; first | done | rfl) ?_; try simp only [Act.put, List.setIfInBounds_toArray, List.set_cons_zero, List.set_cons_succ])
        refine ord_sole rfl (by rfl) (fun K1 hK1 => ?_)
        unfold Oper.wp
        go_simp
        refine hK1 _ _ ((Below.refl _ _).setCell (p := ⟨w.heap.size, q, none⟩) (Nat.le_refl _) _) ?_
        clear hK1 K1 hc1 hc2 hf1 hf2
        refine ord_end ?_
        have O5 := Lib.hid (HO2.out.set (Nat.le_refl _) q (l + z * 65536)).drew
        generalize hw5 : (wr.setCell ⟨w.heap.size, q, none⟩ (.int .u32 (l + z * 65536))).drew = w5 at *
        clear hw5
        go_wp2_with fail
        go_roundw
        case rel => exact ⟨i + 1, _, by go_num, by omega, O5.out, LN.out, by rw [List.length_set]; exact HN.out, SV.out⟩
        case measure => simp only [intOf]; exact meas_lt hiM
      · have kt : (k : Int).tmod 4 = 3 := by rw [Int.tmod_eq_emod_of_nonneg (by omega)]; omega
        have kp : (256 : Int) ^ 3 = 16777216 := by decide
        rw [kp] at FT LN SV
        have wz : IntKind.u32.wrap (z * 16777216) = z * 16777216 := IntWalk.u32_in _ (by omega)
        have wl : IntKind.u32.wrap (l + z * 16777216) = l + z * 16777216 := IntWalk.u32_in _ (by omega)
        have w8 : IntKind.i64.wrap 24 = 24 := by decide
        have hc2 : wr.drew.cell? ⟨w.heap.size, q, none⟩ = some (.int .u32 l) := hc1
        have hf2 : wr.drew.frozen? ⟨w.heap.size, q, none⟩ = false := hf1
        clear FT kp k4 r4
        go_wp2_with fail
        refine wp_region_ord (Below w.heap.size) (Below.refl _) (fun _ _ _ => Below.trans) [(0, false), (1, false), (2, false), (3, false), (4, false), (5, false), (6, false), (8, false), (9, false), (10, false), (11, false), (12, false), (13, false), (14, false), (15, false), (16, false), (7, true), (17, false), (18, false), (19, true)] (by kernel_rfl) (by kernel_rfl) rfl (by kernel_rfl) (fun _ _ _ _ _ h => h) ?_
        repeat (refine ord_take _ rfl (by rfl) (fun W hW => by go_simp; first | done | rfl) ?_; simp only [Act.put, List.setIfInBounds_toArray, List.set_cons_zero, List.set_cons_succ])
        refine ord_sole rfl (by rfl) (fun K1 hK1 => ?_)
        unfold Oper.wp
        go_simp
        refine hK1 _ _ (Below.refl _ _) ?_
        clear hK1 K1 cz
        try simp only [Act.put, List.setIfInBounds_toArray, List.set_cons_zero, List.set_cons_succ]
        repeat (refine ord_take _ rfl (by rfl) (fun W hW => by go_simp; first | done | rfl) ?_; try simp only [Act.put, List.setIfInBounds_toArray, List.set_cons_zero, List.set_cons_succ])
        refine ord_sole rfl (by rfl) (fun K1 hK1 => ?_)
        unfold Oper.wp
        go_simp
        refine hK1 _ _ ((Below.refl _ _).setCell (p := ⟨w.heap.size, q, none⟩) (Nat.le_refl _) _) ?_
        clear hK1 K1 hc1 hc2 hf1 hf2
        refine ord_end ?_
        have O5 := Lib.hid (HO2.out.set (Nat.le_refl _) q (l + z * 16777216)).drew
        generalize hw5 : (wr.setCell ⟨w.heap.size, q, none⟩ (.int .u32 (l + z * 16777216))).drew = w5 at *
        clear hw5
        go_wp2_with fail
        go_roundw
        case rel => exact ⟨i + 1, _, by go_num, by omega, O5.out, LN.out, by rw [List.length_set]; exact HN.out, SV.out⟩
        case measure => simp only [intOf]; exact meas_lt hiM
    · obtain rfl : i = n := by omega
      have t1 : decide ((i : Int) < (i : Int)) = false := decide_eq_false (by omega)
      have F : Hid (valZ L = beV zs) := Lib.hid (by rw [HV.out, List.take_of_length_le (by rw [HL.out]; omega), Nat.sub_self]; simp)
      have R3 := (HO2.out.normed HLL.out).1
      have N3 := Lib.hid (rbare_any (some ⟨w.heap.size, 0, none⟩) N N L wr R3 (Nat.le_refl _) (by omega) (fun e => by cases e))
      rw [F.out] at N3
      have B1 := Lib.hid HO2.out.2
      clear R3 HV F
      go_wp2_with fail
      refine N3.out.mono ?_
      rintro e w5 ⟨a5, c5, rfl, h5⟩
      have H5 := Lib.hid h5
      clear h5
      go_wp2_with fail
      go_ret
      exact ⟨a5, c5, rfl, H5.out.1, H5.out.2.1, H5.out.2.2.1, B1.out.trans (H5.out.2.2.2.mono B1.out.size)⟩

end Go.Proofs.YtdhablbfblkagaaDoor

namespace Go.Proofs.YtdhablbfblkagaaDoor
open Go.RowKit
set_option linter.unusedVariables false

theorem beV_fold : ∀ (l : List Int) (v : Int), l.foldl (fun v x => v * 256 + x) v = v * 256 ^ l.length + beV l
  | [], v => by simp [beV]
  | x :: xs, v => by
    have e : beV (x :: xs) = xs.foldl (fun v x => v * 256 + x) (0 * 256 + x) := rfl
    rw [List.foldl_cons, beV_fold xs, e, beV_fold xs, List.length_cons, Int.pow_succ, Int.add_mul, Int.zero_mul, Int.zero_add, Int.mul_comm (256 ^ xs.length) 256, Int.mul_assoc, Int.add_assoc]
theorem beV_cons (x : Int) (xs : List Int) : beV (x :: xs) = x * 256 ^ xs.length + beV xs := by
  have e : beV (x :: xs) = xs.foldl (fun v x => v * 256 + x) (0 * 256 + x) := rfl
  rw [e, beV_fold xs, Int.zero_mul, Int.zero_add]
theorem beV_lt : ∀ {l : List Int}, (∀ x ∈ l, 0 ≤ x ∧ x ≤ 255) → beV l < 256 ^ l.length
  | [], _ => by decide
  | x :: xs, h => by
    have ih := beV_lt (l := xs) (fun y hy => h y (by simp [hy]))
    have hx := h x (by simp)
    have p : (0 : Int) < 256 ^ xs.length := Int.pow_pos (by decide)
    rw [beV_cons, List.length_cons, Int.pow_succ]
    generalize (256 : Int) ^ xs.length = P at *
    have := Int.mul_le_mul_of_nonneg_right (show x ≤ 255 by omega) (Int.le_of_lt p)
    omega
theorem beV_drop {zs : List Int} {i : Nat} (hi : i < zs.length) : beV (zs.drop (zs.length - 1 - i)) = zs[zs.length - 1 - i]?.getD 0 * 256 ^ i + beV (zs.drop (zs.length - i)) := by
  have h : zs.length - 1 - i < zs.length := by omega
  rw [List.drop_eq_getElem_cons h, beV_cons, List.length_drop, List.getElem?_eq_getElem h, show zs.length - 1 - i + 1 = zs.length - i by omega, show zs.length - (zs.length - i) = i by omega]
  rfl
theorem limb_low {L : List Int} (hL : Limbs L) {q r : Nat} (hq : q < L.length) (h : valZ L < 256 ^ (4 * q + r)) : L[q]?.getD 0 < 256 ^ r := by
  have e := valZ_parts L q
  rw [valZ_drop L q] at e
  have t := take_lt hL q
  have p := pow_pos32 q
  have d0 := valZ_nonneg (hL.drop (q + 1))
  rw [pow256] at h
  have h2 : 4294967296 ^ q * (L[q]?.getD 0 + 4294967296 * valZ (L.drop (q + 1))) < 4294967296 ^ q * 256 ^ r := by omega
  have := Int.lt_of_mul_lt_mul_left h2 (by omega)
  omega
theorem join_step {L zs : List Int} {q r i : Nat} (hi : i < zs.length) (hir : i = 4 * q + r) (hq : q < L.length) (h : valZ L = beV (zs.drop (zs.length - i))) :
    valZ (L.set q (L[q]?.getD 0 + zs[zs.length - 1 - i]?.getD 0 * 256 ^ r)) = beV (zs.drop (zs.length - (i + 1))) := by
  rw [valZ_set L q _ hq, h, show zs.length - (i + 1) = zs.length - 1 - i by omega, beV_drop hi, hir, pow256]
  generalize zs[zs.length - 1 - (4 * q + r)]?.getD 0 = z
  generalize (4294967296 : Int) ^ q = P
  generalize (256 : Int) ^ r = R
  generalize L[q]?.getD 0 = l
  rw [show l + z * R - l = z * R by omega, Int.mul_left_comm, Int.add_comm]
theorem or_low {l h : Int} (r : Nat) (l0 : 0 ≤ l) (h0 : 0 ≤ h) (l1 : l ≤ 4294967295) (h1 : h ≤ 4294967295) (hl : l < 2 ^ r) (hh : h % 2 ^ r = 0) : bits .or .u32 l h = l + h := by
  obtain ⟨x, rfl⟩ := Int.eq_ofNat_of_zero_le l0
  obtain ⟨y, rfl⟩ := Int.eq_ofNat_of_zero_le h0
  rw [nor x y (by omega) (by omega), Nat.or_comm, ← nor y x (by omega) (by omega), bits_join .u32 32 (by decide) wraps_u32 r _ _ h0 hh (by omega) l0 hl (by omega), Int.add_comm]

set_option maxHeartbeats 2000000 in
set_option maxRecDepth 10000 in
theorem from_any (a : Option Addr) (n ca : Nat) (zs : List Int) (w : World) (hr : Row w a n zs) (hn : n ≤ 100000) : Calls Tryd.prog 19 #[.slice a n ca] w (GivesL (beV zs) w) := by
  obtain ⟨i0, hi, hz0, hz1, hz2⟩ := info_parts Tryd.info32
  have HA := Lib.hid hr
  have HL : Hid (zs.length = n) := Lib.hid hr.1
  have HBY : Hid (∀ x ∈ zs, 0 ≤ x ∧ x ≤ 255) := Lib.hid hr.2.1
  clear hr
  obtain ⟨N, hN⟩ : ∃ N, (n + 4 - 1) / 4 = N := ⟨_, rfl⟩
  have g1 : ((n : Int) + 4 - 1) / 4 = (N : Int) := by omega
  have g2 : ((n : Int) + 4 - 1).tdiv 4 = (N : Int) := by rw [Int.tdiv_eq_ediv_of_nonneg (by omega)]; exact g1
  have w0 : IntKind.i64.wrap ((n : Int) + 4) = (n : Int) + 4 := IntWalk.i64_in _ (by omega)
  have w1 : IntKind.i64.wrap ((n : Int) + 4 - 1) = (n : Int) + 4 - 1 := IntWalk.i64_in _ (by omega)
  have w2 : IntKind.i64.wrap (N : Int) = (N : Int) := IntWalk.i64_in _ (by omega)
  go_enter Tryd.func19, Tryd.ntmps19
  go_wp2_with (at_make; refine wpList_make_full _ rfl _ _ 41 rfl w.heap.size 23 i0 (.int .u32 0) 1 Tryd.underlying41 hi hz0 hz1 _ _ _ _ N rfl rfl ?b0 ?b00 ?b1 ?b2 ?b3 ?_)
  case b0 => first | rfl | omega
  case b00 => first | rfl | omega
  case b1 => rw [hz2]; omega
  case b2 => unfold maxLen; omega
  case b3 => exact Nat.le_refl _
  intro w1 hown0 hgrow
  have HO := Lib.hid (out_made32 hown0 hgrow)
  clear hown0 hgrow hz2 hz1 hz0 hi
  go_wp2_with fail
  go_loopw [14] (fun iV wr => ∃ (i : Nat) (L : List Int), iV = .int .i64 (i : Int) ∧ i ≤ n ∧ Out32 w wr (.slice (some ⟨w.heap.size, 0, none⟩) N N) L ∧ Limbs L ∧ L.length = N ∧ valZ L = beV (zs.drop (zs.length - i))) (fun iV _ => (1000001 - intOf iV).toNat)
  case atStart => exact ⟨0, _, rfl, by omega, HO.out, limbs_zeros _, by simp, by rw [valZ_zeros, Nat.sub_zero, List.drop_length]; rfl⟩
  case round =>
    obtain ⟨i, L, rfl, hi, ho, hL, hlen, hval⟩ := hrel
    have HO2 := Lib.hid ho
    have HLL := Lib.hid hL
    have HN := Lib.hid hlen
    have HV := Lib.hid hval
    clear ho hL hlen hval HO
    by_cases hmore : i < n
    · have t1 : decide ((i : Int) < (n : Int)) = true := decide_eq_true (by omega)
      obtain ⟨k, hk⟩ : ∃ k, n - 1 - i = k := ⟨_, rfl⟩
      obtain ⟨q, hq⟩ : ∃ q, i / 4 = q := ⟨_, rfl⟩
      have r4 := Nat.mod_lt i (show 0 < 4 by omega)
      obtain ⟨r, hr⟩ : ∃ r, i % 4 = r := ⟨_, rfl⟩
      rw [hr] at r4
      obtain ⟨b, off, rfl, hbl0, hcell0⟩ := HA.out.2.2 (by omega)
      have cb : wr.cell? ⟨b, off + k, none⟩ = some (.int .u8 (zs[k]?.getD 0)) := (HO2.out.2.cell (p := ⟨b, off + k, none⟩) hbl0).trans (hcell0 k (by omega))
      have br := HA.out.byte k
      have qN : q < N := by omega
      have hir : i = 4 * q + r := by omega
      have S := join_step (zs := zs) (r := r) (by rw [HL.out]; exact hmore) hir (by rw [HN.out]; exact qN) HV.out
      have LOW : L[q]?.getD 0 < 256 ^ r := limb_low HLL.out (by rw [HN.out]; exact qN) (by
        have h1 := beV_lt (l := zs.drop (zs.length - i)) (fun x hx => HBY.out x (List.mem_of_mem_drop hx))
        rw [List.length_drop, HL.out, show n - (n - i) = i by omega] at h1
        have h2 := HV.out
        rw [HL.out] at h2
        rw [h2, ← hir]
        exact h1)
      rw [HL.out, hk] at S
      have lr := HLL.out.at q
      obtain ⟨hc1, hf1⟩ := HO2.out.cell q (by rw [HN.out]; exact qN)
      have LNf := Lib.hid (fun v (h0 : 0 ≤ v) (h1 : v ≤ 4294967295) => limbs_set HLL.out q (v := v) h0 h1)
      have SV := Lib.hid S
      generalize L[q]?.getD 0 = l at *
      generalize zs[k]?.getD 0 = z at *
      have k1 : IntKind.i64.wrap ((n : Int) - 1) = (n : Int) - 1 := IntWalk.i64_in _ (by omega)
      have k2 : IntKind.i64.wrap ((n : Int) - 1 - (i : Int)) = (k : Int) := by rw [show (n : Int) - 1 - (i : Int) = (k : Int) by omega]; exact IntWalk.i64_in _ (by omega)
      have k3 : (i : Int) / 4 = (q : Int) := by omega
      have k5 : IntKind.i64.wrap (q : Int) = (q : Int) := IntWalk.i64_in _ (by omega)
      have qI : (q : Int) < (N : Int) := by omega
      have kI : (k : Int) < (n : Int) := by omega
      have k6 : IntKind.u32.wrap z = z := IntWalk.u32_in _ (by omega)
      have hiM : i ≤ 1000000 := by omega
      clear hcell0 S HV hir
      obtain rfl | rfl | rfl | rfl : r = 0 ∨ r = 1 ∨ r = 2 ∨ r = 3 := by omega
      · have kt : (i : Int).tmod 4 = 0 := by rw [Int.tmod_eq_emod_of_nonneg (by omega)]; omega
        have kp : (256 : Int) ^ 0 = 1 := by decide
        rw [kp, Int.mul_one] at SV
        rw [kp] at LOW
        have wz : IntKind.u32.wrap (z) = z := IntWalk.u32_in _ (by omega)
        have wl : bits .or .u32 l (z) = l + z := or_low 0 lr.1 (by omega) lr.2 (by omega) (by omega) (by omega)
        have w8 : IntKind.i64.wrap 0 = 0 := by decide
        have LN := Lib.hid (LNf.out (l + z) (by omega) (by omega))
        have hc2 : wr.drew.cell? ⟨w.heap.size, q, none⟩ = some (.int .u32 l) := hc1
        have hf2 : wr.drew.frozen? ⟨w.heap.size, q, none⟩ = false := hf1
        clear kp r4 LNf LOW
        go_wp2_with fail
        refine wp_region_ord (Below w.heap.size) (Below.refl _) (fun _ _ _ => Below.trans) [(0, false), (1, false), (2, false), (3, false), (5, false), (6, false), (7, false), (8, false), (9, false), (4, true), (10, false), (11, false), (12, true)] (by kernel_rfl) (by kernel_rfl) rfl (by kernel_rfl) (fun _ _ _ _ _ h => h) ?_
        repeat (refine ord_take _ rfl (by rfl) (fun W hW => by go_simp; first | done | rfl) ?_; simp only [Act.put, List.setIfInBounds_toArray, List.set_cons_zero, List.set_cons_succ])
        refine ord_sole rfl (by rfl) (fun K1 hK1 => ?_)
        unfold Oper.wp
        go_simp
        refine hK1 _ _ (Below.refl _ _) ?_
        clear hK1 K1
        try simp only [Act.put, List.setIfInBounds_toArray, List.set_cons_zero, List.set_cons_succ]
        repeat (refine ord_take _ rfl (by rfl) (fun W hW => by go_simp; first | done | rfl) ?_; try simp only [Act.put, List.setIfInBounds_toArray, List.set_cons_zero, List.set_cons_succ])
        refine ord_sole rfl (by rfl) (fun K1 hK1 => ?_)
        unfold Oper.wp
        go_simp
        refine hK1 _ _ ((Below.refl _ _).setCell (p := ⟨w.heap.size, q, none⟩) (Nat.le_refl _) _) ?_
        clear hK1 K1 hc1 hc2 hf1 hf2
        refine ord_end ?_
        have O5 := Lib.hid (HO2.out.set (Nat.le_refl _) q (l + z)).drew
        generalize hw5 : (wr.setCell ⟨w.heap.size, q, none⟩ (.int .u32 (l + z))).drew = w5 at *
        clear hw5
        go_wp2_with fail
        go_roundw
        case rel => exact ⟨i + 1, _, by go_num, by omega, O5.out, LN.out, by rw [List.length_set]; exact HN.out, by rw [HL.out]; exact SV.out⟩
        case measure => simp only [intOf]; exact meas_lt hiM
      · have kt : (i : Int).tmod 4 = 1 := by rw [Int.tmod_eq_emod_of_nonneg (by omega)]; omega
        have kp : (256 : Int) ^ 1 = 256 := by decide
        rw [kp] at SV
        rw [kp] at LOW
        have wz : IntKind.u32.wrap (z * 256) = z * 256 := IntWalk.u32_in _ (by omega)
        have wl : bits .or .u32 l (z * 256) = l + z * 256 := or_low 8 lr.1 (by omega) lr.2 (by omega) (by omega) (by omega)
        have w8 : IntKind.i64.wrap 8 = 8 := by decide
        have LN := Lib.hid (LNf.out (l + z * 256) (by omega) (by omega))
        have hc2 : wr.drew.cell? ⟨w.heap.size, q, none⟩ = some (.int .u32 l) := hc1
        have hf2 : wr.drew.frozen? ⟨w.heap.size, q, none⟩ = false := hf1
        clear kp r4 LNf LOW
        go_wp2_with fail
        refine wp_region_ord (Below w.heap.size) (Below.refl _) (fun _ _ _ => Below.trans) [(0, false), (1, false), (2, false), (3, false), (5, false), (6, false), (7, false), (8, false), (9, false), (4, true), (10, false), (11, false), (12, true)] (by kernel_rfl) (by kernel_rfl) rfl (by kernel_rfl) (fun _ _ _ _ _ h => h) ?_
        repeat (refine ord_take _ rfl (by rfl) (fun W hW => by go_simp; first | done | rfl) ?_; simp only [Act.put, List.setIfInBounds_toArray, List.set_cons_zero, List.set_cons_succ])
        refine ord_sole rfl (by rfl) (fun K1 hK1 => ?_)
        unfold Oper.wp
        go_simp
        refine hK1 _ _ (Below.refl _ _) ?_
        clear hK1 K1
        try simp only [Act.put, List.setIfInBounds_toArray, List.set_cons_zero, List.set_cons_succ]
        repeat (refine ord_take _ rfl (by rfl) (fun W hW => by go_simp; first | done | rfl) ?_; try simp only [Act.put, List.setIfInBounds_toArray, List.set_cons_zero, List.set_cons_succ])
        refine ord_sole rfl (by rfl) (fun K1 hK1 => ?_)
        unfold Oper.wp
        go_simp
        refine hK1 _ _ ((Below.refl _ _).setCell (p := ⟨w.heap.size, q, none⟩) (Nat.le_refl _) _) ?_
        clear hK1 K1 hc1 hc2 hf1 hf2
        refine ord_end ?_
        have O5 := Lib.hid (HO2.out.set (Nat.le_refl _) q (l + z * 256)).drew
        generalize hw5 : (wr.setCell ⟨w.heap.size, q, none⟩ (.int .u32 (l + z * 256))).drew = w5 at *
        clear hw5
        go_wp2_with fail
        go_roundw
        case rel => exact ⟨i + 1, _, by go_num, by omega, O5.out, LN.out, by rw [List.length_set]; exact HN.out, by rw [HL.out]; exact SV.out⟩
        case measure => simp only [intOf]; exact meas_lt hiM
      · have kt : (i : Int).tmod 4 = 2 := by rw [Int.tmod_eq_emod_of_nonneg (by omega)]; omega
        have kp : (256 : Int) ^ 2 = 65536 := by decide
        rw [kp] at SV
        rw [kp] at LOW
        have wz : IntKind.u32.wrap (z * 65536) = z * 65536 := IntWalk.u32_in _ (by omega)
        have wl : bits .or .u32 l (z * 65536) = l + z * 65536 := or_low 16 lr.1 (by omega) lr.2 (by omega) (by omega) (by omega)
        have w8 : IntKind.i64.wrap 16 = 16 := by decide
        have LN := Lib.hid (LNf.out (l + z * 65536) (by omega) (by omega))
        have hc2 : wr.drew.cell? ⟨w.heap.size, q, none⟩ = some (.int .u32 l) := hc1
        have hf2 : wr.drew.frozen? ⟨w.heap.size, q, none⟩ = false := hf1
        clear kp r4 LNf LOW
        go_wp2_with fail
        refine wp_region_ord (Below w.heap.size) (Below.refl _) (fun _ _ _ => Below.trans) [(0, false), (1, false), (2, false), (3, false), (5, false), (6, false), (7, false), (8, false), (9, false), (4, true), (10, false), (11, false), (12, true)] (by kernel_rfl) (by kernel_rfl) rfl (by kernel_rfl) (fun _ _ _ _ _ h => h) ?_
        repeat (refine ord_take _ rfl (by rfl) (fun W hW => by go_simp; first | done | rfl) ?_; simp only [Act.put, List.setIfInBounds_toArray, List.set_cons_zero, List.set_cons_succ])
        refine ord_sole rfl (by rfl) (fun K1 hK1 => ?_)
        unfold Oper.wp
        go_simp
        refine hK1 _ _ (Below.refl _ _) ?_
        clear hK1 K1
        try simp only [Act.put, List.setIfInBounds_toArray, List.set_cons_zero, List.set_cons_succ]
        repeat (refine ord_take _ rfl (by rfl) (fun W hW => by go_simp; first | done | rfl) ?_; try simp only [Act.put, List.setIfInBounds_toArray, List.set_cons_zero, List.set_cons_succ])
        refine ord_sole rfl (by rfl) (fun K1 hK1 => ?_)
        unfold Oper.wp
        go_simp
        refine hK1 _ _ ((Below.refl _ _).setCell (p := ⟨w.heap.size, q, none⟩) (Nat.le_refl _) _) ?_
        clear hK1 K1 hc1 hc2 hf1 hf2
        refine ord_end ?_
        have O5 := Lib.hid (HO2.out.set (Nat.le_refl _) q (l + z * 65536)).drew
        generalize hw5 : (wr.setCell ⟨w.heap.size, q, none⟩ (.int .u32 (l + z * 65536))).drew = w5 at *
        clear hw5
        go_wp2_with fail
        go_roundw
        case rel => exact ⟨i + 1, _, by go_num, by omega, O5.out, LN.out, by rw [List.length_set]; exact HN.out, by rw [HL.out]; exact SV.out⟩
        case measure => simp only [intOf]; exact meas_lt hiM
      · have kt : (i : Int).tmod 4 = 3 := by rw [Int.tmod_eq_emod_of_nonneg (by omega)]; omega
        have kp : (256 : Int) ^ 3 = 16777216 := by decide
        rw [kp] at SV
        rw [kp] at LOW
        have wz : IntKind.u32.wrap (z * 16777216) = z * 16777216 := IntWalk.u32_in _ (by omega)
        have wl : bits .or .u32 l (z * 16777216) = l + z * 16777216 := or_low 24 lr.1 (by omega) lr.2 (by omega) (by omega) (by omega)
        have w8 : IntKind.i64.wrap 24 = 24 := by decide
        have LN := Lib.hid (LNf.out (l + z * 16777216) (by omega) (by omega))
        have hc2 : wr.drew.cell? ⟨w.heap.size, q, none⟩ = some (.int .u32 l) := hc1
        have hf2 : wr.drew.frozen? ⟨w.heap.size, q, none⟩ = false := hf1
        clear kp r4 LNf LOW
        go_wp2_with fail
        refine wp_region_ord (Below w.heap.size) (Below.refl _) (fun _ _ _ => Below.trans) [(0, false), (1, false), (2, false), (3, false), (5, false), (6, false), (7, false), (8, false), (9, false), (4, true), (10, false), (11, false), (12, true)] (by kernel_rfl) (by kernel_rfl) rfl (by kernel_rfl) (fun _ _ _ _ _ h => h) ?_
        repeat (refine ord_take _ rfl (by rfl) (fun W hW => by go_simp; first | done | rfl) ?_; simp only [Act.put, List.setIfInBounds_toArray, List.set_cons_zero, List.set_cons_succ])
        refine ord_sole rfl (by rfl) (fun K1 hK1 => ?_)
        unfold Oper.wp
        go_simp
        refine hK1 _ _ (Below.refl _ _) ?_
        clear hK1 K1
        try simp only [Act.put, List.setIfInBounds_toArray, List.set_cons_zero, List.set_cons_succ]
        repeat (refine ord_take _ rfl (by rfl) (fun W hW => by go_simp; first | done | rfl) ?_; try simp only [Act.put, List.setIfInBounds_toArray, List.set_cons_zero, List.set_cons_succ])
        refine ord_sole rfl (by rfl) (fun K1 hK1 => ?_)
        unfold Oper.wp
        go_simp
        refine hK1 _ _ ((Below.refl _ _).setCell (p := ⟨w.heap.size, q, none⟩) (Nat.le_refl _) _) ?_
        clear hK1 K1 hc1 hc2 hf1 hf2
        refine ord_end ?_
        have O5 := Lib.hid (HO2.out.set (Nat.le_refl _) q (l + z * 16777216)).drew
        generalize hw5 : (wr.setCell ⟨w.heap.size, q, none⟩ (.int .u32 (l + z * 16777216))).drew = w5 at *
        clear hw5
        go_wp2_with fail
        go_roundw
        case rel => exact ⟨i + 1, _, by go_num, by omega, O5.out, LN.out, by rw [List.length_set]; exact HN.out, by rw [HL.out]; exact SV.out⟩
        case measure => simp only [intOf]; exact meas_lt hiM
    · obtain rfl : i = n := by omega
      have t1 : decide ((i : Int) < (i : Int)) = false := decide_eq_false (by omega)
      have F : Hid (valZ L = beV zs) := Lib.hid (by rw [HV.out, HL.out, Nat.sub_self, List.drop_zero])
      have R3 := (HO2.out.normed HLL.out).1
      have N3 := Lib.hid (normalized_any (some ⟨w.heap.size, 0, none⟩) N N L wr R3 (Nat.le_refl _) (by omega) (fun e => by cases e))
      have G3 := Lib.hid R3.norm
      rw [F.out] at N3 G3
      clear R3 HV F
      go_wp2_with fail
      refine N3.out.mono ?_
      rintro e w5 ⟨rfl, rfl⟩
      go_wp2_with fail
      go_ret
      exact ⟨_, _, rfl, G3.out, (fun e => by cases e), Nat.le_refl _, HO2.out.2⟩

end Go.Proofs.YtdhablbfblkagaaDoor

namespace Go.Proofs.YtdhablbfblkagaaDoor
open Go.RowKit
set_option linter.unusedVariables false

theorem bitN_zero : bitN 0 = 0 := by rw [bitN]; rfl
theorem bitN_step {n : Nat} (h : n ≠ 0) : bitN n = bitN (n / 2) + 1 := by rw [bitN, dif_neg h]
theorem bitN_nonneg (n : Nat) : 0 ≤ bitN n := by
  induction n using Nat.strongRecOn with
  | ind n ih =>
    by_cases h : n = 0
    · rw [h, bitN_zero]; omega
    · rw [bitN_step h]
      have := ih (n / 2) (by omega)
      omega
theorem bitN_pos {n : Nat} (h : n ≠ 0) : 1 ≤ bitN n := by
  rw [bitN_step h]
  have := bitN_nonneg (n / 2)
  omega
theorem bitN_le : ∀ (k n : Nat), n < 2 ^ k → bitN n ≤ k
  | 0, n, h => by
    obtain rfl : n = 0 := by simpa using h
    rw [bitN_zero]; simp
  | k + 1, n, h => by
    by_cases h0 : n = 0
    · rw [h0, bitN_zero]; omega
    · rw [bitN_step h0]
      have := bitN_le k (n / 2) (by rw [Nat.pow_succ] at h; omega)
      omega
theorem bitN_ge : ∀ (k n : Nat), 2 ^ k ≤ n → (k : Int) + 1 ≤ bitN n
  | 0, n, h => by
    have := bitN_pos (n := n) (by simp at h; omega)
    simpa using this
  | k + 1, n, h => by
    rw [Nat.pow_succ] at h
    have p : 0 < 2 ^ k := Nat.pow_pos (by decide)
    rw [bitN_step (by omega)]
    have := bitN_ge k (n / 2) (by omega)
    omega
theorem bitN_lt (n : Nat) : n < 2 ^ (bitN n).toNat := by
  rcases Nat.lt_or_ge n (2 ^ (bitN n).toNat) with h | h
  · exact h
  · have := bitN_ge _ _ h
    have := bitN_nonneg n
    omega
theorem bitN_low {n : Nat} (h : n ≠ 0) : 2 ^ ((bitN n).toNat - 1) ≤ n := by
  rcases Nat.lt_or_ge n (2 ^ ((bitN n).toNat - 1)) with h1 | h1
  · have := bitN_le _ _ h1
    have := bitN_pos h
    omega
  · exact h1
theorem bitLen_is (n : Nat) : n < 2 ^ 64 → (Lib.bitLen n : Int) = bitN n := by
  induction n using Nat.strongRecOn with
  | ind n ih =>
    intro hn
    by_cases h : n = 0
    · subst h
      rw [bitN_zero]
      rfl
    · rw [Lib.bitLen_half n h hn, bitN_step h, ← ih (n / 2) (by omega) (by omega)]
      omega
/-- How many bits a product has. -/
theorem bitN_mul {x y : Nat} (hx : x ≠ 0) (hy : y ≠ 0) : bitN (x * y) = bitN x + bitN y ∨ bitN (x * y) = bitN x + bitN y - 1 := by
  have a1 := bitN_lt x
  have a2 := bitN_low hx
  have b1 := bitN_lt y
  have b2 := bitN_low hy
  have p1 := bitN_pos hx
  have p2 := bitN_pos hy
  obtain ⟨s, hs⟩ : ∃ s : Nat, bitN x = (s : Int) + 1 := ⟨(bitN x).toNat - 1, by omega⟩
  obtain ⟨t, ht⟩ : ∃ t : Nat, bitN y = (t : Int) + 1 := ⟨(bitN y).toNat - 1, by omega⟩
  rw [hs] at a1 a2 ⊢
  rw [ht] at b1 b2 ⊢
  rw [show ((s : Int) + 1).toNat = s + 1 by omega] at a1 a2
  rw [show ((t : Int) + 1).toNat = t + 1 by omega] at b1 b2
  rw [show s + 1 - 1 = s by omega] at a2
  rw [show t + 1 - 1 = t by omega] at b2
  have c1 : x * y < 2 ^ ((s + 1) + (t + 1)) := by
    rw [Nat.pow_add]
    exact Nat.mul_lt_mul'' a1 b1
  have c2 : 2 ^ (s + t) ≤ x * y := by
    rw [Nat.pow_add]
    exact Nat.mul_le_mul a2 b2
  have := bitN_le _ _ c1
  have := bitN_ge _ _ c2
  omega
/-- How many bits a sum has. -/
theorem bitN_add {x y : Nat} (hy : y ≠ 0) (h : bitN x ≤ bitN y) : bitN (x + y) = bitN y ∨ bitN (x + y) = bitN y + 1 := by
  have a1 := bitN_lt x
  have b1 := bitN_lt y
  have b2 := bitN_low hy
  have p2 := bitN_pos hy
  have p1 := bitN_nonneg x
  obtain ⟨t, ht⟩ : ∃ t : Nat, bitN y = (t : Int) + 1 := ⟨(bitN y).toNat - 1, by omega⟩
  have a3 : x < 2 ^ (t + 1) := Nat.lt_of_lt_of_le a1 (Nat.pow_le_pow_right (by decide) (by omega))
  rw [ht] at b1 b2 ⊢
  rw [show ((t : Int) + 1).toNat = t + 1 by omega] at b1 b2
  rw [show t + 1 - 1 = t by omega] at b2
  have := bitN_le (t + 2) (x + y) (by rw [Nat.pow_succ]; omega)
  have := bitN_ge t (x + y) (by omega)
  omega

theorem bitZ_mul {x y : Int} (hx : 0 < x) (hy : 0 < y) : bitZ (x * y) = bitZ x + bitZ y ∨ bitZ (x * y) = bitZ x + bitZ y - 1 := by
  obtain ⟨a, rfl⟩ := Int.eq_ofNat_of_zero_le (Int.le_of_lt hx)
  obtain ⟨b, rfl⟩ := Int.eq_ofNat_of_zero_le (Int.le_of_lt hy)
  have := bitN_mul (x := a) (y := b) (by omega) (by omega)
  exact this
theorem bitZ_add {x y : Int} (hx : 0 < x) (hy : 0 < y) : bitZ (x + y) = max (bitZ x) (bitZ y) ∨ bitZ (x + y) = max (bitZ x) (bitZ y) + 1 := by
  obtain ⟨a, rfl⟩ := Int.eq_ofNat_of_zero_le (Int.le_of_lt hx)
  obtain ⟨b, rfl⟩ := Int.eq_ofNat_of_zero_le (Int.le_of_lt hy)
  rcases Int.le_total (bitN a) (bitN b) with h | h
  · have := bitN_add (x := a) (y := b) (by omega) h
    show bitN (a + b) = max (bitN a) (bitN b) ∨ bitN (a + b) = max (bitN a) (bitN b) + 1
    rw [Int.max_eq_right h]
    exact this
  · have := bitN_add (x := b) (y := a) (by omega) h
    show bitN (a + b) = max (bitN a) (bitN b) ∨ bitN (a + b) = max (bitN a) (bitN b) + 1
    rw [Int.max_eq_left h, Nat.add_comm]
    exact this
theorem bitZ_nonneg (x : Int) : 0 ≤ bitZ x := bitN_nonneg _
theorem bitZ_eq_zero {x : Int} (hx : 0 ≤ x) : bitZ x = 0 ↔ x = 0 := by
  constructor
  · intro h
    by_cases h0 : x.toNat = 0
    · omega
    · have := bitN_pos h0
      unfold bitZ at h
      omega
  · rintro rfl
    exact bitZ_zero
theorem bitZ_len {x : Int} (h0 : 0 ≤ x) (h1 : x ≤ 4294967295) : ((Lib.bitLen x.toNat : Nat) : Int) = bitZ x := bitLen_is _ (by omega)
theorem bitZ_bound {l : List Int} (hl : Limbs l) : bitZ (valZ l) ≤ 32 * (l.length : Int) := by
  have h := valZ_lt hl
  have h0 := valZ_nonneg hl
  rw [pow32] at h
  have := bitN_le (32 * l.length) (valZ l).toNat (by
    have e : ((2 ^ (32 * l.length) : Nat) : Int) = (2 : Int) ^ (32 * l.length) := by exact_mod_cast rfl
    omega)
  unfold bitZ
  omega

/-- The limbs of a number, the highest of them. -/
theorem limZ_nil {n : Int} (h0 : 0 ≤ n) (h : (limZ n).length = 0) : n = 0 := by
  have := limZ_val h0
  rw [List.eq_nil_of_length_eq_zero h] at this
  exact this.symm
theorem limZ_last {n : Int} {k : Nat} (h : (limZ n).length = k + 1) : (limZ n)[k]?.getD 0 ≠ 0 := by
  refine limZ_normal n _ ?_
  rw [List.getLast?_eq_getElem?, h, show k + 1 - 1 = k by omega, List.getElem?_eq_getElem (by omega)]
  rfl
theorem bitZ_top {n : Int} {k : Nat} (h0 : 0 ≤ n) (h : (limZ n).length = k + 1) : bitZ n = 32 * (k : Int) + bitZ ((limZ n)[k]?.getD 0) := by
  have := bitZ_limbs (limZ_limbs n) h (limZ_last h)
  rwa [limZ_val h0] at this

/-- How many bytes a number has, and which. -/
theorem byN_step {n : Nat} (h : n ≠ 0) : byN n = byN (n / 256) ++ [((n % 256 : Nat) : Int)] := by rw [byN, dif_neg h]
theorem byN_zero : byN 0 = [] := by rw [byN]; rfl
theorem byN_len (n : Nat) : ((byN n).length : Int) = (bitN n + 7) / 8 := by
  induction n using Nat.strongRecOn with
  | ind n ih =>
    by_cases h : n = 0
    · subst h
      rw [byN_zero, bitN_zero]
      rfl
    · rw [byN_step h, List.length_append, List.length_singleton]
      have e := ih (n / 256) (by omega)
      by_cases h2 : n / 256 = 0
      · rw [h2, byN_zero]
        have := bitN_pos h
        have := bitN_le 8 n (by omega)
        simp
        omega
      · have hb : bitN n = bitN (n / 256) + 8 := by
          have := bitZ_up 8 (x := ((n / 256 : Nat) : Int)) (y := ((n % 256 : Nat) : Int)) (by omega) (by omega) (by omega)
          rw [show ((n % 256 : Nat) : Int) + 2 ^ 8 * ((n / 256 : Nat) : Int) = (n : Int) by omega] at this
          exact this
        rw [hb]
        omega
theorem byN_at (n : Nat) : ∀ i, i < (byN n).length → (byN n)[(byN n).length - 1 - i]?.getD 0 = ((n / 256 ^ i % 256 : Nat) : Int) := by
  induction n using Nat.strongRecOn with
  | ind n ih =>
    intro i hi
    by_cases h : n = 0
    · subst h
      rw [byN_zero] at hi
      simp at hi
    · rw [byN_step h] at hi ⊢
      rw [List.length_append, List.length_singleton] at hi ⊢
      cases i with
      | zero =>
        rw [List.getElem?_append_right (by omega), show (byN (n / 256)).length + 1 - 1 - 0 - (byN (n / 256)).length = 0 by omega]
        simp
      | succ i =>
        rw [show (byN (n / 256)).length + 1 - 1 - (i + 1) = (byN (n / 256)).length - 1 - i by omega, List.getElem?_append_left (by omega), ih (n / 256) (by omega) i (by omega), Nat.pow_succ, Nat.mul_comm (256 ^ i) 256, Nat.div_div_eq_div_mul]
theorem byZ_len (v : Int) : ((byZ v).length : Int) = (bitZ v + 7) / 8 := byN_len _
theorem byZ_at {v : Int} (hv : 0 ≤ v) {i : Nat} (hi : i < (byZ v).length) : (byZ v)[(byZ v).length - 1 - i]?.getD 0 = v / 256 ^ i % 256 := by
  obtain ⟨n, rfl⟩ := Int.eq_ofNat_of_zero_le hv
  have := byN_at n i hi
  show (byN n)[(byN n).length - 1 - i]?.getD 0 = _
  rw [this]
  simp
/-- A byte of a number, out of its limb. -/
theorem byte_limb {l : List Int} (hl : Limbs l) (q r : Nat) (hr : r < 4) : valZ l / 256 ^ (4 * q + r) % 256 = l[q]?.getD 0 / 256 ^ r % 256 := by
  have e := valZ_parts l q
  rw [valZ_drop l q] at e
  have t := take_lt hl q
  have p := pow_pos32 q
  rw [pow256, ← Int.ediv_ediv_of_nonneg (by omega)]
  have h1 : valZ l / 4294967296 ^ q = l[q]?.getD 0 + 4294967296 * valZ (l.drop (q + 1)) := by
    rw [e, Int.add_mul_ediv_left _ _ (by omega), Int.ediv_eq_zero_of_lt t.1 t.2, Int.zero_add]
  rw [h1]
  generalize valZ (l.drop (q + 1)) = R
  generalize l[q]?.getD 0 = x
  obtain rfl | rfl | rfl | rfl : r = 0 ∨ r = 1 ∨ r = 2 ∨ r = 3 := by omega
  all_goals simp only [Int.reducePow]
  all_goals omega
/-- The number of a number's bytes. -/
theorem beV_byN (n : Nat) : beV (byN n) = (n : Int) := by
  induction n using Nat.strongRecOn with
  | ind n ih =>
    by_cases h : n = 0
    · subst h
      rw [byN_zero]
      rfl
    · rw [byN_step h, beV_snoc, ih (n / 256) (by omega)]
      omega
theorem beV_byZ {v : Int} (hv : 0 ≤ v) : beV (byZ v) = v := by
  unfold byZ
  rw [beV_byN]
  omega
theorem byN_head {n : Nat} (h : n ≠ 0) : (byN n)[0]?.getD 0 ≠ 0 := by
  induction n using Nat.strongRecOn with
  | ind n ih =>
    rw [byN_step h]
    by_cases h2 : n / 256 = 0
    · rw [h2, byN_zero]
      simp
      omega
    · have hne : byN (n / 256) ≠ [] := fun e => h2 ((byN_nil _).1 e)
      have hl := List.length_pos_iff.2 hne
      rw [List.getElem?_append_left hl]
      exact ih (n / 256) (by omega) h2
theorem byZ_head {v : Int} (h : (byZ v).length ≠ 0) : (byZ v)[0]?.getD 0 ≠ 0 := by
  refine byN_head (fun e => h ?_)
  unfold byZ
  rw [e, byN_zero]
  rfl
/-- What stands before a number's own bytes is nothing but noughts. -/
theorem byZ_strip (zs : List Int) (hz : ∀ x ∈ zs, 0 ≤ x ∧ x ≤ 255) : ∃ d, zs = List.replicate d 0 ++ byZ (beV zs) := by
  have key : ∀ (m : Nat) (zs : List Int), zs.length = m → (∀ x ∈ zs, 0 ≤ x ∧ x ≤ 255) → ∃ d, zs = List.replicate d 0 ++ byZ (beV zs) := by
    intro m
    induction m with
    | zero =>
      intro zs hl _
      obtain rfl := List.eq_nil_of_length_eq_zero hl
      exact ⟨0, by simp [beV, byZ, byN_zero]⟩
    | succ m ih =>
      intro zs hl hz
      have hne : zs ≠ [] := by intro e; rw [e] at hl; simp at hl
      obtain ⟨ys, c, rfl⟩ : ∃ ys c, zs = ys ++ [c] := ⟨zs.dropLast, zs.getLast hne, (List.dropLast_concat_getLast hne).symm⟩
      have hys : ∀ x ∈ ys, 0 ≤ x ∧ x ≤ 255 := fun x hx => hz x (by simp [hx])
      have hc := hz c (by simp)
      obtain ⟨d, hd⟩ := ih ys (by simpa using hl) hys
      rw [beV_snoc, byZ_step (beV_nonneg hys) hc.1 hc.2]
      by_cases h : 0 < (byZ (beV ys)).length ∨ 0 < c
      · rw [if_pos h]
        refine ⟨d, ?_⟩
        rw [← List.append_assoc, ← hd]
      · rw [if_neg h]
        have h1 : byZ (beV ys) = [] := List.eq_nil_of_length_eq_zero (by omega)
        have h2 : c = 0 := by omega
        rw [h1, List.append_nil] at hd
        refine ⟨d + 1, ?_⟩
        rw [h1, h2, List.append_nil, hd, List.replicate_succ']
  exact key _ zs rfl hz

end Go.Proofs.YtdhablbfblkagaaDoor

namespace Go.Proofs
open Go.Shelf
def Tryd.lays128_ren : Go.Shelf.Ren := ⟨fun | 128 => 62 | n => n, fun | 51 => 23 | 3 => 3 | 4 => 4 | 46 => 72 | 5 => 5 | 9 => 9 | n => n, fun | n => n⟩
theorem Tryd.lays128 : Go.Proofs.Lays.n128 Tryd.prog Tryd.lays128_ren := {
  mixed := by kernel_rfl
  f128 := Tryd.func62.trans (congrArg some (by kernel_rfl))
  t3 := Tryd.underlying3
  a3 := Tryd.isAgg3
  z3 := Tryd.sizeOf3
  v3 := Tryd.zeroValue3
  t4 := Tryd.underlying4
  a4 := Tryd.isAgg4
  z4 := Tryd.sizeOf4
  v4 := Tryd.zeroValue4
  t5 := Tryd.underlying5
  a5 := Tryd.isAgg5
  z5 := Tryd.sizeOf5
  v5 := Tryd.zeroValue5
  t9 := Tryd.underlying9
  a9 := Tryd.isAgg9
  z9 := Tryd.sizeOf9
  v9 := Tryd.zeroValue9
  t46 := Tryd.underlying72
  a46 := Tryd.isAgg72
  z46 := Tryd.sizeOf72
  v46 := Tryd.zeroValue72
  t51 := Tryd.underlying23
  a51 := Tryd.isAgg23
  z51 := Tryd.sizeOf23
  v51 := Tryd.zeroValue23 }
theorem Tryd.bits_Len32 (x : Int) (w : World) (h0 : 0 ≤ x) (h1 : x ≤ 4294967295) :
    Calls Tryd.prog 62 #[.int .u32 x] w fun e w' => e = .returned (.int .i64 (Lib.bitLen x.toNat)) ∧ w' = w := Any.bits_Len32 Tryd.lays128 x w h0 h1
end Go.Proofs
