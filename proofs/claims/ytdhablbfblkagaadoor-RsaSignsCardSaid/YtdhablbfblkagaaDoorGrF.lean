/-
  Merged texts: LnK, LnL, LnM, LnN, MdA, Shelf8, MdB, MdE.
-/
import Derived.Test.YtdhablbfblkagaaDoorGrE
import Derived.Test.YtdhablbfblkagaaDoorGrA
import Derived.Laws.BitsLemmas
import Derived.Shelf.Small.Bits
import Derived.Test.YtdhablbfblkagaaDoorProg
namespace Go.Proofs.YtdhablbfblkagaaDoor
open Go.RowKit
set_option linter.unusedVariables false

set_option maxHeartbeats 500000 in
theorem len_any (a : Option Addr) (n ca : Nat) (zs : List Int) (w : World) (hr : Row32 w a n zs) (hca : n ≤ ca) (hn : n ≤ 1000000) (hnil : a = none → ca = 0) :
    Calls Tryd.prog 44 #[.slice a n ca] w fun e w' => e = .returned (.int .i64 (bitZ (valZ zs))) ∧ w' = w := by
  have NN := Lib.hid (normalized_any a n ca zs w hr hca hn hnil)
  have HN := Lib.hid hr.norm
  have V0 := valZ_nonneg (row32_limbs hr)
  have ln : (limZ (valZ zs)).length ≤ n := by have := (norm_take (row32_limbs hr)).1; have := hr.1; omega
  have LN := Lib.hid (limZ_limbs (valZ zs))
  clear hr hnil
  generalize valZ zs = v at *
  go_enter Tryd.func44, Tryd.ntmps44
  go_wp2_with fail
  refine NN.out.mono ?_
  rintro e w2 ⟨rfl, rfl⟩
  by_cases h0 : (limZ v).length = 0
  · have e := limZ_nil V0 h0
    have E : bitZ v = 0 := by rw [e]; exact bitZ_zero
    rw [h0]
    clear NN HN
    go_wp2_with fail
    go_ret
    exact ⟨by rw [E]; rfl, rfl⟩
  · obtain ⟨k, hk⟩ : ∃ k, (limZ v).length = k + 1 := ⟨(limZ v).length - 1, by omega⟩
    have B := bitZ_top V0 hk
    rw [hk] at HN ⊢
    obtain ⟨b, off, rfl, hb, hc⟩ := HN.out.2.2 (by omega)
    have c0 := hc k (by omega)
    have xr := LN.out.at k
    generalize (limZ v)[k]?.getD 0 = x at *
    have L32 := Lib.hid (Tryd.bits_Len32 x w2 xr.1 xr.2)
    rw [bitZ_len xr.1 xr.2] at L32
    have xb : bitZ x ≤ 32 := by
      have := bitN_le 32 x.toNat (by omega)
      exact this
    have x0 := bitZ_nonneg x
    have t0 : (((k + 1 : Nat) : Int) == 0) = false := by simp; omega
    have w1 : IntKind.i64.wrap (((k + 1 : Nat) : Int) - 1) = (k : Int) := by rw [show ((k + 1 : Nat) : Int) - 1 = (k : Int) by omega]; exact IntWalk.i64_in _ (by omega)
    have w1' : IntKind.i64.wrap ((k : Int) + 1 - 1) = (k : Int) := by rw [show (k : Int) + 1 - 1 = (k : Int) by omega]; exact IntWalk.i64_in _ (by omega)
    have w1'' : IntKind.i64.wrap (k : Int) = (k : Int) := IntWalk.i64_in _ (by omega)
    have w2' : IntKind.i64.wrap (32 * (k : Int)) = 32 * (k : Int) := IntWalk.i64_in _ (by omega)
    have w3 : IntKind.i64.wrap (32 * (k : Int) + bitZ x) = 32 * (k : Int) + bitZ x := IntWalk.i64_in _ (by omega)
    have kI : (k : Int) < ((k + 1 : Nat) : Int) := by omega
    have kI' : (k : Int) < (k : Int) + 1 := by omega
    have kN : (0 : Int) ≤ (k : Int) := by omega
    have BB := Lib.hid B
    clear NN HN hc hk B ln h0
    generalize bitZ x = y at *
    go_wp2_with fail
    refine L32.out.mono ?_
    rintro e w3 ⟨rfl, rfl⟩
    go_wp2_with fail
    go_ret
    exact ⟨by rw [BB.out]; rfl, rfl⟩

set_option maxHeartbeats 500000 in
theorem rlen_any (a : Option Addr) (n ca : Nat) (zs : List Int) (w : World) (hr : Row32 w a n zs) (hca : n ≤ ca) (hn : n ≤ 100000) (hnil : a = none → ca = 0) :
    Calls Tryd.prog 49 #[.slice a n ca] w fun e w' => e = .returned (.int .i64 (bitZ (valZ zs))) ∧ Below w.heap.size w w' := by
  have NN := Lib.hid (rbare_any a n ca zs w hr hca hn hnil)
  have V0 := valZ_nonneg (row32_limbs hr)
  have ln : (limZ (valZ zs)).length ≤ n := by have := (norm_take (row32_limbs hr)).1; have := hr.1; omega
  have LN := Lib.hid (limZ_limbs (valZ zs))
  clear hr hnil
  generalize valZ zs = v at *
  go_enter Tryd.func49, Tryd.ntmps49
  go_wp2_with fail
  refine NN.out.mono ?_
  rintro e w2 ⟨a', c, rfl, hrow, hnil, hle, hbel⟩
  have HR := Lib.hid hrow
  have HB := Lib.hid hbel
  clear hrow hnil hbel NN
  by_cases h0 : (limZ v).length = 0
  · have e := limZ_nil V0 h0
    have E : bitZ v = 0 := by rw [e]; exact bitZ_zero
    rw [h0]
    go_wp2_with fail
    go_ret
    exact ⟨by rw [E]; rfl, HB.out⟩
  · obtain ⟨k, hk⟩ : ∃ k, (limZ v).length = k + 1 := ⟨(limZ v).length - 1, by omega⟩
    have B := bitZ_top V0 hk
    rw [hk] at HR ⊢
    obtain ⟨b, off, rfl, hb, hc⟩ := HR.out.2.2 (by omega)
    have c0 := hc k (by omega)
    have xr := LN.out.at k
    generalize (limZ v)[k]?.getD 0 = x at *
    have t0 : (((k + 1 : Nat) : Int) == 0) = false := by simp; omega
    have w1 : IntKind.i64.wrap (((k + 1 : Nat) : Int) - 1) = (k : Int) := by rw [show ((k + 1 : Nat) : Int) - 1 = (k : Int) by omega]; exact IntWalk.i64_in _ (by omega)
    have w1' : IntKind.i64.wrap ((k : Int) + 1 - 1) = (k : Int) := by rw [show (k : Int) + 1 - 1 = (k : Int) by omega]; exact IntWalk.i64_in _ (by omega)
    have w1'' : IntKind.i64.wrap (k : Int) = (k : Int) := IntWalk.i64_in _ (by omega)
    have w2' : IntKind.i64.wrap (32 * ((k + 1 : Nat) : Int)) = 32 * (k : Int) + 32 := by rw [show 32 * ((k + 1 : Nat) : Int) = 32 * (k : Int) + 32 by omega]; exact IntWalk.i64_in _ (by omega)
    have w2'' : IntKind.i64.wrap (32 * ((k : Int) + 1)) = 32 * (k : Int) + 32 := by rw [show 32 * ((k : Int) + 1) = 32 * (k : Int) + 32 by omega]; exact IntWalk.i64_in _ (by omega)
    have w3 : IntKind.i64.wrap (32 * (k : Int) + 32 - 32) = 32 * (k : Int) := by rw [show 32 * (k : Int) + 32 - 32 = 32 * (k : Int) by omega]; exact IntWalk.i64_in _ (by omega)
    have w3' : IntKind.i64.wrap (32 * (k : Int)) = 32 * (k : Int) := IntWalk.i64_in _ (by omega)
    have kI : (k : Int) < ((k + 1 : Nat) : Int) := by omega
    have kI' : (k : Int) < (k : Int) + 1 := by omega
    have kN : (0 : Int) ≤ (k : Int) := by omega
    have BB := Lib.hid B
    have kb : k ≤ 100000 := by omega
    clear HR hc hk B ln h0
    go_wp2_with fail
    go_loop [4, 5] (fun kV xV => ∃ y z : Int, kV = .int .i64 y ∧ xV = .int .u32 z ∧ 0 ≤ z ∧ z ≤ 4294967295 ∧ 0 ≤ y ∧ y ≤ 32 * (k : Int) + 32 ∧ y + bitZ z = bitZ v) (fun _ xV => (intOf xV).toNat)
    case atStart => exact ⟨_, _, rfl, rfl, xr.1, xr.2, by omega, by omega, BB.out.symm⟩
    case round =>
      obtain ⟨y, z, rfl, rfl, z0, z1, y0, y1, hv⟩ := hrel
      have HV := Lib.hid hv
      clear hv
      by_cases hz : z = 0
      · subst hz
        have t1 : decide ((0 : Int) < 0) = false := by decide
        have E := HV.out
        rw [bitZ_zero, Int.add_zero] at E
        go_wp2_with fail
        go_ret
        exact ⟨rfl, HB.out⟩
      · have t1 : decide (0 < z) = true := decide_eq_true (by omega)
        have E := HV.out
        rw [bitZ_step (show 0 < z by omega)] at E
        have yb := bitZ_nonneg (z / 2)
        have vb : bitZ v ≤ 32 * (k : Int) + 32 := by
          have := bitN_le 32 x.toNat (by omega)
          have hB := BB.out
          unfold bitZ at hB ⊢
          omega
        have w4 : IntKind.i64.wrap (y + 1) = y + 1 := IntWalk.i64_in _ (by omega)
        have w5 : IntKind.u32.wrap (z / 2) = z / 2 := IntWalk.u32_in _ (by omega)
        have w5' : z.tdiv 2 = z / 2 := Int.tdiv_eq_ediv_of_nonneg (by omega)
        have HE : Hid (y + 1 + bitZ (z / 2) = bitZ v) := Lib.hid (by omega)
        have yb2 : y + 1 ≤ 32 * (k : Int) + 32 := by omega
        clear E vb yb HV
        go_wp2_with fail
        go_round
        case rel => exact ⟨_, _, rfl, rfl, by omega, by omega, by omega, yb2, HE.out⟩
        case measure => simp only [intOf]; omega

end Go.Proofs.YtdhablbfblkagaaDoor

namespace Go.Proofs.YtdhablbfblkagaaDoor
open Go.RowKit
set_option linter.unusedVariables false

theorem byN_le (n : Nat) {k : Nat} (h : n < 256 ^ k) : (byN n).length ≤ k := by
  have e := byN_len n
  have := bitN_le (8 * k) n (by rw [Nat.pow_mul]; exact h)
  omega
theorem byZ_le {v : Int} (hv : 0 ≤ v) {k : Nat} (h : v < 4294967296 ^ k) : (byZ v).length ≤ 4 * k := by
  refine byN_le _ ?_
  rw [Nat.pow_mul]
  have e : ((4294967296 ^ k : Nat) : Int) = (4294967296 : Int) ^ k := Int.natCast_pow _ _
  show v.toNat < 4294967296 ^ k
  omega
theorem byN_mono {a b : Nat} (h : a ≤ b) : (byN a).length ≤ (byN b).length := by
  have e := byN_len a
  have e2 := byN_len b
  have : bitN a ≤ bitN b := by
    have h1 := bitN_lt b
    have h2 := bitN_nonneg b
    have := bitN_le (bitN b).toNat a (by omega)
    omega
  omega
theorem limb_drop {zs : List Int} (h : Limbs zs) (k : Nat) : valZ (zs.drop k) < 4294967296 ^ (zs.length - k) := by
  have := valZ_lt (h.drop k)
  rwa [List.length_drop] at this
/-- The bytes of a number are given back, in new memory. -/
def GivesB (v : Int) (w : World) (e : Ending) (w' : World) : Prop := ∃ V, e = .returned V ∧ Out w w' V (byZ v)

theorem part_len {D x : Int} {k n : Nat} (D0 : 0 ≤ D) (hD : D < 4294967296 ^ n) (x0 : 0 ≤ x) (x1 : x ≤ 4294967295) (hk : k ≤ 4) : (byZ (D * 256 ^ (4 - k) + x / 256 ^ k)).length ≤ 4 * n + 4 := by
  have h1 : 0 ≤ D * 256 ^ (4 - k) + x / 256 ^ k ∧ D * 256 ^ (4 - k) + x / 256 ^ k < 4294967296 ^ (n + 1) := by
    rw [Int.pow_succ]
    generalize (4294967296 : Int) ^ n = P at *
    obtain rfl | rfl | rfl | rfl | rfl : k = 0 ∨ k = 1 ∨ k = 2 ∨ k = 3 ∨ k = 4 := by omega
    all_goals simp only [Nat.reduceSub, Nat.sub_zero, Int.reducePow]
    all_goals omega
  have := byZ_le h1.1 h1.2
  omega

set_option maxHeartbeats 1000000 in
set_option maxRecDepth 10000 in
theorem rto_any (a : Option Addr) (n ca : Nat) (xs : List Int) (w : World) (hr : Row32 w a n xs) (hn : n ≤ 100000) : Calls Tryd.prog 33 #[.slice a n ca] w (GivesB (valZ xs) w) := by
  have HR := Lib.hid hr
  have LX := Lib.hid (row32_limbs hr)
  have ln := hr.1
  clear hr
  have w0 : IntKind.i64.wrap ((n : Int) - 1) = (n : Int) - 1 := IntWalk.i64_in _ (by omega)
  go_enter Tryd.func33, Tryd.ntmps33
  go_wp2_with fail
  go_loopw [3, 4] (fun V iV wr => ∃ j : Nat, j ≤ n ∧ iV = .int .i64 ((j : Int) - 1) ∧ Out w wr V (byZ (valZ (xs.drop j)))) (fun _ iV _ => (intOf iV + 1).toNat)
  case atStart => exact ⟨n, Nat.le_refl _, rfl, by rw [List.drop_of_length_le (by omega)]; show Out w w _ (byN 0); rw [byN_zero]; exact out_nil w⟩
  case round =>
    obtain ⟨j, hj, rfl, ho⟩ := hrel
    have HO := Lib.hid ho
    clear ho w0
    rcases Nat.eq_zero_or_pos j with h0 | h0
    · subst h0
      rw [show ((0 : Nat) : Int) - 1 = -1 by rfl]
      have t0 : decide ((0 : Int) ≤ -1) = false := by decide
      have O := HO.out
      rw [List.drop_zero] at O
      have HO2 := Lib.hid O
      clear O HO
      go_wp2_with fail
      go_ret
      exact ⟨_, rfl, HO2.out⟩
    · obtain ⟨i, rfl⟩ : ∃ i, j = i + 1 := ⟨j - 1, by omega⟩
      rw [show ((i + 1 : Nat) : Int) - 1 = (i : Int) by omega]
      have t0 : decide ((0 : Int) ≤ (i : Int)) = true := decide_eq_true (by omega)
      obtain ⟨b, off, rfl, hb, hc⟩ := HR.out.2.2 (by omega)
      have cw : w.cell? ⟨b, off + i, none⟩ = some (.int .u32 (xs[i]?.getD 0)) := hc i (by omega)
      have DD := limb_drop LX.out (i + 1)
      have D0 := valZ_nonneg (LX.out.drop (i + 1))
      have E := valZ_drop xs i
      have xr := LX.out.at i
      generalize xs[i]?.getD 0 = x at *
      generalize valZ (xs.drop (i + 1)) = D at *
      have HD := Lib.hid (fun (k : Nat) (hk : k ≤ 4) => part_len (k := k) D0 DD xr.1 xr.2 hk)
      have EE := Lib.hid E
      have D0h := Lib.hid D0
      clear hc E DD
      have iI : (i : Int) < (n : Int) := by omega
      have w1 : IntKind.i64.wrap ((i : Int) - 1) = (i : Int) - 1 := IntWalk.i64_in _ (by omega)
      go_wp2_with fail
      go_loopw [3, 5] (fun V kV wr => ∃ k : Nat, k ≤ 4 ∧ kV = .int .i64 ((k : Int) - 1) ∧ Out w wr V (byZ (D * 256 ^ (4 - k) + x / 256 ^ k))) (fun _ kV _ => (intOf kV + 1).toNat)
      case atStart => exact ⟨4, Nat.le_refl _, rfl, by rw [show D * 256 ^ (4 - 4) + x / 256 ^ 4 = D by simp only [Nat.sub_self, Int.reducePow]; omega]; exact HO.out⟩
      case round =>
        obtain ⟨k, hk, rfl, ho⟩ := hrel
        have HO1 := Lib.hid ho
        clear ho HO
        rcases Nat.eq_zero_or_pos k with h0 | h0
        · subst h0
          rw [show ((0 : Nat) : Int) - 1 = -1 by rfl]
          have t1 : decide ((0 : Int) ≤ -1) = false := by decide
          have O := HO1.out
          rw [show D * 256 ^ (4 - 0) + x / 256 ^ 0 = valZ (xs.drop i) by rw [EE.out]; simp only [Nat.sub_zero, Int.reducePow]; omega] at O
          have HO2 := Lib.hid O
          clear O HO1
          go_wp2_with fail
          go_roundw
          case rel => exact ⟨i, by omega, rfl, HO2.out⟩
          case measure => simp only [intOf]; omega
        · obtain ⟨h, rfl⟩ : ∃ h, k = h + 1 := ⟨k - 1, by omega⟩
          rw [show ((h + 1 : Nat) : Int) - 1 = (h : Int) by omega]
          have t1 : decide ((0 : Int) ≤ (h : Int)) = true := decide_eq_true (by omega)
          have cc : wr.cell? ⟨b, off + i, none⟩ = some (.int .u32 x) := (HO1.out.2.cell (p := ⟨b, off + i, none⟩) hb).trans cw
          have hN : (0 : Int) ≤ (h : Int) := by omega
          have w8 : IntKind.i64.wrap (8 * (h : Int)) = 8 * (h : Int) := IntWalk.i64_in _ (by omega)
          have s0 : (0 : Int) ≤ 8 * (h : Int) := by omega
          have s1 : 8 * (h : Int) ≤ 32 := by omega
          have w9 : IntKind.i64.wrap ((h : Int) - 1) = (h : Int) - 1 := IntWalk.i64_in _ (by omega)
          have hp : (2 : Int) ^ (8 * (h : Int)).toNat = 256 ^ h := by
            rw [show (8 * (h : Int)).toNat = 8 * h by omega, Int.pow_mul]
            rfl
          have hp2 : (2 : Int) ^ (8 * h) = 256 ^ h := by
            rw [Int.pow_mul]
            rfl
          have V0 : 0 ≤ D * 256 ^ (4 - (h + 1)) + x / 256 ^ (h + 1) := by
            have p1 : (0 : Int) ≤ 256 ^ (4 - (h + 1)) := Int.le_of_lt (Int.pow_pos (by decide))
            have p2 : (0 : Int) < 256 ^ (h + 1) := Int.pow_pos (by decide)
            have := Int.mul_nonneg D0h.out p1
            have := Int.ediv_nonneg xr.1 (Int.le_of_lt p2)
            omega
          obtain ⟨c, hc⟩ : ∃ c, x / 256 ^ h % 256 = c := ⟨_, rfl⟩
          have BS := byZ_step (c := c) V0 (by omega) (by omega)
          have TS := to_step (D := D) (x := x) (k := h) (by omega)
          rw [hc, show 3 - h = 4 - (h + 1) by omega] at TS
          rw [TS] at BS
          have wc : IntKind.u8.wrap (x / 256 ^ h) = c := hc
          have c0 : 0 ≤ c := by omega
          have c1 : c ≤ 255 := by omega
          have LE := HD.out (h + 1) (by omega)
          generalize hL : byZ (D * 256 ^ (4 - (h + 1)) + x / 256 ^ (h + 1)) = L at *
          have HBS := Lib.hid BS
          clear BS TS hc V0 hL
          obtain ⟨av, cv, rfl⟩ := HO1.out.shape
          have O3 := Lib.hid (HO1.out.alloc (.cells #[.int .u8 c] 5))
          obtain ⟨a1, ca1, e1, r1'⟩ := (out_one wr c).row (by intro q hq; simp at hq; omega)
          injection e1 with e1 e2 e3
          subst e1 e3
          have R1 := Lib.hid r1'
          clear r1' e2
          have LN : Hid (L.length + [c].length ≤ 1000000) := Lib.hid (by simp; omega)
          by_cases hl : 0 < L.length
          · have t2 : decide ((0 : Int) < (L.length : Int)) = true := decide_eq_true (by omega)
            have B := HBS.out
            rw [if_pos (.inl hl)] at B
            have HB := Lib.hid B
            clear B HBS
            go_wp2_with (at_builtin; go_must (refine out_append (W0 := w) (L := L) (zs := [c]) rfl _ _ rfl rfl O3.out rfl R1.out (fun e => by cases e) LN.out ?_; intro V4 w4 ho4; rw [← HB.out] at ho4; have O4 := Lib.hid ho4; clear ho4))
            go_roundw
            case rel => exact ⟨h, by omega, rfl, O4.out⟩
            case measure => simp only [intOf]; omega
          · have t2 : decide ((0 : Int) < (L.length : Int)) = false := decide_eq_false (by omega)
            by_cases hcz : 0 < c
            · have t3 : decide (0 < c) = true := decide_eq_true hcz
              have B := HBS.out
              rw [if_pos (.inr hcz)] at B
              have HB := Lib.hid B
              clear B HBS
              go_wp2_with (at_builtin; go_must (refine out_append (W0 := w) (L := L) (zs := [c]) rfl _ _ rfl rfl O3.out rfl R1.out (fun e => by cases e) LN.out ?_; intro V4 w4 ho4; rw [← HB.out] at ho4; have O4 := Lib.hid ho4; clear ho4))
              go_roundw
              case rel => exact ⟨h, by omega, rfl, O4.out⟩
              case measure => simp only [intOf]; omega
            · have t3 : decide (0 < c) = false := decide_eq_false hcz
              have B := HBS.out
              rw [if_neg (by omega)] at B
              have HB := Lib.hid B
              clear B HBS O3 R1
              go_wp2_with fail
              go_roundw
              case rel => exact ⟨h, by omega, rfl, by rw [HB.out]; exact HO1.out⟩
              case measure => simp only [intOf]; omega

end Go.Proofs.YtdhablbfblkagaaDoor

namespace Go.Proofs.YtdhablbfblkagaaDoor
open Go.RowKit
set_option linter.unusedVariables false

theorem out_full {w w1 : World} {m : Nat} (h : w1.ownsRow w.heap.size 5 1 (.slice (some ⟨w.heap.size, 0, none⟩) m m) m (madeCells #[Value.int .u8 0] m).toList) (hg : w.grownBy w1 none) : Out w w1 (.slice (some ⟨w.heap.size, 0, none⟩) m m) (List.replicate m 0) := by
  refine ⟨?_, (Below.refl _ _).grown hg (Nat.le_refl _) (fun k h => by cases h)⟩
  rw [toList_madeCells_one] at h
  rw [List.length_replicate, List.map_replicate]
  exact h
theorem fill_step {L T : List Int} {K i : Nat} {y : Int} (hL : L.length = K) (hi : i < K) (h : ∀ j, K - i ≤ j → L[j]?.getD 0 = T[j]?.getD 0) (hy : y = T[K - 1 - i]?.getD 0) : ∀ j, K - (i + 1) ≤ j → (L.set (K - 1 - i) y)[j]?.getD 0 = T[j]?.getD 0 := by
  intro j hj
  rcases Nat.eq_or_lt_of_le hj with e | e
  · rw [← e, show K - (i + 1) = K - 1 - i by omega, List.getElem?_set_self (by omega), ← hy]
    rfl
  · rw [List.getElem?_set_ne (by omega)]
    exact h j (by omega)
theorem fill_end {L T : List Int} {K : Nat} (hL : L.length = K) (hT : T.length = K) (h : ∀ j, K - K ≤ j → L[j]?.getD 0 = T[j]?.getD 0) : L = T := by
  apply List.ext_getElem?
  intro j
  have := h j (by omega)
  rcases Nat.lt_or_ge j K with hj | hj
  · rw [List.getElem?_eq_getElem (by omega), List.getElem?_eq_getElem (by omega)] at this ⊢
    simpa using this
  · rw [List.getElem?_eq_none (by omega), List.getElem?_eq_none (by omega)]

set_option maxHeartbeats 1000000 in
set_option maxRecDepth 10000 in
theorem to_any (a : Option Addr) (n ca : Nat) (xs : List Int) (w : World) (hr : Row32 w a n xs) (hca : n ≤ ca) (hn : n ≤ 100000) (hnil : a = none → ca = 0) : Calls Tryd.prog 22 #[.slice a n ca] w (GivesB (valZ xs) w) := by
  obtain ⟨i0, hi, hz0, hz1, hz2⟩ := info_parts Tryd.infoByte
  have LE := Lib.hid (len_any a n ca xs w hr hca (by omega) hnil)
  have HR := Lib.hid hr
  have LX := Lib.hid (row32_limbs hr)
  have ln := hr.1
  have BB := bitZ_bound (row32_limbs hr)
  have B0 := bitZ_nonneg (valZ xs)
  have BL := byZ_len (valZ xs)
  have V0 := valZ_nonneg (row32_limbs hr)
  have BAT := Lib.hid (fun (i : Nat) (hi : i < (byZ (valZ xs)).length) => byZ_at V0 hi)
  have BY := Lib.hid (byZ_byte (valZ xs))
  have BLI := Lib.hid (fun (q r : Nat) (h4 : r < 4) => byte_limb (row32_limbs hr) q r h4)
  clear hr hnil
  obtain ⟨K, hK⟩ : ∃ K, (byZ (valZ xs)).length = K := ⟨_, rfl⟩
  rw [hK] at BL BAT
  obtain ⟨bv, hbv⟩ : ∃ bv, bitZ (valZ xs) = bv := ⟨_, rfl⟩
  rw [hbv] at BB B0 BL LE
  rw [ln] at BB
  have HKL := Lib.hid hK
  have K4 : K ≤ 4 * n := by omega
  have w0 : IntKind.i64.wrap (bv + 8) = bv + 8 := IntWalk.i64_in _ (by omega)
  have w1 : IntKind.i64.wrap (bv + 8 - 1) = bv + 8 - 1 := IntWalk.i64_in _ (by omega)
  have g1 : (bv + 8 - 1) / 8 = (K : Int) := by omega
  have g2 : (bv + 8 - 1).tdiv 8 = (K : Int) := by rw [Int.tdiv_eq_ediv_of_nonneg (by omega)]; exact g1
  have w2 : IntKind.i64.wrap (K : Int) = (K : Int) := IntWalk.i64_in _ (by omega)
  clear hbv BB BL hK
  go_enter Tryd.func22, Tryd.ntmps22
  go_wp2_with fail
  refine LE.out.mono ?_
  rintro e w3 ⟨rfl, hw3⟩
  subst hw3
  clear LE
  go_wp2_with (at_make; refine wpList_make_full _ rfl _ _ 22 rfl w3.heap.size 5 i0 (.int .u8 0) 1 Tryd.underlying22 hi hz0 hz1 _ _ _ _ K rfl rfl ?b0 ?b00 ?b1 ?b2 ?b3 ?_)
  case b0 => first | rfl | omega
  case b00 => first | rfl | omega
  case b1 => rw [hz2]; omega
  case b2 => unfold maxLen; omega
  case b3 => exact Nat.le_refl _
  intro w4 hown0 hgrow
  have HO := Lib.hid (out_full hown0 hgrow)
  clear hown0 hgrow hz2 hz1 hz0 hi w0 w1 g1 g2
  go_wp2_with fail
  go_loopw [13] (fun iV wr => ∃ (i : Nat) (L : List Int), iV = .int .i64 (i : Int) ∧ i ≤ K ∧ Out w3 wr (.slice (some ⟨w3.heap.size, 0, none⟩) K K) L ∧ L.length = K ∧ ∀ j, K - i ≤ j → L[j]?.getD 0 = (byZ (valZ xs))[j]?.getD 0) (fun iV _ => (1000001 - intOf iV).toNat)
  case atStart => exact ⟨0, _, rfl, by omega, HO.out, by simp, fun j hj => by rw [List.getElem?_eq_none (by rw [List.length_replicate]; omega), List.getElem?_eq_none (by rw [HKL.out]; omega)]⟩
  case round =>
    obtain ⟨i, L, rfl, hi, ho, hlen, hsame⟩ := hrel
    have HO2 := Lib.hid ho
    have HN := Lib.hid hlen
    have HS := Lib.hid hsame
    clear ho hlen hsame HO
    by_cases hmore : i < K
    · have t1 : decide ((i : Int) < (K : Int)) = true := decide_eq_true (by omega)
      obtain ⟨k, hk⟩ : ∃ k, K - 1 - i = k := ⟨_, rfl⟩
      obtain ⟨q, hq⟩ : ∃ q, i / 4 = q := ⟨_, rfl⟩
      have r4 := Nat.mod_lt i (show 0 < 4 by omega)
      obtain ⟨r, hr⟩ : ∃ r, i % 4 = r := ⟨_, rfl⟩
      rw [hr] at r4
      obtain ⟨b, off, rfl, hbl0, hcell0⟩ := HR.out.2.2 (by omega)
      have cb : wr.cell? ⟨b, off + q, none⟩ = some (.int .u32 (xs[q]?.getD 0)) := (HO2.out.2.cell (p := ⟨b, off + q, none⟩) hbl0).trans (hcell0 q (by omega))
      have xr := LX.out.at q
      have AT := BAT.out i (by omega)
      rw [show i = 4 * q + r by omega, BLI.out q r r4, show 4 * q + r = i by omega] at AT
      have ST := Lib.hid (fun y hy => fill_step (y := y) HN.out hmore HS.out hy)
      obtain ⟨hc1, hf1⟩ := HO2.out.cell k (by rw [HN.out]; omega)
      have SET := Lib.hid (fun y => HO2.out.set (Nat.le_refl _) k y)
      have ATH := Lib.hid AT
      rw [hk] at ST ATH
      generalize xs[q]?.getD 0 = x at *
      generalize L[k]?.getD 0 = z at *
      have k1 : IntKind.i64.wrap ((K : Int) - 1) = (K : Int) - 1 := IntWalk.i64_in _ (by omega)
      have k2 : IntKind.i64.wrap ((K : Int) - 1 - (i : Int)) = (k : Int) := by rw [show (K : Int) - 1 - (i : Int) = (k : Int) by omega]; exact IntWalk.i64_in _ (by omega)
      have k3 : (i : Int) / 4 = (q : Int) := by omega
      have k3' : (i : Int).tdiv 4 = (q : Int) := by rw [Int.tdiv_eq_ediv_of_nonneg (by omega)]; exact k3
      have k5 : IntKind.i64.wrap (q : Int) = (q : Int) := IntWalk.i64_in _ (by omega)
      have qI : (q : Int) < (n : Int) := by omega
      have kI : (k : Int) < (K : Int) := by omega
      have hiM : i ≤ 1000000 := by omega
      clear hcell0 AT
      obtain rfl | rfl | rfl | rfl : r = 0 ∨ r = 1 ∨ r = 2 ∨ r = 3 := by omega
      · have kt : (i : Int).tmod 4 = 0 := by rw [Int.tmod_eq_emod_of_nonneg (by omega)]; omega
        have kp : (256 : Int) ^ 0 = 1 := by decide
        have w8 : IntKind.i64.wrap 0 = 0 := by decide
        have wc : IntKind.u8.wrap (x) = x % 256 := rfl
        have HY : Hid (x % 256 = (byZ (valZ xs))[k]?.getD 0) := Lib.hid (by rw [ATH.out, kp, Int.ediv_one])
        clear kp r4 xr
        go_wp2_with fail
        go_roundw
        case rel => exact ⟨i + 1, _, by go_num, by omega, SET.out _, by rw [List.length_set]; exact HN.out, ST.out _ HY.out⟩
        case measure => simp only [intOf]; exact meas_lt hiM
      · have kt : (i : Int).tmod 4 = 1 := by rw [Int.tmod_eq_emod_of_nonneg (by omega)]; omega
        have kp : (256 : Int) ^ 1 = 256 := by decide
        have w8 : IntKind.i64.wrap 8 = 8 := by decide
        have wc : IntKind.u8.wrap (x / 256) = x / 256 % 256 := rfl
        have HY : Hid (x / 256 % 256 = (byZ (valZ xs))[k]?.getD 0) := Lib.hid (by rw [ATH.out, kp])
        clear kp r4 xr
        go_wp2_with fail
        go_roundw
        case rel => exact ⟨i + 1, _, by go_num, by omega, SET.out _, by rw [List.length_set]; exact HN.out, ST.out _ HY.out⟩
        case measure => simp only [intOf]; exact meas_lt hiM
      · have kt : (i : Int).tmod 4 = 2 := by rw [Int.tmod_eq_emod_of_nonneg (by omega)]; omega
        have kp : (256 : Int) ^ 2 = 65536 := by decide
        have w8 : IntKind.i64.wrap 16 = 16 := by decide
        have wc : IntKind.u8.wrap (x / 65536) = x / 65536 % 256 := rfl
        have HY : Hid (x / 65536 % 256 = (byZ (valZ xs))[k]?.getD 0) := Lib.hid (by rw [ATH.out, kp])
        clear kp r4 xr
        go_wp2_with fail
        go_roundw
        case rel => exact ⟨i + 1, _, by go_num, by omega, SET.out _, by rw [List.length_set]; exact HN.out, ST.out _ HY.out⟩
        case measure => simp only [intOf]; exact meas_lt hiM
      · have kt : (i : Int).tmod 4 = 3 := by rw [Int.tmod_eq_emod_of_nonneg (by omega)]; omega
        have kp : (256 : Int) ^ 3 = 16777216 := by decide
        have w8 : IntKind.i64.wrap 24 = 24 := by decide
        have wc : IntKind.u8.wrap (x / 16777216) = x / 16777216 % 256 := rfl
        have HY : Hid (x / 16777216 % 256 = (byZ (valZ xs))[k]?.getD 0) := Lib.hid (by rw [ATH.out, kp])
        clear kp r4 xr
        go_wp2_with fail
        go_roundw
        case rel => exact ⟨i + 1, _, by go_num, by omega, SET.out _, by rw [List.length_set]; exact HN.out, ST.out _ HY.out⟩
        case measure => simp only [intOf]; exact meas_lt hiM
    · obtain rfl : i = K := by omega
      have t1 : decide ((i : Int) < (i : Int)) = false := decide_eq_false (by omega)
      have F := fill_end HN.out HKL.out HS.out
      subst F
      go_wp2_with fail
      go_ret
      exact ⟨_, rfl, HO2.out⟩

end Go.Proofs.YtdhablbfblkagaaDoor

namespace Go.Proofs.YtdhablbfblkagaaDoor
open Go.RowKit
set_option linter.unusedVariables false

/-- A slice has the number v. -/
def Num (w : World) (v : Int) (a : Option Addr) (n c : Nat) : Prop := ∃ zs, Row32 w a n zs ∧ valZ zs = v ∧ n ≤ c ∧ (a = none → c = 0)
/-- A slice is the limbs of the number v, the last not 0. -/
def Norm (w : World) (v : Int) (a : Option Addr) (n c : Nat) : Prop := n = (limZ v).length ∧ Row32 w a n (limZ v) ∧ n ≤ c ∧ (a = none → c = 0)
theorem Num.below {w w' : World} {v : Int} {a : Option Addr} {n c : Nat} (h : Num w v a n c) (hb : Below w.heap.size w w') : Num w' v a n c := by
  obtain ⟨zs, hr, hv, hc, hn⟩ := h
  exact ⟨zs, hr.below hb, hv, hc, hn⟩
theorem Norm.below {w w' : World} {v : Int} {a : Option Addr} {n c : Nat} (h : Norm w v a n c) (hb : Below w.heap.size w w') : Norm w' v a n c := ⟨h.1, h.2.1.below hb, h.2.2⟩
theorem Norm.num {w : World} {v : Int} {a : Option Addr} {n c : Nat} (h : Norm w v a n c) (hv : 0 ≤ v) : Num w v a n c := ⟨limZ v, h.2.1, limZ_val hv, h.2.2⟩
theorem Num.nonneg {w : World} {v : Int} {a : Option Addr} {n c : Nat} (h : Num w v a n c) : 0 ≤ v ∧ v < 4294967296 ^ n := by
  obtain ⟨zs, hr, hv, _⟩ := h
  have := valZ_lt hr.2.1
  rw [hr.1, hv] at this
  exact ⟨by rw [← hv]; exact valZ_nonneg hr.2.1, this⟩

theorem limZ_le {v : Int} (h0 : 0 ≤ v) {k : Nat} (h : v < 4294967296 ^ k) : (limZ v).length ≤ k := by
  rcases Nat.lt_or_ge k (limZ v).length with hk | hk
  · obtain ⟨j, hj⟩ : ∃ j, (limZ v).length = j + 1 := ⟨(limZ v).length - 1, by omega⟩
    have e := valZ_parts (limZ v) j
    rw [limZ_val h0, valZ_drop (limZ v) j, show (limZ v).drop (j + 1) = [] from List.drop_of_length_le (by omega), valZ, Int.mul_zero, Int.add_zero] at e
    have t := take_lt (limZ_limbs v) j
    have r := (limZ_limbs v).at j
    have l := limZ_last hj
    have p := pow_pos32 j
    have m := pow_mono32 (show k ≤ j by omega)
    have := Int.mul_le_mul_of_nonneg_left (show (1 : Int) ≤ (limZ v)[j]?.getD 0 by omega) (Int.le_of_lt p)
    rw [Int.mul_one] at this
    omega
  · exact hk
theorem sum_len {x y : Int} {n m : Nat} (hx : 0 ≤ x ∧ x < 4294967296 ^ n) (hy : 0 ≤ y ∧ y < 4294967296 ^ m) : (limZ (x + y)).length ≤ n + m + 1 := by
  refine limZ_le (by omega) ?_
  have h1 := pow_mono32 (show n ≤ n + m by omega)
  have h2 := pow_mono32 (show m ≤ n + m by omega)
  rw [Int.pow_succ]
  omega
theorem mul_len {x y : Int} {n m : Nat} (hx : 0 ≤ x ∧ x < 4294967296 ^ n) (hy : 0 ≤ y ∧ y < 4294967296 ^ m) : (limZ (x * y)).length ≤ n + m := by
  refine limZ_le (Int.mul_nonneg hx.1 hy.1) ?_
  rw [Int.pow_add]
  have p := pow_pos32 n
  have q := pow_pos32 m
  have b1 : x * y ≤ 4294967296 ^ n * y := Int.mul_le_mul_of_nonneg_right (Int.le_of_lt hx.2) hy.1
  have b2 : 4294967296 ^ n * y < 4294967296 ^ n * 4294967296 ^ m := Int.mul_lt_mul_of_pos_left hy.2 p
  omega

/-- The limbs of v are handed back, k of them at the most. -/
def Res (v : Int) (k : Nat) (w : World) (e : Ending) (w' : World) : Prop := ∃ a n c, e = .returned (.slice a n c) ∧ Norm w' v a n c ∧ n ≤ k ∧ Below w.heap.size w w'
theorem GivesL.res {v : Int} {k : Nat} {w w' : World} {e : Ending} (h : GivesL v w e w') (hk : (limZ v).length ≤ k) : Res v k w e w' := by
  obtain ⟨a, c, rfl, hr, hn, hc, hb⟩ := h
  exact ⟨a, _, c, rfl, ⟨rfl, hr, hc, hn⟩, hk, hb⟩
/-- The difference, and whether there is one. -/
def ResD (x y : Int) (k : Nat) (w : World) (e : Ending) (w' : World) : Prop := ∃ a n c, e = .returned (.tuple #[.slice a n c, .bool (!decide (x < y))]) ∧ Norm w' (subI x y) a n c ∧ n ≤ k ∧ Below w.heap.size w w'
theorem subI_nonneg (x y : Int) : 0 ≤ subI x y := by unfold subI; split <;> omega
theorem sub_len {x y : Int} {n : Nat} (hx : 0 ≤ x ∧ x < 4294967296 ^ n) (hy : 0 ≤ y) : (limZ (subI x y)).length ≤ n := by
  refine limZ_le (subI_nonneg x y) ?_
  have := pow_pos32 n
  unfold subI
  split <;> omega
theorem GivesD.res {x y : Int} {k : Nat} {w w' : World} {e : Ending} (h : GivesD x y w e w') (hk : (limZ (subI x y)).length ≤ k) : ResD x y k w e w' := by
  obtain ⟨a, c, rfl, hr, hn, hc, hb⟩ := h
  exact ⟨a, _, c, rfl, ⟨rfl, hr, hc, hn⟩, hk, hb⟩

section
variable {w : World} {x y : Int} {a b : Option Addr} {n m ca cb : Nat}
theorem mul_call (hx : Num w x a n ca) (hy : Num w y b m cb) (hn : n ≤ 40000) (hm : m ≤ 40000) : Calls Tryd.prog 63 #[.slice a n ca, .slice b m cb] w (Res (x * y) (n + m) w) := by
  have l := mul_len hx.nonneg hy.nonneg
  obtain ⟨xs, hr, rfl, hc, hi⟩ := hx
  obtain ⟨ys, hs, rfl, hd, hj⟩ := hy
  exact (mul_any a b n m ca cb xs ys w hr hs hn hm hc hd hi hj).mono fun e w' h => h.res l
theorem rmul_call (hx : Num w x a n ca) (hy : Num w y b m cb) (hn : n ≤ 40000) (hm : m ≤ 40000) : Calls Tryd.prog 32 #[.slice a n ca, .slice b m cb] w (Res (x * y) (n + m) w) := by
  have l := mul_len hx.nonneg hy.nonneg
  obtain ⟨xs, hr, rfl, _, _⟩ := hx
  obtain ⟨ys, hs, rfl, _, _⟩ := hy
  exact (rmul_any a b n m ca cb xs ys w hr hs hn hm).mono fun e w' h => h.res l
theorem cmp_call (hx : Num w x a n ca) (hy : Num w y b m cb) (hn : n ≤ 40000) (hm : m ≤ 40000) : Calls Tryd.prog 18 #[.slice a n ca, .slice b m cb] w fun e w' => e = .returned (.int .i64 (cmpI x y)) ∧ Below w.heap.size w w' := by
  obtain ⟨xs, hr, rfl, hc, hi⟩ := hx
  obtain ⟨ys, hs, rfl, hd, hj⟩ := hy
  refine (cmp_any a b n m ca cb xs ys w hr hs (by omega) (by omega) hc hd hi hj).mono ?_
  rintro e w' ⟨he, q, hw⟩
  exact ⟨he, by rw [hw]; exact drewN_below w q⟩
theorem rcmp_call (hx : Num w x a n ca) (hy : Num w y b m cb) (hn : n ≤ 40000) (hm : m ≤ 40000) : Calls Tryd.prog 25 #[.slice a n ca, .slice b m cb] w fun e w' => e = .returned (.int .i64 (cmpI x y)) ∧ Below w.heap.size w w' := by
  obtain ⟨xs, hr, rfl, hc, hi⟩ := hx
  obtain ⟨ys, hs, rfl, hd, hj⟩ := hy
  refine (rcmp_any a b n m ca cb xs ys w hr hs (by omega) (by omega)).mono ?_
  rintro e w' ⟨he, hw⟩
  exact ⟨he, by rw [hw]; exact Below.refl _ _⟩
theorem len_call (hx : Num w x a n ca) (hn : n ≤ 40000) : Calls Tryd.prog 44 #[.slice a n ca] w fun e w' => e = .returned (.int .i64 (bitZ x)) ∧ Below w.heap.size w w' := by
  obtain ⟨xs, hr, rfl, hc, hi⟩ := hx
  refine (len_any a n ca xs w hr hc (by omega) hi).mono ?_
  rintro e w' ⟨he, hw⟩
  exact ⟨he, by rw [hw]; exact Below.refl _ _⟩
theorem rlen_call (hx : Num w x a n ca) (hn : n ≤ 40000) : Calls Tryd.prog 49 #[.slice a n ca] w fun e w' => e = .returned (.int .i64 (bitZ x)) ∧ Below w.heap.size w w' := by
  obtain ⟨xs, hr, rfl, hc, hi⟩ := hx
  exact rlen_any a n ca xs w hr hc (by omega) hi
theorem bare_call (hx : Num w x a n ca) (hn : n ≤ 40000) : Calls Tryd.prog 59 #[.slice a n ca] w (Res x n w) := by
  have l := limZ_le hx.nonneg.1 hx.nonneg.2
  obtain ⟨xs, hr, rfl, hc, hi⟩ := hx
  exact (bare_any a n ca xs w hr (by omega) hi).mono fun e w' h => h.res l
theorem rbare_call (hx : Num w x a n ca) (hn : n ≤ 40000) : Calls Tryd.prog 46 #[.slice a n ca] w (Res x n w) := by
  have l := limZ_le hx.nonneg.1 hx.nonneg.2
  obtain ⟨xs, hr, rfl, hc, hi⟩ := hx
  exact (rbare_any a n ca xs w hr hc (by omega) hi).mono fun e w' h => h.res l
theorem beV_small {zs : List Int} (h : ∀ x ∈ zs, 0 ≤ x ∧ x ≤ 255) : (limZ (beV zs)).length ≤ zs.length := by
  refine limZ_le (beV_nonneg h) (Int.lt_of_lt_of_le (beV_lt h) ?_)
  have : (4294967296 : Int) ^ zs.length = 256 ^ (4 * zs.length) := by rw [Int.pow_mul]; rfl
  rw [this, Nat.mul_comm, Nat.mul_comm zs.length 4, show 4 * zs.length = zs.length + 3 * zs.length by omega, Int.pow_add]
  have p : (0 : Int) < 256 ^ zs.length := Int.pow_pos (by decide)
  have q : (0 : Int) < 256 ^ (3 * zs.length) := Int.pow_pos (by decide)
  have := Int.mul_le_mul_of_nonneg_left (show (1 : Int) ≤ 256 ^ (3 * zs.length) by omega) (Int.le_of_lt p)
  omega
theorem from_call {zs : List Int} (hr : Row w a n zs) (hn : n ≤ 40000) : Calls Tryd.prog 19 #[.slice a n ca] w (Res (beV zs) n w) := by
  have l := beV_small hr.2.1
  rw [hr.1] at l
  exact (from_any a n ca zs w hr (by omega)).mono fun e w' h => h.res l
theorem rfrom_call {zs : List Int} (hr : Row w a n zs) (hn : n ≤ 40000) : Calls Tryd.prog 24 #[.slice a n ca] w (Res (beV zs) n w) := by
  have l := beV_small hr.2.1
  rw [hr.1] at l
  exact (rfrom_any a n ca zs w hr (by omega)).mono fun e w' h => h.res l
/-- The bytes of v are handed back. -/
def ResB (v : Int) (k : Nat) (w : World) (e : Ending) (w' : World) : Prop := ∃ a n c, e = .returned (.slice a n c) ∧ n = (byZ v).length ∧ Row w' a n (byZ v) ∧ n ≤ k ∧ Below w.heap.size w w'
theorem GivesB.res {v : Int} {k : Nat} {w' : World} {e : Ending} (h : GivesB v w e w') (hk : (byZ v).length ≤ k) : ResB v k w e w' := by
  obtain ⟨V, rfl, ho⟩ := h
  obtain ⟨a, c, rfl, hr⟩ := ho.row (byZ_byte v)
  exact ⟨a, _, c, rfl, rfl, hr, hk, ho.2⟩
theorem to_call (hx : Num w x a n ca) (hn : n ≤ 40000) : Calls Tryd.prog 22 #[.slice a n ca] w (ResB x (4 * n) w) := by
  have l := byZ_le hx.nonneg.1 hx.nonneg.2
  obtain ⟨xs, hr, rfl, hc, hi⟩ := hx
  exact (to_any a n ca xs w hr hc (by omega) hi).mono fun e w' h => h.res l
theorem rto_call (hx : Num w x a n ca) (hn : n ≤ 40000) : Calls Tryd.prog 33 #[.slice a n ca] w (ResB x (4 * n) w) := by
  have l := byZ_le hx.nonneg.1 hx.nonneg.2
  obtain ⟨xs, hr, rfl, hc, hi⟩ := hx
  exact (rto_any a n ca xs w hr (by omega)).mono fun e w' h => h.res l
end

end Go.Proofs.YtdhablbfblkagaaDoor

namespace Go.Proofs.YtdhablbfblkagaaDoor
open Go.RowKit
set_option linter.unusedVariables false

theorem ediv_is {a b q r : Int} (hb : 0 < b) (h : a = q * b + r) (r0 : 0 ≤ r) (r1 : r < b) : a / b = q ∧ a % b = r := by
  have := (Int.ediv_emod_unique hb).2 ⟨(by rw [h, Int.mul_comm q b, Int.add_comm] : r + b * q = a), r0, r1⟩
  exact this

/-- A digit q of U and u by the number of h and l, that may be too great, and what is left of U. -/
def Half (U u h l q r : Int) : Prop := U = q * h + r ∧ 0 ≤ r ∧ 0 ≤ q ∧ (U * 4294967296 + u) / (h * 4294967296 + l) ≤ q
/-- What is divided, and by what. -/
def HalfIn (U u h l : Int) : Prop := 2147483648 ≤ h ∧ h < 4294967296 ∧ 0 ≤ l ∧ l < 4294967296 ∧ 0 ≤ U ∧ U < h * 4294967296 + l ∧ 0 ≤ u ∧ u < 4294967296

theorem half_start {U u h l : Int} (hi : HalfIn U u h l) : Half U u h l (U / h) (U % h) ∧ U / h * h = U - U % h ∧ 0 ≤ U % h ∧ U % h < h ∧ 0 ≤ U / h := by
  obtain ⟨h0, h1, l0, l1, U0, U1, u0, u1⟩ := hi
  have e := Int.mul_ediv_add_emod U h
  rw [Int.mul_comm] at e
  have r0 := Int.emod_nonneg U (show h ≠ 0 by omega)
  have r1 := Int.emod_lt_of_pos U (show 0 < h by omega)
  have q0 : 0 ≤ U / h := Int.ediv_nonneg U0 (by omega)
  refine ⟨⟨by omega, r0, q0, ?_⟩, by omega, r0, r1, q0⟩
  have Y0 : 0 < h * 4294967296 + l := by omega
  have e2 := Int.mul_ediv_add_emod (U * 4294967296 + u) (h * 4294967296 + l)
  have m0 := Int.emod_nonneg (U * 4294967296 + u) (show h * 4294967296 + l ≠ 0 by omega)
  have Q0 : 0 ≤ (U * 4294967296 + u) / (h * 4294967296 + l) := Int.ediv_nonneg (by omega) (by omega)
  generalize (U * 4294967296 + u) / (h * 4294967296 + l) = Q at *
  generalize (U * 4294967296 + u) % (h * 4294967296 + l) = M at *
  refine Int.le_ediv_of_mul_le (by omega) ?_
  have e3 : (h * 4294967296 + l) * Q = Q * h * 4294967296 + l * Q := by rw [Int.add_mul, Int.mul_right_comm, Int.mul_comm h Q]
  have e4 := Int.mul_nonneg l0 Q0
  omega

theorem half_low {U u h l q r : Int} (hi : HalfIn U u h l) (hh : Half U u h l q r) (hc : 4294967296 ≤ q ∨ r * 4294967296 + u < q * l) : Half U u h l (q - 1) (r + h) ∧ 1 ≤ q := by
  obtain ⟨h0, h1, l0, l1, U0, U1, u0, u1⟩ := hi
  obtain ⟨e, r0, q0, hq⟩ := hh
  have Y0 : 0 < h * 4294967296 + l := by omega
  have lt : (U * 4294967296 + u) / (h * 4294967296 + l) < q := by
    rcases hc with hc | hc
    · have : (U * 4294967296 + u) / (h * 4294967296 + l) < 4294967296 := Int.ediv_lt_of_lt_mul Y0 (by omega)
      omega
    · refine Int.ediv_lt_of_lt_mul Y0 ?_
      rw [Int.mul_add, ← Int.mul_assoc]
      omega
  have Q0 : 0 ≤ (U * 4294967296 + u) / (h * 4294967296 + l) := Int.ediv_nonneg (by omega) (by omega)
  refine ⟨⟨?_, by omega, by omega, by omega⟩, by omega⟩
  rw [Int.sub_mul]
  omega
theorem half_end {U u h l q r : Int} (hi : HalfIn U u h l) (hh : Half U u h l q r) (hc : (q < 4294967296 ∧ q * l ≤ r * 4294967296 + u) ∨ 4294967296 ≤ r) : q = (U * 4294967296 + u) / (h * 4294967296 + l) := by
  obtain ⟨h0, h1, l0, l1, U0, U1, u0, u1⟩ := hi
  obtain ⟨e, r0, q0, hq⟩ := hh
  have Y0 : 0 < h * 4294967296 + l := by omega
  have key : q * l ≤ r * 4294967296 + u := by
    rcases hc with hc | hc
    · exact hc.2
    · have ql : q < 4294967296 := by
        rcases (by omega : q < 4294967296 ∨ 4294967296 ≤ q) with hq2 | hq2
        · exact hq2
        · have := Int.mul_le_mul_of_nonneg_right hq2 (show 0 ≤ h by omega)
          omega
      have := Int.mul_le_mul_of_nonneg_right (show q ≤ 4294967296 by omega) l0
      omega
  have : q ≤ (U * 4294967296 + u) / (h * 4294967296 + l) := by
    refine Int.le_ediv_of_mul_le Y0 ?_
    rw [Int.mul_add, ← Int.mul_assoc]
    omega
  omega
/-- The bounds of a digit on its way: nothing runs over. -/
theorem half_room {U u h l q r : Int} (hi : HalfIn U u h l) (hh : Half U u h l q r) : q < 8589934592 := by
  obtain ⟨h0, h1, l0, l1, U0, U1, u0, u1⟩ := hi
  obtain ⟨e, r0, q0, hq⟩ := hh
  rcases (by omega : q < 8589934592 ∨ 8589934592 ≤ q) with hq2 | hq2
  · exact hq2
  · have := Int.mul_le_mul_of_nonneg_right hq2 (show 0 ≤ h by omega)
    omega
theorem half_prod {l q : Int} (q0 : 0 ≤ q) (q1 : q < 4294967296) (l0 : 0 ≤ l) (l1 : l < 4294967296) : 0 ≤ q * l ∧ q * l ≤ 18446744065119617025 := by
  have a := Int.mul_le_mul_of_nonneg_right (show q ≤ 4294967295 by omega) l0
  exact ⟨Int.mul_nonneg q0 l0, by omega⟩
/-- What is left behind a digit. -/
theorem half_rest {U u h l : Int} (hi : HalfIn U u h l) : (U * 4294967296 + u) / (h * 4294967296 + l) < 4294967296 ∧ 0 ≤ (U * 4294967296 + u) / (h * 4294967296 + l) ∧ 0 ≤ (U * 4294967296 + u) % (h * 4294967296 + l) ∧ (U * 4294967296 + u) % (h * 4294967296 + l) < h * 4294967296 + l ∧
    U * 4294967296 + u - (U * 4294967296 + u) / (h * 4294967296 + l) * (h * 4294967296 + l) = (U * 4294967296 + u) % (h * 4294967296 + l) := by
  obtain ⟨h0, h1, l0, l1, U0, U1, u0, u1⟩ := hi
  have Y0 : 0 < h * 4294967296 + l := by omega
  refine ⟨Int.ediv_lt_of_lt_mul Y0 (by omega), Int.ediv_nonneg (by omega) (by omega), Int.emod_nonneg _ (by omega), Int.emod_lt_of_pos _ Y0, ?_⟩
  have e2 := Int.mul_ediv_add_emod (U * 4294967296 + u) (h * 4294967296 + l)
  rw [Int.mul_comm] at e2
  omega
/-- The two digits make the quotient. -/
theorem halves {A Y U u1 u0 : Int} (hY : 0 < Y) (hA : A = (U * 4294967296 + u1) * 4294967296 + u0) :
    (U * 4294967296 + u1) / Y * 4294967296 + ((U * 4294967296 + u1) % Y * 4294967296 + u0) / Y = A / Y := by
  have e1 := Int.mul_ediv_add_emod (U * 4294967296 + u1) Y
  generalize (U * 4294967296 + u1) / Y = Q at *
  generalize (U * 4294967296 + u1) % Y = R at *
  have e2 := Int.mul_ediv_add_emod (R * 4294967296 + u0) Y
  have m0 := Int.emod_nonneg (R * 4294967296 + u0) (show Y ≠ 0 by omega)
  have m1 := Int.emod_lt_of_pos (R * 4294967296 + u0) hY
  generalize (R * 4294967296 + u0) / Y = Q2 at *
  generalize (R * 4294967296 + u0) % Y = R2 at *
  refine ((ediv_is hY (q := Q * 4294967296 + Q2) (r := R2) ?_ m0 m1).1).symm
  rw [Int.add_mul, Int.mul_right_comm, Int.mul_comm Q Y, Int.mul_comm Q2 Y]
  omega

theorem wraps_u64 (n : Int) (h0 : 0 ≤ n) (h1 : n < 2 ^ 64) : IntKind.u64.wrap n = n := by rw [IntKind.wrap_u64]; omega
theorem nor64 (x y : Nat) (hx : x < 18446744073709551616) (hy : y < 18446744073709551616) : bits .or .u64 (x : Int) (y : Int) = ((x ||| y : Nat) : Int) := (bits_nat .u64 64 (by decide) wraps_u64 x y (by omega) (by omega)).2
theorem nand64 (x y : Nat) (hx : x < 18446744073709551616) (hy : y < 18446744073709551616) : bits .and .u64 (x : Int) (y : Int) = ((x &&& y : Nat) : Int) := (bits_nat .u64 64 (by decide) wraps_u64 x y (by omega) (by omega)).1
/-- What is shifted up, and what lies below. -/
theorem or_up {x b : Int} (s : Nat) (x0 : 0 ≤ x) (b0 : 0 ≤ b) (b1 : b < 2 ^ s) (h : x * 2 ^ s + b < 18446744073709551616) : bits .or .u64 (x * 2 ^ s) b = x * 2 ^ s + b := by
  obtain ⟨X, rfl⟩ : ∃ X : Nat, x = (X : Int) := ⟨x.toNat, by omega⟩
  obtain ⟨B, rfl⟩ : ∃ B : Nat, b = (B : Int) := ⟨b.toNat, by omega⟩
  have e : ((X : Int) * 2 ^ s) = ((X * 2 ^ s : Nat) : Int) := by push_cast; rfl
  have hB : B < 2 ^ s := by
    have : ((2 ^ s : Nat) : Int) = (2 : Int) ^ s := by push_cast; rfl
    omega
  rw [e] at h ⊢
  rw [nor64 _ _ (by omega) (by omega), ← Nat.shiftLeft_eq, ← Nat.shiftLeft_add_eq_or_of_lt hB]
  push_cast
  rfl
theorem low32 {x : Int} (x0 : 0 ≤ x) (x1 : x < 18446744073709551616) : bits .and .u64 x 4294967295 = x % 4294967296 := by
  obtain ⟨X, rfl⟩ : ∃ X : Nat, x = (X : Int) := ⟨x.toNat, by omega⟩
  rw [show (4294967295 : Int) = ((4294967295 : Nat) : Int) from rfl, nand64 _ _ (by omega) (by omega), show (4294967295 : Nat) = 2 ^ 32 - 1 from rfl, Nat.and_two_pow_sub_one_eq_mod]
  show ((X % 4294967296 : Nat) : Int) = _
  omega
/-- A number of 128 bits, shifted: its upper 64 bits, and its lower ones. -/
theorem shift_parts {hi lo : Int} {s : Nat} (hs : s ≤ 64) (l0 : 0 ≤ lo) (l1 : lo < 18446744073709551616) :
    0 ≤ lo / 2 ^ (64 - s) ∧ lo / 2 ^ (64 - s) < 2 ^ s ∧ (hi * 18446744073709551616 + lo) * 2 ^ s = (hi * 2 ^ s + lo / 2 ^ (64 - s)) * 18446744073709551616 + lo * 2 ^ s % 18446744073709551616 := by
  have p1 : (0 : Int) < 2 ^ s := Int.pow_pos (by decide)
  have p2 : (0 : Int) < 2 ^ (64 - s) := Int.pow_pos (by decide)
  have e : (2 : Int) ^ (64 - s) * 2 ^ s = 18446744073709551616 := by rw [← Int.pow_add, show 64 - s + s = 64 by omega]; rfl
  have e2 : lo * 2 ^ s / 18446744073709551616 = lo / 2 ^ (64 - s) := by rw [← e]; exact Int.mul_ediv_mul_of_pos_left _ _ p1
  refine ⟨Int.ediv_nonneg l0 (by omega), Int.ediv_lt_of_lt_mul p2 (by rw [Int.mul_comm, e]; exact l1), ?_⟩
  have e3 := Int.mul_ediv_add_emod (lo * 2 ^ s) 18446744073709551616
  rw [e2] at e3
  rw [Int.add_mul, Int.add_mul, Int.mul_right_comm hi]
  omega

end Go.Proofs.YtdhablbfblkagaaDoor

namespace Go.Proofs
open Go.Shelf
def Tryd.lays134_ren : Go.Shelf.Ren := ⟨fun | 129 => 86 | 134 => 85 | n => n, fun | 3 => 3 | 4 => 4 | 5 => 5 | 9 => 9 | 46 => 72 | 53 => 67 | n => n, fun | n => n⟩
theorem Tryd.lays134 : Go.Proofs.Lays.n134 Tryd.prog Tryd.lays134_ren := {
  mixed := by kernel_rfl
  f129 := Tryd.func86.trans (congrArg some (by kernel_rfl))
  f134 := Tryd.func85.trans (congrArg some (by kernel_rfl))
  t3 := Tryd.underlying3
  a3 := Tryd.isAgg3
  z3 := Tryd.sizeOf3
  v3 := Tryd.zeroValue3
  t4 := Tryd.underlying4
  a4 := Tryd.isAgg4
  z4 := Tryd.sizeOf4
  v4 := Tryd.zeroValue4
  t5 := Tryd.underlying5
  a5 := Tryd.isAgg5
  z5 := Tryd.sizeOf5
  v5 := Tryd.zeroValue5
  t9 := Tryd.underlying9
  a9 := Tryd.isAgg9
  z9 := Tryd.sizeOf9
  v9 := Tryd.zeroValue9
  t46 := Tryd.underlying72
  a46 := Tryd.isAgg72
  z46 := Tryd.sizeOf72
  v46 := Tryd.zeroValue72
  t53 := Tryd.underlying67
  a53 := Tryd.isAgg67
  z53 := Tryd.sizeOf67
  v53 := Tryd.zeroValue67 }
theorem Tryd.bits_LeadingZeros64 (x : Int) (w : World) (h0 : 0 ≤ x) (h1 : x ≤ 18446744073709551615) :
    Calls Tryd.prog 85 #[.int .u64 x] w fun e w' => e = .returned (.int .i64 (64 - (Lib.bitLen x.toNat : Int))) ∧ w' = w := Any.bits_LeadingZeros64 Tryd.lays134 x w h0 h1
end Go.Proofs

namespace Go.Proofs.YtdhablbfblkagaaDoor
open Go.RowKit
set_option linter.unusedVariables false

theorem lead_parts {y : Int} (h0 : 0 < y) (h1 : y < 18446744073709551616) : ∃ s : Nat, (64 : Int) - (Lib.bitLen y.toNat : Int) = (s : Int) ∧ s ≤ 63 ∧ 9223372036854775808 ≤ y * 2 ^ s ∧ y * 2 ^ s < 18446744073709551616 := by
  have e := bitLen_is y.toNat (by omega)
  have hy : y.toNat ≠ 0 := by omega
  have b1 := bitN_lt y.toNat
  have b2 := bitN_low hy
  have b3 := bitN_pos hy
  have b4 := bitN_le 64 y.toNat (by omega)
  obtain ⟨t, ht⟩ : ∃ t : Nat, bitN y.toNat = (t : Int) + 1 := ⟨(bitN y.toNat).toNat - 1, by omega⟩
  rw [ht] at b1 b2 b4 e
  rw [show ((t : Int) + 1).toNat = t + 1 by omega] at b1 b2
  rw [show t + 1 - 1 = t by omega] at b2
  obtain ⟨Y, rfl⟩ : ∃ Y : Nat, y = (Y : Int) := ⟨y.toNat, by omega⟩
  rw [Int.toNat_natCast] at b1 b2 e
  have p : 0 < 2 ^ (63 - t) := Nat.pow_pos (by decide)
  have c1 : 2 ^ t * 2 ^ (63 - t) = 9223372036854775808 := by rw [← Nat.pow_add, show t + (63 - t) = 63 by omega]
  have c2 := Nat.mul_le_mul_right (2 ^ (63 - t)) b2
  have c3 := Nat.mul_lt_mul_of_pos_right b1 p
  rw [c1] at c2
  rw [Nat.pow_succ, Nat.mul_right_comm, c1] at c3
  have e3 : (Y : Int) * 2 ^ (63 - t) = ((Y * 2 ^ (63 - t) : Nat) : Int) := by push_cast; rfl
  refine ⟨63 - t, by rw [Int.toNat_natCast]; omega, by omega, by rw [e3]; omega, by rw [e3]; omega⟩

/-- What the shifts of bits.Div64 make, and what that is good for. -/
theorem div64_parts {hi lo y : Int} (h0 : 0 < hi) (h1 : hi < y) (l0 : 0 ≤ lo) (l1 : lo < 18446744073709551616) (y1 : y < 18446744073709551616) :
    ∃ (s m : Nat) (Y h l H U V u1 u0 : Int), IntKind.u64.wrap (64 - (Lib.bitLen y.toNat : Int)) = (s : Int) ∧ min s 64 = s ∧ IntKind.u64.wrap (y * 2 ^ s) = Y ∧ Y / 4294967296 = h ∧ bits .and .u64 Y 4294967295 = l ∧ IntKind.u64.wrap (hi * 2 ^ s) = H ∧
      IntKind.u64.wrap (64 - (s : Int)) = (m : Int) ∧ min m 64 = m ∧ bits .or .u64 H (lo / 2 ^ m) = U ∧ IntKind.u64.wrap (lo * 2 ^ s) = V ∧ V / 4294967296 = u1 ∧ bits .and .u64 V 4294967295 = u0 ∧
      Y = h * 4294967296 + l ∧ HalfIn U u1 h l ∧ 0 ≤ u0 ∧ u0 < 4294967296 ∧
      (U * 4294967296 + u1) / Y * 4294967296 + ((U * 4294967296 + u1) % Y * 4294967296 + u0) / Y = (hi * 18446744073709551616 + lo) / y := by
  obtain ⟨s, hs, s63, Y0, Y1⟩ := lead_parts (y := y) (by omega) y1
  have p1 : (0 : Int) < 2 ^ s := Int.pow_pos (by decide)
  obtain ⟨a0, a1, a2⟩ := shift_parts (hi := hi) (s := s) (by omega) l0 l1
  have hH : hi * 2 ^ s + 2 ^ s ≤ y * 2 ^ s := by
    have := Int.mul_le_mul_of_nonneg_right (show hi + 1 ≤ y by omega) (Int.le_of_lt p1)
    rw [Int.add_mul, Int.one_mul] at this
    exact this
  have H0 : 0 ≤ hi * 2 ^ s := Int.mul_nonneg (by omega) (by omega)
  have V0 : 0 ≤ lo * 2 ^ s % 18446744073709551616 := Int.emod_nonneg _ (by omega)
  have V1 : lo * 2 ^ s % 18446744073709551616 < 18446744073709551616 := Int.emod_lt_of_pos _ (by omega)
  have hA := halves (A := (hi * 18446744073709551616 + lo) * 2 ^ s) (Y := y * 2 ^ s) (U := hi * 2 ^ s + lo / 2 ^ (64 - s)) (u1 := lo * 2 ^ s % 18446744073709551616 / 4294967296) (u0 := lo * 2 ^ s % 18446744073709551616 % 4294967296) (by omega) (by rw [a2]; omega)
  rw [Int.mul_ediv_mul_of_pos_left _ _ p1] at hA
  refine ⟨s, 64 - s, y * 2 ^ s, _, y * 2 ^ s % 4294967296, hi * 2 ^ s, hi * 2 ^ s + lo / 2 ^ (64 - s), lo * 2 ^ s % 18446744073709551616, _, lo * 2 ^ s % 18446744073709551616 % 4294967296, ?_, by omega, IntWalk.u64_in _ (by omega), rfl, low32 (by omega) Y1, IntWalk.u64_in _ (by omega), ?_, by omega, ?_, rfl, rfl, low32 V0 V1, by omega, ⟨by omega, by omega, by omega, by omega, by omega, by omega, by omega, by omega⟩, by omega, by omega, hA⟩
  · rw [hs]
    exact IntWalk.u64_in _ (by omega)
  · rw [show (64 : Int) - (s : Int) = ((64 - s : Nat) : Int) by omega]
    exact IntWalk.u64_in _ (by omega)
  · exact or_up s (by omega) a0 a1 (by omega)

set_option maxHeartbeats 1000000 in
set_option maxRecDepth 100000 in
theorem div64_low (lo y : Int) (w : World) (l0 : 0 ≤ lo) (l1 : lo < 18446744073709551616) (y0 : 0 < y) (y1 : y < 18446744073709551616) :
    Calls Tryd.prog 81 #[.int .u64 0, .int .u64 lo, .int .u64 y] w fun e w' => ∃ n, w' = w.drewN n ∧ ∃ r, e = .returned (.tuple #[.int .u64 (lo / y), .int .u64 r]) := by
  have t1 : (y == 0) = false := by simp; omega
  have t2 : decide (y ≤ 0) = false := by simp; omega
  have ne : ¬ y = 0 := by omega
  have Q0 : 0 ≤ lo / y := Int.ediv_nonneg l0 (by omega)
  have Q1 : lo / y ≤ lo := Int.ediv_le_self y l0
  have e1 : lo.tdiv y = lo / y := Int.tdiv_eq_ediv_of_nonneg l0
  have k1 : IntKind.u64.wrap (lo / y) = lo / y := IntWalk.u64_in _ (by omega)
  go_enter Tryd.func81, Tryd.ntmps81
  go_wp2_with fail
  go_quiet (fail)
  go_wp2_with fail
  go_ret2
  exact ⟨nq, rfl, _, rfl⟩

set_option maxHeartbeats 4000000 in
set_option maxRecDepth 100000 in
theorem div64_any (hi lo y : Int) (w : World) (h0 : 0 < hi) (h1 : hi < y) (l0 : 0 ≤ lo) (l1 : lo < 18446744073709551616) (y1 : y < 18446744073709551616) :
    Calls Tryd.prog 81 #[.int .u64 hi, .int .u64 lo, .int .u64 y] w fun e w' => w' = w ∧ ∃ r, e = .returned (.tuple #[.int .u64 ((hi * 18446744073709551616 + lo) / y), .int .u64 r]) := by
  have t1 : (y == 0) = false := by simp; omega
  have t2 : decide (y ≤ hi) = false := by simp; omega
  have t3 : (hi == 0) = false := by simp; omega
  have LZ := Lib.hid (Tryd.bits_LeadingZeros64 y w (by omega) (by omega))
  obtain ⟨s, m, Y, h, l, H, U, V, u1, u0, f1, f2, f3, f4, f5, f6, f7, f8, f9, f10, f11, f12, hY, HI, u00, u01, hF⟩ := div64_parts h0 h1 l0 l1 y1
  obtain ⟨HS, hs2, r00, r01, q00⟩ := half_start HI
  have HR := half_rest HI
  have HR2 := half_room HI HS
  rw [← hY] at HR
  have HIN := Lib.hid HI
  obtain ⟨g0, g1, g2, g3, g4, g5, g6, g7⟩ := HI
  have HF := Lib.hid hF
  have HYY := Lib.hid hY
  have n1 : ¬ h = 0 := by omega
  have d1 : U.tdiv h = U / h := Int.tdiv_eq_ediv_of_nonneg g4
  generalize U / h = q at *
  generalize U % h = r at *
  have HSH := Lib.hid HS
  obtain ⟨P, hP⟩ : ∃ P, q * h = P := ⟨_, rfl⟩
  have P0 : 0 ≤ P := by rw [← hP]; exact Int.mul_nonneg q00 (by omega)
  have d2 : IntKind.u64.wrap q = q := IntWalk.u64_in _ (by omega)
  have d3 : IntKind.u64.wrap (q * h) = P := by rw [hP]; exact IntWalk.u64_in _ (by omega)
  have d4 : IntKind.u64.wrap (U - P) = r := by rw [show U - P = r by omega]; exact IntWalk.u64_in _ (by omega)
  generalize Lib.bitLen y.toNat = B at *
  generalize (hi * 18446744073709551616 + lo) / y = A at *
  generalize hQ1 : (U * 4294967296 + u1) / Y = Q1 at *
  generalize hR1 : (U * 4294967296 + u1) % Y = R1 at *
  have HQ1 := Lib.hid hQ1
  obtain ⟨Q10, Q11, R10, R11, hT⟩ := HR
  -- the second half
  have HI2 : HalfIn R1 u0 h l := ⟨g0, g1, g2, g3, by omega, by omega, by omega, by omega⟩
  obtain ⟨HS2, hs3, r20, r21, q20⟩ := half_start HI2
  have HR3 := half_room HI2 HS2
  have HR4 := half_rest HI2
  rw [← hY] at HR4
  have HIN2 := Lib.hid HI2
  have c5h : Hid (R1.tdiv h = R1 / h) := Lib.hid (Int.tdiv_eq_ediv_of_nonneg (by omega))
  generalize R1 / h = q2 at *
  generalize R1 % h = r2 at *
  have HSH2 := Lib.hid HS2
  obtain ⟨P2, hP2⟩ : ∃ P, q2 * h = P := ⟨_, rfl⟩
  have P20 : 0 ≤ P2 := by rw [← hP2]; exact Int.mul_nonneg q20 (by omega)
  have c6h : Hid (IntKind.u64.wrap q2 = q2) := Lib.hid (IntWalk.u64_in _ (by omega))
  have c7h : Hid (IntKind.u64.wrap (q2 * h) = P2) := Lib.hid (by rw [hP2]; exact IntWalk.u64_in _ (by omega))
  have c8h : Hid (IntKind.u64.wrap (R1 - P2) = r2) := Lib.hid (by rw [show R1 - P2 = r2 by omega]; exact IntWalk.u64_in _ (by omega))
  obtain ⟨M1, hM1⟩ : ∃ M, U * 4294967296 % 18446744073709551616 = M := ⟨_, rfl⟩
  obtain ⟨M2, hM2⟩ : ∃ M, (M1 + u1) % 18446744073709551616 = M := ⟨_, rfl⟩
  obtain ⟨M3, hM3⟩ : ∃ M, Q1 * Y % 18446744073709551616 = M := ⟨_, rfl⟩
  have c1h : Hid (IntKind.u64.wrap (U * 4294967296) = M1) := Lib.hid hM1
  have c2h : Hid (IntKind.u64.wrap (M1 + u1) = M2) := Lib.hid hM2
  have c3h : Hid (IntKind.u64.wrap (Q1 * Y) = M3) := Lib.hid hM3
  have c4h : Hid (IntKind.u64.wrap (M2 - M3) = R1) := Lib.hid (by
    show (M2 - M3) % 18446744073709551616 = R1
    generalize Q1 * Y = T at *
    omega)
  clear hM1 hM2 hM3
  generalize hQ2 : (R1 * 4294967296 + u0) / Y = Q2 at *
  have HQ2 := Lib.hid hQ2
  obtain ⟨Q20, Q21, _, _, _⟩ := HR4
  clear hQ1 hR1 hQ2 hY hF HI2 HS HS2 hP hP2 hs2 hs3 hT
  go_enter Tryd.func81, Tryd.ntmps81
  go_wp2_with (go_at_call 85; refine LZ.out.mono ?_; rintro e w' ⟨rfl, rfl⟩)
  go_loopw [15, 16] (fun qV rV wr => wr = w' ∧ ∃ (q r : Int), qV = .int .u64 q ∧ rV = .int .u64 r ∧ Half U u1 h l q r ∧ r < 4294967296) (fun qV _ _ => (intOf qV).toNat)
  case atStart => exact ⟨rfl, q, r, rfl, rfl, HSH.out, by omega⟩
  case round =>
    clear HSH d1 d2 d3 d4 r00 r01 q00 HR2
    obtain ⟨rfl, qa, ra, rfl, rfl, hh, ra1⟩ := hrel
    have HH := Lib.hid hh
    have HRA := half_room HIN.out hh
    have ra0 := hh.2.1
    have qa0 := hh.2.2.1
    clear hh
    by_cases hc1 : 4294967296 ≤ qa
    · have e1 : decide (4294967296 ≤ qa) = true := decide_eq_true hc1
      have e1g : decide (qa ≥ 4294967296) = true := decide_eq_true hc1
      have HL := Lib.hid (half_low HIN.out HH.out (.inl hc1))
      have k2 : IntKind.u64.wrap (ra + h) = ra + h := IntWalk.u64_in _ (by omega)
      by_cases hb : 4294967296 ≤ ra + h
      · have e3 : decide (4294967296 ≤ ra + h) = true := decide_eq_true hb
        have e4 : decide (ra + h ≥ 4294967296) = true := decide_eq_true hb
        have k1 : IntKind.u64.wrap (qa - 1) = Q1 := by
          have := half_end HIN.out HL.out.1 (.inr hb)
          rw [← HYY.out, HQ1.out] at this
          rw [this]
          exact IntWalk.u64_in _ (by omega)
        clear HL HH
        have c1 : IntKind.u64.wrap (U * 4294967296) = M1 := c1h.out
        have c2 : IntKind.u64.wrap (M1 + u1) = M2 := c2h.out
        have c3 : IntKind.u64.wrap (Q1 * Y) = M3 := c3h.out
        have c4 : IntKind.u64.wrap (M2 - M3) = R1 := c4h.out
        have c5 : R1.tdiv h = q2 := c5h.out
        have c6 : IntKind.u64.wrap q2 = q2 := c6h.out
        have c7 : IntKind.u64.wrap (q2 * h) = P2 := c7h.out
        have c8 : IntKind.u64.wrap (R1 - P2) = r2 := c8h.out
        go_wp2_with fail
        go_loopw [18, 16] (fun qV rV w2 => w2 = wr ∧ ∃ (q r : Int), qV = .int .u64 q ∧ rV = .int .u64 r ∧ Half R1 u0 h l q r ∧ r < 4294967296) (fun qV _ _ => (intOf qV).toNat)
        case atStart => exact ⟨rfl, q2, r2, rfl, rfl, HSH2.out, by omega⟩
        case round =>
          clear c1 c2 c3 c4 c5 c6 c7 c8
          obtain ⟨rfl, qb, rb, rfl, rfl, hh2, rb1⟩ := hrel
          have HH := Lib.hid hh2
          have HRB := half_room HIN2.out hh2
          have rb0 := hh2.2.1
          have qb0 := hh2.2.2.1
          clear hh2
          by_cases hc1 : 4294967296 ≤ qb
          · have e1 : decide (4294967296 ≤ qb) = true := decide_eq_true hc1
            have e1g : decide (qb ≥ 4294967296) = true := decide_eq_true hc1
            have HL := Lib.hid (half_low HIN2.out HH.out (.inl hc1))
            have k2 : IntKind.u64.wrap (rb + h) = rb + h := IntWalk.u64_in _ (by omega)
            by_cases hb : 4294967296 ≤ rb + h
            · have e3 : decide (4294967296 ≤ rb + h) = true := decide_eq_true hb
              have e4 : decide (rb + h ≥ 4294967296) = true := decide_eq_true hb
              have k1 : IntKind.u64.wrap (qb - 1) = Q2 := by
                have := half_end HIN2.out HL.out.1 (.inr hb)
                rw [← HYY.out, HQ2.out] at this
                rw [this]
                exact IntWalk.u64_in _ (by omega)
              clear HL HH
              have z1 : IntKind.u64.wrap (Q1 * 4294967296) = Q1 * 4294967296 := IntWalk.u64_in _ (by omega)
              have z2 : IntKind.u64.wrap (Q1 * 4294967296 + Q2) = A := by rw [HF.out]; exact IntWalk.u64_in _ (by have := HF.out; omega)
              go_wp2_with fail
              go_ret2
              exact ⟨rfl, _, rfl⟩
            · have e3 : decide (4294967296 ≤ rb + h) = false := decide_eq_false hb
              have e4 : decide (rb + h ≥ 4294967296) = false := decide_eq_false hb
              have k1 : IntKind.u64.wrap (qb - 1) = qb - 1 := IntWalk.u64_in _ (by omega)
              go_wp2_with fail
              go_roundw
              case rel => exact ⟨trivial, _, _, rfl, rfl, HL.out.1, by omega⟩
              case measure => simp only [intOf]; omega
          · have e1 : decide (4294967296 ≤ qb) = false := decide_eq_false hc1
            have e1g : decide (qb ≥ 4294967296) = false := decide_eq_false hc1
            have PR := half_prod qb0 (by omega) g2 g3
            by_cases hc2 : rb * 4294967296 + u0 < qb * l
            · have HL0 := half_low HIN2.out HH.out (.inr hc2)
              obtain ⟨pq, hpq⟩ : ∃ pq, qb * l = pq := ⟨_, rfl⟩
              rw [hpq] at hc2 PR
              have m1 : IntKind.u64.wrap (qb * l) = pq := by rw [hpq]; exact IntWalk.u64_in _ (by omega)
              have m2 : IntKind.u64.wrap (4294967296 * rb) = rb * 4294967296 := by rw [Int.mul_comm]; exact IntWalk.u64_in _ (by omega)
              have m3 : IntKind.u64.wrap (rb * 4294967296 + u0) = rb * 4294967296 + u0 := IntWalk.u64_in _ (by omega)
              have e2 : decide (rb * 4294967296 + u0 < pq) = true := decide_eq_true hc2
              have e2g : decide (pq > rb * 4294967296 + u0) = true := decide_eq_true hc2
              clear hpq
              have HL := Lib.hid HL0
              have k2 : IntKind.u64.wrap (rb + h) = rb + h := IntWalk.u64_in _ (by omega)
              by_cases hb : 4294967296 ≤ rb + h
              · have e3 : decide (4294967296 ≤ rb + h) = true := decide_eq_true hb
                have e4 : decide (rb + h ≥ 4294967296) = true := decide_eq_true hb
                have k1 : IntKind.u64.wrap (qb - 1) = Q2 := by
                  have := half_end HIN2.out HL.out.1 (.inr hb)
                  rw [← HYY.out, HQ2.out] at this
                  rw [this]
                  exact IntWalk.u64_in _ (by omega)
                clear HL HH
                have z1 : IntKind.u64.wrap (Q1 * 4294967296) = Q1 * 4294967296 := IntWalk.u64_in _ (by omega)
                have z2 : IntKind.u64.wrap (Q1 * 4294967296 + Q2) = A := by rw [HF.out]; exact IntWalk.u64_in _ (by have := HF.out; omega)
                go_wp2_with fail
                go_ret2
                exact ⟨rfl, _, rfl⟩
              · have e3 : decide (4294967296 ≤ rb + h) = false := decide_eq_false hb
                have e4 : decide (rb + h ≥ 4294967296) = false := decide_eq_false hb
                have k1 : IntKind.u64.wrap (qb - 1) = qb - 1 := IntWalk.u64_in _ (by omega)
                go_wp2_with fail
                go_roundw
                case rel => exact ⟨trivial, _, _, rfl, rfl, HL.out.1, by omega⟩
                case measure => simp only [intOf]; omega
            · have EQ := half_end HIN2.out HH.out (.inl ⟨by omega, by omega⟩)
              rw [← HYY.out, HQ2.out] at EQ
              obtain ⟨pq, hpq⟩ : ∃ pq, qb * l = pq := ⟨_, rfl⟩
              rw [hpq] at hc2 PR
              have m1 : IntKind.u64.wrap (qb * l) = pq := by rw [hpq]; exact IntWalk.u64_in _ (by omega)
              have m2 : IntKind.u64.wrap (4294967296 * rb) = rb * 4294967296 := by rw [Int.mul_comm]; exact IntWalk.u64_in _ (by omega)
              have m3 : IntKind.u64.wrap (rb * 4294967296 + u0) = rb * 4294967296 + u0 := IntWalk.u64_in _ (by omega)
              have e2 : decide (rb * 4294967296 + u0 < pq) = false := decide_eq_false hc2
              have e2g : decide (pq > rb * 4294967296 + u0) = false := decide_eq_false hc2
              have EQ2 := EQ.symm
              clear EQ
              subst EQ2
              clear hpq HH
              have z1 : IntKind.u64.wrap (Q1 * 4294967296) = Q1 * 4294967296 := IntWalk.u64_in _ (by omega)
              have z2 : IntKind.u64.wrap (Q1 * 4294967296 + Q2) = A := by rw [HF.out]; exact IntWalk.u64_in _ (by have := HF.out; omega)
              go_wp2_with fail
              go_ret2
              exact ⟨rfl, _, rfl⟩
      · have e3 : decide (4294967296 ≤ ra + h) = false := decide_eq_false hb
        have e4 : decide (ra + h ≥ 4294967296) = false := decide_eq_false hb
        have k1 : IntKind.u64.wrap (qa - 1) = qa - 1 := IntWalk.u64_in _ (by omega)
        go_wp2_with fail
        go_roundw
        case rel => exact ⟨trivial, _, _, rfl, rfl, HL.out.1, by omega⟩
        case measure => simp only [intOf]; omega
    · have e1 : decide (4294967296 ≤ qa) = false := decide_eq_false hc1
      have e1g : decide (qa ≥ 4294967296) = false := decide_eq_false hc1
      have PR := half_prod qa0 (by omega) g2 g3
      by_cases hc2 : ra * 4294967296 + u1 < qa * l
      · have HL0 := half_low HIN.out HH.out (.inr hc2)
        obtain ⟨pq, hpq⟩ : ∃ pq, qa * l = pq := ⟨_, rfl⟩
        rw [hpq] at hc2 PR
        have m1 : IntKind.u64.wrap (qa * l) = pq := by rw [hpq]; exact IntWalk.u64_in _ (by omega)
        have m2 : IntKind.u64.wrap (4294967296 * ra) = ra * 4294967296 := by rw [Int.mul_comm]; exact IntWalk.u64_in _ (by omega)
        have m3 : IntKind.u64.wrap (ra * 4294967296 + u1) = ra * 4294967296 + u1 := IntWalk.u64_in _ (by omega)
        have e2 : decide (ra * 4294967296 + u1 < pq) = true := decide_eq_true hc2
        have e2g : decide (pq > ra * 4294967296 + u1) = true := decide_eq_true hc2
        clear hpq
        have HL := Lib.hid HL0
        have k2 : IntKind.u64.wrap (ra + h) = ra + h := IntWalk.u64_in _ (by omega)
        by_cases hb : 4294967296 ≤ ra + h
        · have e3 : decide (4294967296 ≤ ra + h) = true := decide_eq_true hb
          have e4 : decide (ra + h ≥ 4294967296) = true := decide_eq_true hb
          have k1 : IntKind.u64.wrap (qa - 1) = Q1 := by
            have := half_end HIN.out HL.out.1 (.inr hb)
            rw [← HYY.out, HQ1.out] at this
            rw [this]
            exact IntWalk.u64_in _ (by omega)
          clear HL HH
          have c1 : IntKind.u64.wrap (U * 4294967296) = M1 := c1h.out
          have c2 : IntKind.u64.wrap (M1 + u1) = M2 := c2h.out
          have c3 : IntKind.u64.wrap (Q1 * Y) = M3 := c3h.out
          have c4 : IntKind.u64.wrap (M2 - M3) = R1 := c4h.out
          have c5 : R1.tdiv h = q2 := c5h.out
          have c6 : IntKind.u64.wrap q2 = q2 := c6h.out
          have c7 : IntKind.u64.wrap (q2 * h) = P2 := c7h.out
          have c8 : IntKind.u64.wrap (R1 - P2) = r2 := c8h.out
          go_wp2_with fail
          go_loopw [18, 16] (fun qV rV w2 => w2 = wr ∧ ∃ (q r : Int), qV = .int .u64 q ∧ rV = .int .u64 r ∧ Half R1 u0 h l q r ∧ r < 4294967296) (fun qV _ _ => (intOf qV).toNat)
          case atStart => exact ⟨rfl, q2, r2, rfl, rfl, HSH2.out, by omega⟩
          case round =>
            clear c1 c2 c3 c4 c5 c6 c7 c8
            obtain ⟨rfl, qb, rb, rfl, rfl, hh2, rb1⟩ := hrel
            have HH := Lib.hid hh2
            have HRB := half_room HIN2.out hh2
            have rb0 := hh2.2.1
            have qb0 := hh2.2.2.1
            clear hh2
            by_cases hc1 : 4294967296 ≤ qb
            · have e1 : decide (4294967296 ≤ qb) = true := decide_eq_true hc1
              have e1g : decide (qb ≥ 4294967296) = true := decide_eq_true hc1
              have HL := Lib.hid (half_low HIN2.out HH.out (.inl hc1))
              have k2 : IntKind.u64.wrap (rb + h) = rb + h := IntWalk.u64_in _ (by omega)
              by_cases hb : 4294967296 ≤ rb + h
              · have e3 : decide (4294967296 ≤ rb + h) = true := decide_eq_true hb
                have e4 : decide (rb + h ≥ 4294967296) = true := decide_eq_true hb
                have k1 : IntKind.u64.wrap (qb - 1) = Q2 := by
                  have := half_end HIN2.out HL.out.1 (.inr hb)
                  rw [← HYY.out, HQ2.out] at this
                  rw [this]
                  exact IntWalk.u64_in _ (by omega)
                clear HL HH
                have z1 : IntKind.u64.wrap (Q1 * 4294967296) = Q1 * 4294967296 := IntWalk.u64_in _ (by omega)
                have z2 : IntKind.u64.wrap (Q1 * 4294967296 + Q2) = A := by rw [HF.out]; exact IntWalk.u64_in _ (by have := HF.out; omega)
                go_wp2_with fail
                go_ret2
                exact ⟨rfl, _, rfl⟩
              · have e3 : decide (4294967296 ≤ rb + h) = false := decide_eq_false hb
                have e4 : decide (rb + h ≥ 4294967296) = false := decide_eq_false hb
                have k1 : IntKind.u64.wrap (qb - 1) = qb - 1 := IntWalk.u64_in _ (by omega)
                go_wp2_with fail
                go_roundw
                case rel => exact ⟨trivial, _, _, rfl, rfl, HL.out.1, by omega⟩
                case measure => simp only [intOf]; omega
            · have e1 : decide (4294967296 ≤ qb) = false := decide_eq_false hc1
              have e1g : decide (qb ≥ 4294967296) = false := decide_eq_false hc1
              have PR := half_prod qb0 (by omega) g2 g3
              by_cases hc2 : rb * 4294967296 + u0 < qb * l
              · have HL0 := half_low HIN2.out HH.out (.inr hc2)
                obtain ⟨pq, hpq⟩ : ∃ pq, qb * l = pq := ⟨_, rfl⟩
                rw [hpq] at hc2 PR
                have m1 : IntKind.u64.wrap (qb * l) = pq := by rw [hpq]; exact IntWalk.u64_in _ (by omega)
                have m2 : IntKind.u64.wrap (4294967296 * rb) = rb * 4294967296 := by rw [Int.mul_comm]; exact IntWalk.u64_in _ (by omega)
                have m3 : IntKind.u64.wrap (rb * 4294967296 + u0) = rb * 4294967296 + u0 := IntWalk.u64_in _ (by omega)
                have e2 : decide (rb * 4294967296 + u0 < pq) = true := decide_eq_true hc2
                have e2g : decide (pq > rb * 4294967296 + u0) = true := decide_eq_true hc2
                clear hpq
                have HL := Lib.hid HL0
                have k2 : IntKind.u64.wrap (rb + h) = rb + h := IntWalk.u64_in _ (by omega)
                by_cases hb : 4294967296 ≤ rb + h
                · have e3 : decide (4294967296 ≤ rb + h) = true := decide_eq_true hb
                  have e4 : decide (rb + h ≥ 4294967296) = true := decide_eq_true hb
                  have k1 : IntKind.u64.wrap (qb - 1) = Q2 := by
                    have := half_end HIN2.out HL.out.1 (.inr hb)
                    rw [← HYY.out, HQ2.out] at this
                    rw [this]
                    exact IntWalk.u64_in _ (by omega)
                  clear HL HH
                  have z1 : IntKind.u64.wrap (Q1 * 4294967296) = Q1 * 4294967296 := IntWalk.u64_in _ (by omega)
                  have z2 : IntKind.u64.wrap (Q1 * 4294967296 + Q2) = A := by rw [HF.out]; exact IntWalk.u64_in _ (by have := HF.out; omega)
                  go_wp2_with fail
                  go_ret2
                  exact ⟨rfl, _, rfl⟩
                · have e3 : decide (4294967296 ≤ rb + h) = false := decide_eq_false hb
                  have e4 : decide (rb + h ≥ 4294967296) = false := decide_eq_false hb
                  have k1 : IntKind.u64.wrap (qb - 1) = qb - 1 := IntWalk.u64_in _ (by omega)
                  go_wp2_with fail
                  go_roundw
                  case rel => exact ⟨trivial, _, _, rfl, rfl, HL.out.1, by omega⟩
                  case measure => simp only [intOf]; omega
              · have EQ := half_end HIN2.out HH.out (.inl ⟨by omega, by omega⟩)
                rw [← HYY.out, HQ2.out] at EQ
                obtain ⟨pq, hpq⟩ : ∃ pq, qb * l = pq := ⟨_, rfl⟩
                rw [hpq] at hc2 PR
                have m1 : IntKind.u64.wrap (qb * l) = pq := by rw [hpq]; exact IntWalk.u64_in _ (by omega)
                have m2 : IntKind.u64.wrap (4294967296 * rb) = rb * 4294967296 := by rw [Int.mul_comm]; exact IntWalk.u64_in _ (by omega)
                have m3 : IntKind.u64.wrap (rb * 4294967296 + u0) = rb * 4294967296 + u0 := IntWalk.u64_in _ (by omega)
                have e2 : decide (rb * 4294967296 + u0 < pq) = false := decide_eq_false hc2
                have e2g : decide (pq > rb * 4294967296 + u0) = false := decide_eq_false hc2
                have EQ2 := EQ.symm
                clear EQ
                subst EQ2
                clear hpq HH
                have z1 : IntKind.u64.wrap (Q1 * 4294967296) = Q1 * 4294967296 := IntWalk.u64_in _ (by omega)
                have z2 : IntKind.u64.wrap (Q1 * 4294967296 + Q2) = A := by rw [HF.out]; exact IntWalk.u64_in _ (by have := HF.out; omega)
                go_wp2_with fail
                go_ret2
                exact ⟨rfl, _, rfl⟩
        · have e3 : decide (4294967296 ≤ ra + h) = false := decide_eq_false hb
          have e4 : decide (ra + h ≥ 4294967296) = false := decide_eq_false hb
          have k1 : IntKind.u64.wrap (qa - 1) = qa - 1 := IntWalk.u64_in _ (by omega)
          go_wp2_with fail
          go_roundw
          case rel => exact ⟨trivial, _, _, rfl, rfl, HL.out.1, by omega⟩
          case measure => simp only [intOf]; omega
      · have EQ := half_end HIN.out HH.out (.inl ⟨by omega, by omega⟩)
        rw [← HYY.out, HQ1.out] at EQ
        obtain ⟨pq, hpq⟩ : ∃ pq, qa * l = pq := ⟨_, rfl⟩
        rw [hpq] at hc2 PR
        have m1 : IntKind.u64.wrap (qa * l) = pq := by rw [hpq]; exact IntWalk.u64_in _ (by omega)
        have m2 : IntKind.u64.wrap (4294967296 * ra) = ra * 4294967296 := by rw [Int.mul_comm]; exact IntWalk.u64_in _ (by omega)
        have m3 : IntKind.u64.wrap (ra * 4294967296 + u1) = ra * 4294967296 + u1 := IntWalk.u64_in _ (by omega)
        have e2 : decide (ra * 4294967296 + u1 < pq) = false := decide_eq_false hc2
        have e2g : decide (pq > ra * 4294967296 + u1) = false := decide_eq_false hc2
        have EQ2 := EQ.symm
        clear EQ
        subst EQ2
        clear hpq HH
        have c1 : IntKind.u64.wrap (U * 4294967296) = M1 := c1h.out
        have c2 : IntKind.u64.wrap (M1 + u1) = M2 := c2h.out
        have c3 : IntKind.u64.wrap (Q1 * Y) = M3 := c3h.out
        have c4 : IntKind.u64.wrap (M2 - M3) = R1 := c4h.out
        have c5 : R1.tdiv h = q2 := c5h.out
        have c6 : IntKind.u64.wrap q2 = q2 := c6h.out
        have c7 : IntKind.u64.wrap (q2 * h) = P2 := c7h.out
        have c8 : IntKind.u64.wrap (R1 - P2) = r2 := c8h.out
        go_wp2_with fail
        go_loopw [18, 16] (fun qV rV w2 => w2 = wr ∧ ∃ (q r : Int), qV = .int .u64 q ∧ rV = .int .u64 r ∧ Half R1 u0 h l q r ∧ r < 4294967296) (fun qV _ _ => (intOf qV).toNat)
        case atStart => exact ⟨rfl, q2, r2, rfl, rfl, HSH2.out, by omega⟩
        case round =>
          clear c1 c2 c3 c4 c5 c6 c7 c8
          obtain ⟨rfl, qb, rb, rfl, rfl, hh2, rb1⟩ := hrel
          have HH := Lib.hid hh2
          have HRB := half_room HIN2.out hh2
          have rb0 := hh2.2.1
          have qb0 := hh2.2.2.1
          clear hh2
          by_cases hc1 : 4294967296 ≤ qb
          · have e1 : decide (4294967296 ≤ qb) = true := decide_eq_true hc1
            have e1g : decide (qb ≥ 4294967296) = true := decide_eq_true hc1
            have HL := Lib.hid (half_low HIN2.out HH.out (.inl hc1))
            have k2 : IntKind.u64.wrap (rb + h) = rb + h := IntWalk.u64_in _ (by omega)
            by_cases hb : 4294967296 ≤ rb + h
            · have e3 : decide (4294967296 ≤ rb + h) = true := decide_eq_true hb
              have e4 : decide (rb + h ≥ 4294967296) = true := decide_eq_true hb
              have k1 : IntKind.u64.wrap (qb - 1) = Q2 := by
                have := half_end HIN2.out HL.out.1 (.inr hb)
                rw [← HYY.out, HQ2.out] at this
                rw [this]
                exact IntWalk.u64_in _ (by omega)
              clear HL HH
              have z1 : IntKind.u64.wrap (Q1 * 4294967296) = Q1 * 4294967296 := IntWalk.u64_in _ (by omega)
              have z2 : IntKind.u64.wrap (Q1 * 4294967296 + Q2) = A := by rw [HF.out]; exact IntWalk.u64_in _ (by have := HF.out; omega)
              go_wp2_with fail
              go_ret2
              exact ⟨rfl, _, rfl⟩
            · have e3 : decide (4294967296 ≤ rb + h) = false := decide_eq_false hb
              have e4 : decide (rb + h ≥ 4294967296) = false := decide_eq_false hb
              have k1 : IntKind.u64.wrap (qb - 1) = qb - 1 := IntWalk.u64_in _ (by omega)
              go_wp2_with fail
              go_roundw
              case rel => exact ⟨trivial, _, _, rfl, rfl, HL.out.1, by omega⟩
              case measure => simp only [intOf]; omega
          · have e1 : decide (4294967296 ≤ qb) = false := decide_eq_false hc1
            have e1g : decide (qb ≥ 4294967296) = false := decide_eq_false hc1
            have PR := half_prod qb0 (by omega) g2 g3
            by_cases hc2 : rb * 4294967296 + u0 < qb * l
            · have HL0 := half_low HIN2.out HH.out (.inr hc2)
              obtain ⟨pq, hpq⟩ : ∃ pq, qb * l = pq := ⟨_, rfl⟩
              rw [hpq] at hc2 PR
              have m1 : IntKind.u64.wrap (qb * l) = pq := by rw [hpq]; exact IntWalk.u64_in _ (by omega)
              have m2 : IntKind.u64.wrap (4294967296 * rb) = rb * 4294967296 := by rw [Int.mul_comm]; exact IntWalk.u64_in _ (by omega)
              have m3 : IntKind.u64.wrap (rb * 4294967296 + u0) = rb * 4294967296 + u0 := IntWalk.u64_in _ (by omega)
              have e2 : decide (rb * 4294967296 + u0 < pq) = true := decide_eq_true hc2
              have e2g : decide (pq > rb * 4294967296 + u0) = true := decide_eq_true hc2
              clear hpq
              have HL := Lib.hid HL0
              have k2 : IntKind.u64.wrap (rb + h) = rb + h := IntWalk.u64_in _ (by omega)
              by_cases hb : 4294967296 ≤ rb + h
              · have e3 : decide (4294967296 ≤ rb + h) = true := decide_eq_true hb
                have e4 : decide (rb + h ≥ 4294967296) = true := decide_eq_true hb
                have k1 : IntKind.u64.wrap (qb - 1) = Q2 := by
                  have := half_end HIN2.out HL.out.1 (.inr hb)
                  rw [← HYY.out, HQ2.out] at this
                  rw [this]
                  exact IntWalk.u64_in _ (by omega)
                clear HL HH
                have z1 : IntKind.u64.wrap (Q1 * 4294967296) = Q1 * 4294967296 := IntWalk.u64_in _ (by omega)
                have z2 : IntKind.u64.wrap (Q1 * 4294967296 + Q2) = A := by rw [HF.out]; exact IntWalk.u64_in _ (by have := HF.out; omega)
                go_wp2_with fail
                go_ret2
                exact ⟨rfl, _, rfl⟩
              · have e3 : decide (4294967296 ≤ rb + h) = false := decide_eq_false hb
                have e4 : decide (rb + h ≥ 4294967296) = false := decide_eq_false hb
                have k1 : IntKind.u64.wrap (qb - 1) = qb - 1 := IntWalk.u64_in _ (by omega)
                go_wp2_with fail
                go_roundw
                case rel => exact ⟨trivial, _, _, rfl, rfl, HL.out.1, by omega⟩
                case measure => simp only [intOf]; omega
            · have EQ := half_end HIN2.out HH.out (.inl ⟨by omega, by omega⟩)
              rw [← HYY.out, HQ2.out] at EQ
              obtain ⟨pq, hpq⟩ : ∃ pq, qb * l = pq := ⟨_, rfl⟩
              rw [hpq] at hc2 PR
              have m1 : IntKind.u64.wrap (qb * l) = pq := by rw [hpq]; exact IntWalk.u64_in _ (by omega)
              have m2 : IntKind.u64.wrap (4294967296 * rb) = rb * 4294967296 := by rw [Int.mul_comm]; exact IntWalk.u64_in _ (by omega)
              have m3 : IntKind.u64.wrap (rb * 4294967296 + u0) = rb * 4294967296 + u0 := IntWalk.u64_in _ (by omega)
              have e2 : decide (rb * 4294967296 + u0 < pq) = false := decide_eq_false hc2
              have e2g : decide (pq > rb * 4294967296 + u0) = false := decide_eq_false hc2
              have EQ2 := EQ.symm
              clear EQ
              subst EQ2
              clear hpq HH
              have z1 : IntKind.u64.wrap (Q1 * 4294967296) = Q1 * 4294967296 := IntWalk.u64_in _ (by omega)
              have z2 : IntKind.u64.wrap (Q1 * 4294967296 + Q2) = A := by rw [HF.out]; exact IntWalk.u64_in _ (by have := HF.out; omega)
              go_wp2_with fail
              go_ret2
              exact ⟨rfl, _, rfl⟩

end Go.Proofs.YtdhablbfblkagaaDoor

namespace Go.Proofs.YtdhablbfblkagaaDoor
open Go.RowKit
set_option linter.unusedVariables false

theorem joined_any (x y : Int) (w : World) (x0 : 0 ≤ x) (x1 : x ≤ 4294967295) (y0 : 0 ≤ y) (y1 : y ≤ 4294967295) :
    Calls Tryd.prog 82 #[.int .u32 x, .int .u32 y] w fun e w' => e = .returned (.int .u64 (x * 4294967296 + y)) ∧ w' = w := by
  have k1 : IntKind.u64.wrap x = x := IntWalk.u64_in _ (by omega)
  have k2 : IntKind.u64.wrap y = y := IntWalk.u64_in _ (by omega)
  have k3 : IntKind.u64.wrap (x * 4294967296) = x * 4294967296 := IntWalk.u64_in _ (by omega)
  have k4 : bits .or .u64 (x * 4294967296) y = x * 4294967296 + y := or_up (x := x) (b := y) 32 x0 y0 (by omega) (by omega)
  go_enter Tryd.func82, Tryd.ntmps82
  go_wp2_with fail
  go_ret
  exact ⟨rfl, rfl⟩

set_option maxHeartbeats 1000000 in
set_option maxRecDepth 100000 in
theorem div32_any (hi lo m : Int) (w : World) (h0 : 0 ≤ hi) (h1 : hi < m) (l0 : 0 ≤ lo) (l1 : lo ≤ 4294967295) (m1 : m ≤ 4294967295) :
    Calls Tryd.prog 73 #[.int .u32 hi, .int .u32 lo, .int .u32 m] w fun e w' => e = .returned (.tuple #[.int .u32 ((hi * 4294967296 + lo) / m), .int .u32 ((hi * 4294967296 + lo) % m)]) ∧ Below w.heap.size w w' := by
  have t1 : (m != 0) = true := by simp; omega
  have t2 : decide (m ≤ hi) = false := by simp; omega
  have ne : ¬ m = 0 := by omega
  have k1 : IntKind.u64.wrap hi = hi := IntWalk.u64_in _ (by omega)
  have k2 : IntKind.u64.wrap lo = lo := IntWalk.u64_in _ (by omega)
  have k3 : IntKind.u64.wrap (hi * 4294967296) = hi * 4294967296 := IntWalk.u64_in _ (by omega)
  have k4 : bits .or .u64 (hi * 4294967296) lo = hi * 4294967296 + lo := or_up (x := hi) (b := lo) 32 h0 l0 (by omega) (by omega)
  have k5 : IntKind.u64.wrap m = m := IntWalk.u64_in _ (by omega)
  obtain ⟨T, hT⟩ : ∃ T, hi * 4294967296 + lo = T := ⟨_, rfl⟩
  rw [hT] at k4 ⊢
  have T0 : 0 ≤ T := by omega
  have q0 : 0 ≤ T / m := Int.ediv_nonneg T0 (by omega)
  have q1 : T / m < 4294967296 := Int.ediv_lt_of_lt_mul (by omega) (by omega)
  have r0 : 0 ≤ T % m := Int.emod_nonneg _ ne
  have r1 : T % m < m := Int.emod_lt_of_pos _ (by omega)
  have e1 : T.tdiv m = T / m := Int.tdiv_eq_ediv_of_nonneg T0
  have e2 : T.tmod m = T % m := Int.tmod_eq_emod_of_nonneg T0
  have k6 : IntKind.u64.wrap (T / m) = T / m := IntWalk.u64_in _ (by omega)
  have k7 : IntKind.u32.wrap (T / m) = T / m := IntWalk.u32_in _ (by omega)
  have k8 : IntKind.u64.wrap (T % m) = T % m := IntWalk.u64_in _ (by omega)
  have k9 : IntKind.u32.wrap (T % m) = T % m := IntWalk.u32_in _ (by omega)
  clear hT q0 q1 r0 r1 T0
  go_enter Tryd.func73, Tryd.ntmps73
  go_wp2_with fail
  go_quiet (fail)
  go_wp2_with fail
  go_ret2
  exact ⟨rfl, drewN_below w nq⟩

/-- The library's Div64, whatever the upper half is. -/
theorem div64_all (hi lo y : Int) (w : World) (h0 : 0 ≤ hi) (h1 : hi < y) (l0 : 0 ≤ lo) (l1 : lo < 18446744073709551616) (y1 : y < 18446744073709551616) :
    Calls Tryd.prog 81 #[.int .u64 hi, .int .u64 lo, .int .u64 y] w fun e w' => (∃ r, e = .returned (.tuple #[.int .u64 ((hi * 18446744073709551616 + lo) / y), .int .u64 r])) ∧ Below w.heap.size w w' := by
  rcases (show hi = 0 ∨ 0 < hi by omega) with rfl | h
  · refine (div64_low lo y w l0 l1 (by omega) y1).mono ?_
    rintro e w' ⟨n, rfl, r, rfl⟩
    exact ⟨⟨r, by rw [Int.zero_mul, Int.zero_add]⟩, drewN_below w n⟩
  · refine (div64_any hi lo y w h h1 l0 l1 y1).mono ?_
    rintro e w' ⟨rfl, r, rfl⟩
    exact ⟨⟨r, rfl⟩, Below.refl _ _⟩

end Go.Proofs.YtdhablbfblkagaaDoor
