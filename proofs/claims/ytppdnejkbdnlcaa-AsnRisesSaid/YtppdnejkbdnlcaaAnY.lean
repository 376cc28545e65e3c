/-
  The walks of AsnOne and AsnRises, from premises, for stage 12 (asn).
-/
import Derived.Test.YtppdnejkbdnlcaaAnK
namespace Go.Proofs.Ytppdnejkbdnlcaa
open Go.RowKit
set_option linter.unusedVariables false

set_option maxHeartbeats 4000000 in
set_option maxRecDepth 100000 in
theorem oneR_any (PW : PkWithin) (PH : PkHas) (PM : PkMany) (PA : PkAwake) (a b : Option Addr) (n m ca cb q : Nat) (L M : List (Nat × Nat)) (w : World) (ha : RgArg w a n ca L) (hb : RgArg w b m cb M) (hq : q < 4294967296) :
    Calls Try.prog 6 #[.slice a n ca, .slice b m cb, .int .u32 (q : Int)] w fun e w' => e = .returned (.bool true) ∧ Below w.heap.size w w' := by
  have UP := Lib.hid (PA w)
  have RA0 := Lib.hid ha
  have RB0 := Lib.hid hb
  have HQ := Lib.hid hq
  have LL := Lib.hid ha.1.1
  have LM := Lib.hid hb.1.1
  have EO := Lib.hid (inN_one q L)
  have EA := Lib.hid (inN_app L M)
  have EH := Lib.hid (has_app L M q)
  have MB1 := Lib.hid (many_le ha.under)
  have MB2 := Lib.hid (many_le hb.under)
  have MO := Lib.hid (many_app ha.under hb.under)
  have OK : Hid (OkR (q, q)) := Lib.hid ⟨hq, hq⟩
  have B0 : Hid (Below w.heap.size w w) := Lib.hid (Below.refl _ _)
  clear ha hb hq
  go_enter Try.func6, Try.ntmps6
  have h40 : (n > 60) ∨ (n ≤ 60 ∧ m > 60) ∨ (n ≤ 60 ∧ m ≤ 60) := by omega
  rcases h40 with h | ⟨h, h'⟩ | ⟨h, h'⟩
  · have t1 : decide ((60 : Int) < (n : Int)) = true := decide_eq_true (by omega)
    go_wp2_with (go_at_call 7; refine UP.out.mono ?_; rintro r w1 ⟨rfl, hb1⟩)
    go_ret
    exact ⟨rfl, hb1⟩
  · have t1 : decide ((60 : Int) < (n : Int)) = false := decide_eq_false (by omega)
    have t2 : decide ((60 : Int) < (m : Int)) = true := decide_eq_true (by omega)
    go_wp2_with (go_at_call 7; refine UP.out.mono ?_; rintro r w1 ⟨rfl, hb1⟩)
    go_ret
    exact ⟨rfl, hb1⟩
  · have t1 : decide ((60 : Int) < (n : Int)) = false := decide_eq_false (by omega)
    have t2 : decide ((60 : Int) < (m : Int)) = false := decide_eq_false (by omega)
    have QA : Hid (n ≤ 60) := Lib.hid h
    have QB : Hid (m ≤ 60) := Lib.hid h'
    go_upto_region 5 with (first
      | (go_at_call 7
         refine UP.out.mono ?_
         rintro r w1 ⟨rfl, hb⟩
         have RA1 := Lib.hid (RA0.out.below hb)
         have RB1 := Lib.hid (RB0.out.below hb)
         have B1 := Lib.hid (Below.step B0.out hb)
         clear hb UP B0 RA0 RB0)
      | ((with_reducible refine build_range_at 20 21 (q, q) ?_ ?_ ?_); (· rfl); (· rfl))
      | ((with_reducible refine slice_range_at 22 (q, q) ?_ ?_); (· rfl)))
    have RO4 : Hid (RgArg (w1.alloc (.cells (rcells (q, q)) 33)) (some ⟨w1.heap.size, 0, none⟩) 1 1 [(q, q)]) := Lib.hid ⟨rg_one w1 OK.out, fun e => by cases e⟩
    have RA4 := Lib.hid (RA1.out.below (boxR_below w1 (.cells (rcells (q, q)) 33)))
    have RB4 := Lib.hid (RB1.out.below (boxR_below w1 (.cells (rcells (q, q)) 33)))
    have B4 := Lib.hid (Below.step B1.out (boxR_below w1 (.cells (rcells (q, q)) 33)))
    clear RA1 RB1 B1
    obtain ⟨g1, hg1⟩ : ∃ g1, w1.heap.size = g1 := ⟨_, rfl⟩
    generalize w1.alloc (.cells (rcells (q, q)) 33) = w4 at *
    rw [hg1] at RO4
    simp only [hg1]
    clear hg1
    have HA1 := Lib.hid RA4.out.2
    have HB1 := Lib.hid RB4.out.2
    have B4' : Hid (Below w4.heap.size w4 w4) := Lib.hid (Below.refl _ _)
    have LA : Hid (([] : List (Nat × Nat)).length + n ≤ 100000) := Lib.hid (by have := QA.out; simp only [List.length_nil]; omega)
    have LB : Hid (([] ++ L).length + m ≤ 100000) := Lib.hid (by have := QA.out; have := QB.out; have := LL.out; rw [List.nil_append]; omega)
    go_upto_region 6 with (first
      | ((with_reducible refine slice0_range_at (W0 := w4) B4'.out ?_); intro V5 w5 ho5; have O5 := Lib.hid ho5; clear ho5)
      | (at_builtin; go_must (first
           | (refine rg_append (W0 := w4) (L := []) (zs := L) rfl _ _ rfl rfl O5.out rfl (RA4.out.below O5.out.2.1).1 HA1.out LA.out ?_; intro V6 w6 ho6; have O6 := Lib.hid ho6; clear ho6 O5)
           | (refine rg_append (W0 := w4) (L := [] ++ L) (zs := M) rfl _ _ rfl rfl O6.out rfl (RB4.out.below O6.out.2.1).1 HB1.out LB.out ?_; intro V7 w7 ho7; have O7 := Lib.hid ho7; clear ho7 O6))))
    have ho7 := O7.out
    rw [List.nil_append] at ho7
    obtain ⟨aX, cX, rfl, hx⟩ := ho7.arg
    have RX6 := Lib.hid hx
    have RA6 := Lib.hid (RA4.out.below ho7.2.1)
    have RB6 := Lib.hid (RB4.out.below ho7.2.1)
    have RO6 := Lib.hid (RO4.out.below ho7.2.1)
    have B6 := Lib.hid (Below.step B4.out ho7.2.1)
    have QX : Hid ((L ++ M).length ≤ 10000) := Lib.hid (by rw [List.length_append]; have := LL.out; have := LM.out; have := QA.out; have := QB.out; omega)
    have QA2 : Hid (n ≤ 10000) := Lib.hid (by omega)
    have QB2 : Hid (m ≤ 10000) := Lib.hid (by omega)
    clear ho7 hx O7 RA4 RB4 RO4 B4 B4' LA LB HA1 HB1 LL LM QA QB h h'
    have C1 : Hid (∀ W, RgArg W (some ⟨g1, 0, none⟩) 1 1 [(q, q)] → RgArg W a n ca L → Calls Try.prog 11 #[.slice (some ⟨g1, 0, none⟩) 1 1, .slice a n ca] W fun e w' => e = .returned (.bool (hasZ L q)) ∧ Below W.heap.size W w') := Lib.hid (fun W h g => by have := PW (some ⟨g1, 0, none⟩) a 1 n 1 ca _ L W h (by omega) g QA2.out; rwa [EO.out] at this)
    have C2 := Lib.hid (fun W h => PH a n ca q L W h QA2.out HQ.out)
    have C4 := Lib.hid (fun W h => PH a n ca q L W h QA2.out HQ.out)
    have C5 := Lib.hid (fun W h => PH b m cb q M W h QB2.out HQ.out)
    have C3 : Hid (∀ W, RgArg W aX (L ++ M).length cX (L ++ M) → Calls Try.prog 13 #[.slice aX (L ++ M).length cX, .int .u32 (q : Int)] W fun e w' => e = .returned (.bool (hasZ L q || hasZ M q)) ∧ Below W.heap.size W w') := Lib.hid (fun W h => by have := PH aX _ cX q _ W h QX.out HQ.out; rwa [EH.out] at this)
    have C6 : Hid (∀ W, RgArg W a n ca L → RgArg W aX (L ++ M).length cX (L ++ M) → Calls Try.prog 11 #[.slice a n ca, .slice aX (L ++ M).length cX] W fun e w' => e = .returned (.bool true) ∧ Below W.heap.size W w') := Lib.hid (fun W h g => by have := PW a aX n _ ca cX L _ W h QA2.out g QX.out; rwa [EA.out] at this)
    have C7 := Lib.hid (fun W h => PM aX _ cX (L ++ M) W h QX.out)
    have C8 := Lib.hid (fun W h => PM a n ca L W h QA2.out)
    have C9 := Lib.hid (fun W h => PM b m cb M W h QB2.out)
    clear PW PH PM PA EO EA EH
    generalize hasZ L q = h1 at *
    generalize hasZ M q = h2 at *
    generalize manyN L = m1 at *
    generalize manyN M = m2 at *
    generalize manyN (L ++ M) = m3 at *
    generalize L ++ M = X at *
    generalize X.length = xl at *
    have w1' : IntKind.u64.wrap ((m1 : Int) + (m2 : Int)) = (m1 : Int) + (m2 : Int) := u64_in (by omega) (by have := MB1.out; have := MB2.out; omega)
    have tm : decide ((m3 : Int) ≤ (m1 : Int) + (m2 : Int)) = true := decide_eq_true (by have := MO.out; omega)
    have tm' : decide (m3 ≤ m1 + m2) = true := decide_eq_true MO.out
    cases h1 with
    | true =>
      clear C5
      go_wp2_with (first
        | (go_at_call 11
           refine (C1.out _ RO6.out RA6.out).mono ?_
           rintro r w7 ⟨rfl, hb⟩
           have RA7 := Lib.hid (RA6.out.below hb)
           have RB7 := Lib.hid (RB6.out.below hb)
           have RX7 := Lib.hid (RX6.out.below hb)
           have B7 := Lib.hid (Below.step B6.out hb)
           clear hb RA6 RB6 RX6 B6 C1 RO6)
        | (go_at_call 13
           refine (C2.out _ RA7.out).mono ?_
           rintro r w8 ⟨rfl, hb⟩
           have RA8 := Lib.hid (RA7.out.below hb)
           have RB8 := Lib.hid (RB7.out.below hb)
           have RX8 := Lib.hid (RX7.out.below hb)
           have B8 := Lib.hid (Below.step B7.out hb)
           clear hb RA7 RB7 RX7 B7 C2)
        | (go_at_call 13
           refine (C3.out _ RX8.out).mono ?_
           rintro r w9 ⟨rfl, hb⟩
           have RA9 := Lib.hid (RA8.out.below hb)
           have RB9 := Lib.hid (RB8.out.below hb)
           have RX9 := Lib.hid (RX8.out.below hb)
           have B9 := Lib.hid (Below.step B8.out hb)
           clear hb RA8 RB8 RX8 B8 C3)
        | (go_at_call 13
           refine (C4.out _ RA9.out).mono ?_
           rintro r w10 ⟨rfl, hb⟩
           have RA10 := Lib.hid (RA9.out.below hb)
           have RB10 := Lib.hid (RB9.out.below hb)
           have RX10 := Lib.hid (RX9.out.below hb)
           have B10 := Lib.hid (Below.step B9.out hb)
           clear hb RA9 RB9 RX9 B9 C4)
        | (go_at_call 11
           refine (C6.out _ RA10.out RX10.out).mono ?_
           rintro r w11 ⟨rfl, hb⟩
           have RA11 := Lib.hid (RA10.out.below hb)
           have RB11 := Lib.hid (RB10.out.below hb)
           have RX11 := Lib.hid (RX10.out.below hb)
           have B11 := Lib.hid (Below.step B10.out hb)
           clear hb RA10 RB10 RX10 B10 C6)
        | (go_at_call 15
           refine (C7.out _ RX11.out).mono ?_
           rintro r w12 ⟨rfl, hb⟩
           have RA12 := Lib.hid (RA11.out.below hb)
           have RB12 := Lib.hid (RB11.out.below hb)
           have B12 := Lib.hid (Below.step B11.out hb)
           clear hb RA11 RB11 B11 C7 RX11)
        | (go_at_call 15
           refine (C8.out _ RA12.out).mono ?_
           rintro r w13 ⟨rfl, hb⟩
           have RB13 := Lib.hid (RB12.out.below hb)
           have B13 := Lib.hid (Below.step B12.out hb)
           clear hb RB12 B12 C8)
        | (go_at_call 15
           refine (C9.out _ RB13.out).mono ?_
           rintro r w14 ⟨rfl, hb⟩
           have B14 := Lib.hid (Below.step B13.out hb)
           clear hb  B13 C9 RB13))
      go_ret
      exact ⟨rfl, B14.out⟩
    | false =>
      go_wp2_with (first
        | (go_at_call 11
           refine (C1.out _ RO6.out RA6.out).mono ?_
           rintro r w7 ⟨rfl, hb⟩
           have RA7 := Lib.hid (RA6.out.below hb)
           have RB7 := Lib.hid (RB6.out.below hb)
           have RX7 := Lib.hid (RX6.out.below hb)
           have B7 := Lib.hid (Below.step B6.out hb)
           clear hb RA6 RB6 RX6 B6 C1 RO6)
        | (go_at_call 13
           refine (C2.out _ RA7.out).mono ?_
           rintro r w8 ⟨rfl, hb⟩
           have RA8 := Lib.hid (RA7.out.below hb)
           have RB8 := Lib.hid (RB7.out.below hb)
           have RX8 := Lib.hid (RX7.out.below hb)
           have B8 := Lib.hid (Below.step B7.out hb)
           clear hb RA7 RB7 RX7 B7 C2)
        | (go_at_call 13
           refine (C3.out _ RX8.out).mono ?_
           rintro r w9 ⟨rfl, hb⟩
           have RA9 := Lib.hid (RA8.out.below hb)
           have RB9 := Lib.hid (RB8.out.below hb)
           have RX9 := Lib.hid (RX8.out.below hb)
           have B9 := Lib.hid (Below.step B8.out hb)
           clear hb RA8 RB8 RX8 B8 C3)
        | (go_at_call 13
           refine (C4.out _ RA9.out).mono ?_
           rintro r w10 ⟨rfl, hb⟩
           have RA10 := Lib.hid (RA9.out.below hb)
           have RB10 := Lib.hid (RB9.out.below hb)
           have RX10 := Lib.hid (RX9.out.below hb)
           have B10 := Lib.hid (Below.step B9.out hb)
           clear hb RA9 RB9 RX9 B9 C4)
        | (go_at_call 13
           refine (C5.out _ RB10.out).mono ?_
           rintro r w11 ⟨rfl, hb⟩
           have RA11 := Lib.hid (RA10.out.below hb)
           have RB11 := Lib.hid (RB10.out.below hb)
           have RX11 := Lib.hid (RX10.out.below hb)
           have B11 := Lib.hid (Below.step B10.out hb)
           clear hb RA10 RB10 RX10 B10 C5)
        | (go_at_call 11
           refine (C6.out _ RA11.out RX11.out).mono ?_
           rintro r w12 ⟨rfl, hb⟩
           have RA12 := Lib.hid (RA11.out.below hb)
           have RB12 := Lib.hid (RB11.out.below hb)
           have RX12 := Lib.hid (RX11.out.below hb)
           have B12 := Lib.hid (Below.step B11.out hb)
           clear hb RA11 RB11 RX11 B11 C6)
        | (go_at_call 15
           refine (C7.out _ RX12.out).mono ?_
           rintro r w13 ⟨rfl, hb⟩
           have RA13 := Lib.hid (RA12.out.below hb)
           have RB13 := Lib.hid (RB12.out.below hb)
           have B13 := Lib.hid (Below.step B12.out hb)
           clear hb RA12 RB12 B12 C7 RX12)
        | (go_at_call 15
           refine (C8.out _ RA13.out).mono ?_
           rintro r w14 ⟨rfl, hb⟩
           have RB14 := Lib.hid (RB13.out.below hb)
           have B14 := Lib.hid (Below.step B13.out hb)
           clear hb RB13 B13 C8)
        | (go_at_call 15
           refine (C9.out _ RB14.out).mono ?_
           rintro r w15 ⟨rfl, hb⟩
           have B15 := Lib.hid (Below.step B14.out hb)
           clear hb  B14 C9 RB14))
      go_ret
      exact ⟨rfl, B15.out⟩

set_option maxHeartbeats 4000000 in
set_option maxRecDepth 100000 in
theorem risesR_any (PJ : PkJoin) (PH : PkHas) (PM : PkMany) (PA : PkAwake) (a : Option Addr) (n ca q : Nat) (L : List (Nat × Nat)) (w : World) (ha : RgArg w a n ca L) (hq : q < 4294967296) :
    Calls Try.prog 4 #[.slice a n ca, .int .u32 (q : Int)] w fun e w' => e = .returned (.bool true) ∧ Below w.heap.size w w' := by
  have UP := Lib.hid (PA w)
  have RA0 := Lib.hid ha
  have HQ := Lib.hid hq
  have LJ := Lib.hid (join_len' L)
  have LL := Lib.hid ha.1.1
  have NJ := Lib.hid (norm_join L)
  have JT : Hid (joinZ (joinZ L) = joinZ L) := Lib.hid (join_norm (norm_join L))
  have ES := Lib.hid (eqLR_self (joinZ L))
  have EH := Lib.hid (has_join L q)
  have EM := Lib.hid (many_join L)
  have B0 : Hid (Below w.heap.size w w) := Lib.hid (Below.refl _ _)
  have CS := Lib.hid (fun (a b : Option Addr) (n m c d : Nat) (X Y : List (Nat × Nat)) W (h : RgArg W a n c X) (hn : n ≤ 10000) (g : RgArg W b m d Y) => rsame_any a b n c m d X Y W h (by omega) g)
  clear ha hq
  go_enter Try.func4, Try.ntmps4
  by_cases h : n > 100
  · have t1 : decide ((100 : Int) < (n : Int)) = true := decide_eq_true (by omega)
    go_wp2_with (go_at_call 7; refine UP.out.mono ?_; rintro r w1 ⟨rfl, hb1⟩)
    go_ret
    exact ⟨rfl, hb1⟩
  · have t1 : decide ((100 : Int) < (n : Int)) = false := decide_eq_false (by omega)
    have QA : Hid (n ≤ 10000) := Lib.hid (by omega)
    have QJ : Hid ((joinZ L).length ≤ 10000) := Lib.hid (by have := LJ.out; have := LL.out; omega)
    have QN : Hid ((joinZ L).length ≤ n) := Lib.hid (by have := LJ.out; have := LL.out; omega)
    have D1 := Lib.hid (fun W h => PJ a n ca L W h QA.out)
    have D2 : Hid (∀ (aJ : Option Addr) (cJ : Nat) W, RgArg W aJ (joinZ L).length cJ (joinZ L) → Calls Try.prog 9 #[.slice aJ (joinZ L).length cJ] W (GivesRg (joinZ L) W)) := Lib.hid (fun aJ cJ W h => by have := PJ aJ _ cJ _ W h QJ.out; rwa [JT.out] at this)
    have C6 : Hid (∀ (aJ : Option Addr) (cJ : Nat) W, RgArg W aJ (joinZ L).length cJ (joinZ L) → Calls Try.prog 13 #[.slice aJ (joinZ L).length cJ, .int .u32 (q : Int)] W fun e w' => e = .returned (.bool (hasZ L q)) ∧ Below W.heap.size W w') := Lib.hid (fun aJ cJ W h => by have := PH aJ _ cJ q _ W h QJ.out HQ.out; rwa [EH.out] at this)
    have C7 := Lib.hid (fun W h => PH a n ca q L W h QA.out HQ.out)
    have C8 : Hid (∀ (aJ : Option Addr) (cJ : Nat) W, RgArg W aJ (joinZ L).length cJ (joinZ L) → Calls Try.prog 15 #[.slice aJ (joinZ L).length cJ] W fun e w' => e = .returned (.int .u64 (manyN L : Int)) ∧ Below W.heap.size W w') := Lib.hid (fun aJ cJ W h => by have := PM aJ _ cJ _ W h QJ.out; rwa [EM.out] at this)
    have C9 := Lib.hid (fun W h => PM a n ca L W h QA.out)
    clear LJ LL h PJ PH PM PA JT EH EM
    generalize joinZ L = J at *
    generalize hasZ L q = h0 at *
    generalize manyN L = m0 at *
    go_wp2_with (first
      | (go_at_call 7
         refine (UP.out).mono ?_
         rintro r w1 ⟨rfl, hb⟩
         have RA1 := Lib.hid (RA0.out.below hb)
         have B1 := Lib.hid (Below.step B0.out hb)
         clear hb RA0 B0 UP)
      | (go_at_call 9
         refine (D1.out _ RA1.out).mono ?_
         rintro r w2 ⟨V, rfl, ho⟩
         obtain ⟨aJ, cJ, rfl, hr⟩ := ho.arg
         have RJ2 := Lib.hid hr
         have hb := ho.2.1
         clear ho hr
         have RA2 := Lib.hid (RA1.out.below hb)
         have B2 := Lib.hid (Below.step B1.out hb)
         clear hb RA1 B1 D1))
    obtain ⟨m, hm⟩ : ∃ m, J.length = m := ⟨_, rfl⟩
    have HM := Lib.hid hm
    rw [hm] at RJ2 QJ QN D2 C6 C8
    rw [hm]
    clear hm
    go_loopw [7] (fun iV wr => ∃ i : Nat, iV = .int .i64 (i : Int) ∧ i ≤ m ∧ Below w2.heap.size w2 wr) (fun iV _ => ((m : Int) - intOf iV).toNat)
    case atStart => exact ⟨0, rfl, Nat.zero_le _, Below.refl _ _⟩
    case round =>
      obtain ⟨i, rfl, hi, hb⟩ := hrel
      have B5 := Lib.hid hb
      clear hb
      by_cases hlt : i < m
      · have t0 : decide ((i : Int) < (m : Int)) = true := decide_eq_true (by omega)
        have t0' : decide (i < m) = true := decide_eq_true hlt
        obtain ⟨bJ, oJ, rfl, _⟩ := RJ2.out.1.form (by omega)
        have kl : i < J.length := by rw [HM.out]; exact hlt
        have i0 : (0 : Int) ≤ (i : Int) := by omega
        have i1 : (i : Int) < (m : Int) := by omega
        have iI : IntKind.i64.wrap ((i : Int) + 1) = (i : Int) + 1 := IntWalk.i64_in _ (by have := QJ.out; omega)
        have RLo := Lib.hid (fun W (h : Below w2.heap.size w2 W) => (RJ2.out.1.below h).lo i kl)
        have RHi := Lib.hid (fun W (h : Below w2.heap.size w2 W) => (RJ2.out.1.below h).hi i kl)
        have PHi0 := Lib.hid (fun e (he : e < i) W (h : Below w2.heap.size w2 W) => (RJ2.out.1.below h).hi e (by omega))
        have hv := norm_valid NJ.out _ (List.getElem_mem kl)
        have NN := Lib.hid (fun e (he : i = e + 1) => (show (J[e]'(by omega)).2 + 1 < (J[i]).1 from by subst he; exact norm_near e kl NJ.out))
        have PO := Lib.hid (fun e (he : e < i) => RJ2.out.under (J[e]'(by omega)) (List.getElem_mem _))
        have ok := RJ2.out.under _ (List.getElem_mem kl)
        obtain ⟨okx, oky⟩ := ok
        generalize (J[i]).1 = x at *
        generalize (J[i]).2 = y at *
        have wx : IntKind.u64.wrap (x : Int) = (x : Int) := u64_same (by omega)
        have t2 : decide ((y : Int) < (x : Int)) = false := decide_eq_false (by omega)
        have t2' : decide (y < x) = false := decide_eq_false (by omega)
        go_upto_region 8 with fail
        have B6 : Hid (Below w2.heap.size w2 wr.drew) := Lib.hid (Below.step B5.out (drewN_below wr 1))
        clear B5
        refine wp_region_ord Ext Ext.refl (fun _ _ _ => Ext.trans) ((0, false) :: (1, false) :: (2, false) :: (3, false) :: (4, false) :: (5, false) :: (6, false) :: (7, false) :: (8, false) :: (9, false) :: (10, false) :: (11, false) :: (12, false) :: (13, false) :: (14, false) :: (15, false) :: (16, false) :: (17, false) :: (18, false) :: (19, false) :: (20, false) :: (21, false) :: (22, false) :: (23, false) :: (24, false) :: (25, false) :: (26, false) :: (27, false) :: (28, false) :: (29, false) :: (30, false) :: (31, false) :: []) (by kernel_rfl) (by kernel_rfl) rfl (by kernel_rfl) (fun _ _ _ _ _ h => h) ?_
        generalize wr.drew = w6 at *
        rcases Nat.eq_zero_or_pos i with hz | hp
        · have k0 : decide ((0 : Int) < (i : Int)) = false := decide_eq_false (by omega)
          have k1 : decide (0 < i) = false := decide_eq_false (by omega)
          obtain ⟨e, PHi⟩ : ∃ e : Nat, Hid (∀ W, Below w2.heap.size w2 W → W.cell? ⟨bJ, oJ + e * 2 + 1, none⟩ = some (.int .u32 (y : Int))) := ⟨i, RHi⟩
          clear NN PHi0 PO hz
          repeat (first
            | (refine ord_skip rfl (by rfl) ?_; simp only [Act.put, List.setIfInBounds_toArray, List.set_cons_zero, List.set_cons_succ])
            | (refine ord_take _ rfl (by rfl) (fun W hW => yields_u32 (.tmp 25) rfl bJ (oJ + i * 2) _ rfl (RLo.out W (B6.out.trans (hW.mono B6.out.size)))) ?_; simp only [Act.put, List.setIfInBounds_toArray, List.set_cons_zero, List.set_cons_succ])
            | (refine ord_take _ rfl (by rfl) (fun W hW => yields_u32 (.tmp 30) rfl bJ (oJ + i * 2 + 1) _ rfl (RHi.out W (B6.out.trans (hW.mono B6.out.size)))) ?_; simp only [Act.put, List.setIfInBounds_toArray, List.set_cons_zero, List.set_cons_succ])
            | (refine ord_take _ rfl (by rfl) (fun W hW => yields_u32 (.tmp 41) rfl bJ (oJ + e * 2 + 1) _ rfl (PHi.out W (B6.out.trans (hW.mono B6.out.size)))) ?_; simp only [Act.put, List.setIfInBounds_toArray, List.set_cons_zero, List.set_cons_succ])
            | (refine ord_take _ rfl (by rfl) (fun W hW => yields_u32 (.tmp 48) rfl bJ (oJ + i * 2) _ rfl (RLo.out W (B6.out.trans (hW.mono B6.out.size)))) ?_; simp only [Act.put, List.setIfInBounds_toArray, List.set_cons_zero, List.set_cons_succ])
            | (refine ord_take _ rfl (by rfl) (fun W hW => by go_simp; first | done | rfl) ?_; simp only [Act.put, List.setIfInBounds_toArray, List.set_cons_zero, List.set_cons_succ]))
          refine ord_end ?_
          go_wp2_with fail
          go_roundw
          case rel => exact ⟨i + 1, by go_num, by omega, B6.out⟩
          case measure => simp only [intOf]; omega
        · obtain ⟨e, he⟩ : ∃ e, i = e + 1 := ⟨i - 1, by omega⟩
          have k0 : decide ((0 : Int) < (i : Int)) = true := decide_eq_true (by omega)
          have k1 : decide (0 < i) = true := decide_eq_true (by omega)
          have PHi := Lib.hid (PHi0.out e (by omega))
          have nn := NN.out e he
          have oz := (PO.out e (by omega)).2
          clear NN PHi0 PO
          generalize (J[e]'_).2 = z at *
          have q1 : IntKind.i64.wrap ((i : Int) - 1) = (e : Int) := by
            rw [show (i : Int) - 1 = (e : Int) by omega]
            exact IntWalk.i64_in _ (by have := QJ.out; omega)
          have x0 : (0 : Int) ≤ (e : Int) := by omega
          have x1 : (e : Int) < (m : Int) := by omega
          have wz : IntKind.u64.wrap (z : Int) = (z : Int) := u64_same (by omega)
          have wz1 : IntKind.u64.wrap ((z : Int) + 1) = (z : Int) + 1 := u64_in (by omega) (by omega)
          have t3 : decide ((x : Int) ≤ (z : Int) + 1) = false := decide_eq_false (by omega)
          have t3' : decide (x ≤ z + 1) = false := decide_eq_false (by omega)
          clear he nn
          repeat (first
            | (refine ord_skip rfl (by rfl) ?_; simp only [Act.put, List.setIfInBounds_toArray, List.set_cons_zero, List.set_cons_succ])
            | (refine ord_take _ rfl (by rfl) (fun W hW => yields_u32 (.tmp 25) rfl bJ (oJ + i * 2) _ rfl (RLo.out W (B6.out.trans (hW.mono B6.out.size)))) ?_; simp only [Act.put, List.setIfInBounds_toArray, List.set_cons_zero, List.set_cons_succ])
            | (refine ord_take _ rfl (by rfl) (fun W hW => yields_u32 (.tmp 30) rfl bJ (oJ + i * 2 + 1) _ rfl (RHi.out W (B6.out.trans (hW.mono B6.out.size)))) ?_; simp only [Act.put, List.setIfInBounds_toArray, List.set_cons_zero, List.set_cons_succ])
            | (refine ord_take _ rfl (by rfl) (fun W hW => yields_u32 (.tmp 41) rfl bJ (oJ + e * 2 + 1) _ rfl (PHi.out W (B6.out.trans (hW.mono B6.out.size)))) ?_; simp only [Act.put, List.setIfInBounds_toArray, List.set_cons_zero, List.set_cons_succ])
            | (refine ord_take _ rfl (by rfl) (fun W hW => yields_u32 (.tmp 48) rfl bJ (oJ + i * 2) _ rfl (RLo.out W (B6.out.trans (hW.mono B6.out.size)))) ?_; simp only [Act.put, List.setIfInBounds_toArray, List.set_cons_zero, List.set_cons_succ])
            | (refine ord_take _ rfl (by rfl) (fun W hW => by go_simp; first | done | rfl) ?_; simp only [Act.put, List.setIfInBounds_toArray, List.set_cons_zero, List.set_cons_succ]))
          refine ord_end ?_
          go_wp2_with fail
          go_roundw
          case rel => exact ⟨i + 1, by go_num, by omega, B6.out⟩
          case measure => simp only [intOf]; omega
      · have t0 : decide ((i : Int) < (m : Int)) = false := decide_eq_false (by omega)
        have t0' : decide (i < m) = false := decide_eq_false hlt
        have RJ5 := Lib.hid (RJ2.out.below B5.out)
        have RA5 := Lib.hid (RA2.out.below B5.out)
        have B6 := Lib.hid (Below.step B2.out B5.out)
        have tq : decide ((m : Int) ≤ (n : Int)) = true := decide_eq_true (by have := QN.out; omega)
        have tq' : decide (m ≤ n) = true := decide_eq_true QN.out
        have D3 := Lib.hid (D2.out aJ cJ)
        have C6' := Lib.hid (C6.out aJ cJ)
        have C8' := Lib.hid (C8.out aJ cJ)
        have QX : Hid (J.length ≤ 10000) := Lib.hid (by rw [HM.out]; exact QJ.out)
        clear RJ2 RA2 B2 B5 hi hlt NJ D2 C6 C8
        go_wp2_with (first
          | (go_at_call 9
             refine (D3.out _ RJ5.out).mono ?_
             rintro r w7 ⟨V, rfl, ho⟩
             obtain ⟨aT, cT, rfl, hr⟩ := ho.arg
             have RT7 := Lib.hid hr
             have hb := ho.2.1
             clear ho hr
             have RA7 := Lib.hid (RA5.out.below hb)
             have RJ7 := Lib.hid (RJ5.out.below hb)
             have B7 := Lib.hid (Below.step B6.out hb)
             clear hb RA5 RJ5 B6 D3)
          | (go_at_call 8
             refine (CS.out _ _ _ _ _ _ _ _ _ RT7.out QX.out RJ7.out).mono ?_
             rw [ES.out]
             rintro r w8 ⟨rfl, hb⟩
             have RA8 := Lib.hid (RA7.out.below hb)
             have RJ8 := Lib.hid (RJ7.out.below hb)
             have B8 := Lib.hid (Below.step B7.out hb)
             clear hb RA7 RJ7 B7 RT7)
          | (go_at_call 13
             refine (C6'.out _ RJ8.out).mono ?_
             rintro r w9 ⟨rfl, hb⟩
             have RA9 := Lib.hid (RA8.out.below hb)
             have RJ9 := Lib.hid (RJ8.out.below hb)
             have B9 := Lib.hid (Below.step B8.out hb)
             clear hb RA8 RJ8 B8 C6')
          | (go_at_call 13
             refine (C7.out _ RA9.out).mono ?_
             rintro r w10 ⟨rfl, hb⟩
             have RA10 := Lib.hid (RA9.out.below hb)
             have RJ10 := Lib.hid (RJ9.out.below hb)
             have B10 := Lib.hid (Below.step B9.out hb)
             clear hb RA9 RJ9 B9 C7)
          | (go_at_call 15
             refine (C8'.out _ RJ10.out).mono ?_
             rintro r w11 ⟨rfl, hb⟩
             have RA11 := Lib.hid (RA10.out.below hb)
             have B11 := Lib.hid (Below.step B10.out hb)
             clear hb RA10 B10 C8' RJ10)
          | (go_at_call 15
             refine (C9.out _ RA11.out).mono ?_
             rintro r w12 ⟨rfl, hb⟩
             have B12 := Lib.hid (Below.step B11.out hb)
             clear hb  B11 C9 RA11))
        go_ret
        exact ⟨rfl, B12.out⟩

end Go.Proofs.Ytppdnejkbdnlcaa
