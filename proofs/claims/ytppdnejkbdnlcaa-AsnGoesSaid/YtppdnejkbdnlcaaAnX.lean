/-
  The walks of AsnJoins and AsnGoes, from premises, for stage 12 (asn).
-/
import Derived.Test.YtppdnejkbdnlcaaAnK
namespace Go.Proofs.Ytppdnejkbdnlcaa
open Go.RowKit
set_option linter.unusedVariables false

set_option maxHeartbeats 4000000 in
set_option maxRecDepth 100000 in
theorem joinsR_any (PJ : PkJoin) (PW : PkWithin) (PH : PkHas) (PM : PkMany) (PA : PkAwake) (a b : Option Addr) (n m ca cb q : Nat) (L M : List (Nat × Nat)) (w : World) (ha : RgArg w a n ca L) (hb : RgArg w b m cb M) (hq : q < 4294967296) :
    Calls Try.prog 3 #[.slice a n ca, .slice b m cb, .int .u32 (q : Int)] w fun e w' => e = .returned (.bool true) ∧ Below w.heap.size w w' := by
  have UP := Lib.hid (PA w)
  have RA0 := Lib.hid ha
  have RB0 := Lib.hid hb
  have JL := Lib.hid (join_len' L)
  have LL := Lib.hid ha.1.1
  have EJ := Lib.hid (eqLR_self (joinZ L))
  have HQ := Lib.hid hq
  have B0 : Hid (Below w.heap.size w w) := Lib.hid (Below.refl _ _)
  have CS := Lib.hid (fun (a b : Option Addr) (n m c d : Nat) (X Y : List (Nat × Nat)) W (h : RgArg W a n c X) (hn : n ≤ 10000) (g : RgArg W b m d Y) => rsame_any a b n c m d X Y W h (by omega) g)
  clear ha hb hq
  go_enter Try.func3, Try.ntmps3
  have h40 : (n > 100) ∨ (n ≤ 100 ∧ m > 100) ∨ (n ≤ 100 ∧ m ≤ 100) := by omega
  rcases h40 with h | ⟨h, h'⟩ | ⟨h, h'⟩
  · have t1 : decide ((100 : Int) < (n : Int)) = true := decide_eq_true (by omega)
    go_wp2_with (go_at_call 7; refine UP.out.mono ?_; rintro r w1 ⟨rfl, hb1⟩)
    go_ret
    exact ⟨rfl, hb1⟩
  · have t1 : decide ((100 : Int) < (n : Int)) = false := decide_eq_false (by omega)
    have t2 : decide ((100 : Int) < (m : Int)) = true := decide_eq_true (by omega)
    go_wp2_with (go_at_call 7; refine UP.out.mono ?_; rintro r w1 ⟨rfl, hb1⟩)
    go_ret
    exact ⟨rfl, hb1⟩
  · have t1 : decide ((100 : Int) < (n : Int)) = false := decide_eq_false (by omega)
    have t2 : decide ((100 : Int) < (m : Int)) = false := decide_eq_false (by omega)
    have QA : Hid (n ≤ 10000) := Lib.hid (by omega)
    have QB : Hid (m ≤ 10000) := Lib.hid (by omega)
    have QJ : Hid ((joinZ L).length ≤ 10000) := Lib.hid (by have := JL.out; have := LL.out; omega)
    have C1 := Lib.hid (fun W h => PJ a n ca L W h QA.out)
    have C2 := Lib.hid (fun W h => rjoinR_any a n ca L W h QA.out)
    have C4 := Lib.hid (fun W h g => PW a b n m ca cb L M W h QA.out g QB.out)
    have C5 := Lib.hid (fun W h g => rwithinR_any a b n ca m cb L M W h QA.out g QB.out)
    have C6 := Lib.hid (fun W h => PH a n ca q L W h QA.out HQ.out)
    have C7 := Lib.hid (fun W h => rhas_any a n ca q L W h (by have := QA.out; omega) HQ.out)
    have C8 := Lib.hid (fun W h => PM a n ca L W h QA.out)
    have C9 := Lib.hid (fun W h => rmany_any a n ca L W h QA.out)
    clear JL LL h h' PJ PW PH PM PA
    generalize joinZ L = J at *
    generalize inN L M = i0 at *
    generalize hasZ L q = h0 at *
    generalize manyN L = m0 at *
    go_wp2_with (first
      | (go_at_call 7
         refine (UP.out).mono ?_
         rintro r w1 ⟨rfl, hb⟩
         have RA1 := Lib.hid (RA0.out.below hb)
         have RB1 := Lib.hid (RB0.out.below hb)
         have B1 := Lib.hid (Below.step B0.out hb)
         clear hb RA0 RB0 B0 UP)
      | (go_at_call 9
         refine (C1.out _ RA1.out).mono ?_
         rintro r w2 ⟨V, rfl, ho⟩
         obtain ⟨aJ, cJ, rfl, hr⟩ := ho.arg
         have RJ2 := Lib.hid hr
         have hb := ho.2.1
         clear ho hr
         have RA2 := Lib.hid (RA1.out.below hb)
         have RB2 := Lib.hid (RB1.out.below hb)
         have B2 := Lib.hid (Below.step B1.out hb)
         clear hb RA1 RB1 B1 C1)
      | (go_at_call 10
         refine (C2.out _ RA2.out).mono ?_
         rintro r w3 ⟨V, rfl, ho⟩
         obtain ⟨aK, cK, rfl, hr⟩ := ho.arg
         have RK3 := Lib.hid hr
         have hb := ho.2.1
         clear ho hr
         have RA3 := Lib.hid (RA2.out.below hb)
         have RB3 := Lib.hid (RB2.out.below hb)
         have RJ3 := Lib.hid (RJ2.out.below hb)
         have B3 := Lib.hid (Below.step B2.out hb)
         clear hb RA2 RB2 RJ2 B2 C2)
      | (go_at_call 8
         refine (CS.out _ _ _ _ _ _ _ _ _ RJ3.out QJ.out RK3.out).mono ?_
         rw [EJ.out]
         rintro r w4 ⟨rfl, hb⟩
         have RA4 := Lib.hid (RA3.out.below hb)
         have RB4 := Lib.hid (RB3.out.below hb)
         have B4 := Lib.hid (Below.step B3.out hb)
         clear hb RA3 RB3 B3 RJ3 RK3)
      | (go_at_call 11
         refine (C4.out _ RA4.out RB4.out).mono ?_
         rintro r w5 ⟨rfl, hb⟩
         have RA5 := Lib.hid (RA4.out.below hb)
         have RB5 := Lib.hid (RB4.out.below hb)
         have B5 := Lib.hid (Below.step B4.out hb)
         clear hb RA4 RB4 B4 C4)
      | (go_at_call 12
         refine (C5.out _ RA5.out RB5.out).mono ?_
         rintro r w6 ⟨rfl, hb⟩
         have RA6 := Lib.hid (RA5.out.below hb)
         have RB6 := Lib.hid (RB5.out.below hb)
         have B6 := Lib.hid (Below.step B5.out hb)
         clear hb RA5 RB5 B5 C5)
      | (go_at_call 13
         refine (C6.out _ RA6.out).mono ?_
         rintro r w7 ⟨rfl, hb⟩
         have RA7 := Lib.hid (RA6.out.below hb)
         have B7 := Lib.hid (Below.step B6.out hb)
         clear hb RA6 B6 C6)
      | (go_at_call 14
         refine (C7.out _ RA7.out).mono ?_
         rintro r w8 ⟨rfl, hb⟩
         have RA8 := Lib.hid (RA7.out.below hb)
         have B8 := Lib.hid (Below.step B7.out hb)
         clear hb RA7 B7 C7)
      | (go_at_call 15
         refine (C8.out _ RA8.out).mono ?_
         rintro r w9 ⟨rfl, hb⟩
         have RA9 := Lib.hid (RA8.out.below hb)
         have B9 := Lib.hid (Below.step B8.out hb)
         clear hb RA8 B8 C8)
      | (go_at_call 16
         refine (C9.out _ RA9.out).mono ?_
         rintro r w10 ⟨rfl, hb⟩
         have RA10 := Lib.hid (RA9.out.below hb)
         have B10 := Lib.hid (Below.step B9.out hb)
         clear hb RA9 B9 C9))
    go_ret
    exact ⟨rfl, B10.out⟩

set_option maxHeartbeats 4000000 in
set_option maxRecDepth 100000 in
theorem goesR_any (PJ : PkJoin) (PW : PkWithin) (PM : PkMany) (PA : PkAwake) (a b c : Option Addr) (n m k ca cb cc : Nat) (L M K : List (Nat × Nat)) (w : World) (ha : RgArg w a n ca L) (hb : RgArg w b m cb M) (hc : RgArg w c k cc K) :
    Calls Try.prog 5 #[.slice a n ca, .slice b m cb, .slice c k cc] w fun e w' => e = .returned (.bool true) ∧ Below w.heap.size w w' := by
  have UP := Lib.hid (PA w)
  have RA0 := Lib.hid ha
  have RB0 := Lib.hid hb
  have RC0 := Lib.hid hc
  have JL := Lib.hid (join_len' L)
  have JM := Lib.hid (join_len' M)
  have LL := Lib.hid ha.1.1
  have LM := Lib.hid hb.1.1
  have EJ := Lib.hid (eqLR_join L M)
  have E5 := Lib.hid (inN_self L)
  have E6 := Lib.hid (inN_none L)
  have HG := Lib.hid (fun h g => inN_goes (a := L) (b := M) (c := K) h g)
  have MO := Lib.hid (fun h => many_mono ha.under hb.under h)
  have B0 : Hid (Below w.heap.size w w) := Lib.hid (Below.refl _ _)
  have CS := Lib.hid (fun (a b : Option Addr) (n m c d : Nat) (X Y : List (Nat × Nat)) W (h : RgArg W a n c X) (hn : n ≤ 10000) (g : RgArg W b m d Y) => rsame_any a b n c m d X Y W h (by omega) g)
  clear ha hb hc
  go_enter Try.func5, Try.ntmps5
  have h20 : (n > 60) ∨ (n ≤ 60 ∧ m > 60) ∨ (n ≤ 60 ∧ m ≤ 60 ∧ k > 60) ∨ (n ≤ 60 ∧ m ≤ 60 ∧ k ≤ 60) := by omega
  rcases h20 with h | ⟨h, h'⟩ | ⟨h, h', h''⟩ | ⟨h, h', h''⟩
  · have t1 : decide ((60 : Int) < (n : Int)) = true := decide_eq_true (by omega)
    go_wp2_with (go_at_call 7; refine UP.out.mono ?_; rintro r w1 ⟨rfl, hb1⟩)
    go_ret
    exact ⟨rfl, hb1⟩
  · have t1 : decide ((60 : Int) < (n : Int)) = false := decide_eq_false (by omega)
    have t2 : decide ((60 : Int) < (m : Int)) = true := decide_eq_true (by omega)
    go_wp2_with (go_at_call 7; refine UP.out.mono ?_; rintro r w1 ⟨rfl, hb1⟩)
    go_ret
    exact ⟨rfl, hb1⟩
  · have t1 : decide ((60 : Int) < (n : Int)) = false := decide_eq_false (by omega)
    have t2 : decide ((60 : Int) < (m : Int)) = false := decide_eq_false (by omega)
    have t3 : decide ((60 : Int) < (k : Int)) = true := decide_eq_true (by omega)
    go_wp2_with (go_at_call 7; refine UP.out.mono ?_; rintro r w1 ⟨rfl, hb1⟩)
    go_ret
    exact ⟨rfl, hb1⟩
  · have t1 : decide ((60 : Int) < (n : Int)) = false := decide_eq_false (by omega)
    have t2 : decide ((60 : Int) < (m : Int)) = false := decide_eq_false (by omega)
    have t3 : decide ((60 : Int) < (k : Int)) = false := decide_eq_false (by omega)
    have QA : Hid (n ≤ 10000) := Lib.hid (by omega)
    have QB : Hid (m ≤ 10000) := Lib.hid (by omega)
    have QC : Hid (k ≤ 10000) := Lib.hid (by omega)
    have QJ : Hid ((joinZ L).length ≤ 10000) := Lib.hid (by have := JL.out; have := LL.out; omega)
    have C1 := Lib.hid (fun W h g => PW a b n m ca cb L M W h QA.out g QB.out)
    have C2 := Lib.hid (fun W h g => PW b c m k cb cc M K W h QB.out g QC.out)
    have C3 := Lib.hid (fun W h g => PW b a m n cb ca M L W h QB.out g QA.out)
    have D1 := Lib.hid (fun W h => PJ a n ca L W h QA.out)
    have D2 := Lib.hid (fun W h => PJ b m cb M W h QB.out)
    have C5 : Hid (∀ W, RgArg W a n ca L → Calls Try.prog 11 #[.slice a n ca, .slice a n ca] W fun e w' => e = .returned (.bool true) ∧ Below W.heap.size W w') := Lib.hid (fun W h => by have := PW a a n n ca ca L L W h QA.out h QA.out; rwa [E5.out] at this)
    have C6 : Hid (∀ W, RgArg W a n ca L → Calls Try.prog 11 #[.slice none 0 0, .slice a n ca] W fun e w' => e = .returned (.bool true) ∧ Below W.heap.size W w') := Lib.hid (fun W h => by have := PW none a 0 n 0 ca [] L W (RgArg.nil W) (by omega) h QA.out; rwa [E6.out] at this)
    have C7 := Lib.hid (fun W h g => PW a c n k ca cc L K W h QA.out g QC.out)
    have C8 := Lib.hid (fun W h => PM a n ca L W h QA.out)
    have C9 := Lib.hid (fun W h => PM b m cb M W h QB.out)
    clear JL JM LL LM h h' h'' PJ PW PM PA E5 E6
    generalize joinZ L = J at *
    generalize joinZ M = JM at *
    generalize inN L M = x at *
    generalize inN M K = y at *
    generalize inN M L = z at *
    generalize inN L K = ac at *
    generalize manyN L = m1 at *
    generalize manyN M = m2 at *
    go_upto_region 8 with (first
      | (go_at_call 7
         refine (UP.out).mono ?_
         rintro r w1 ⟨rfl, hb⟩
         have RA1 := Lib.hid (RA0.out.below hb)
         have RB1 := Lib.hid (RB0.out.below hb)
         have RC1 := Lib.hid (RC0.out.below hb)
         have B1 := Lib.hid (Below.step B0.out hb)
         clear hb RA0 RB0 RC0 B0 UP)
      | (go_at_call 11
         refine (C1.out _ RA1.out RB1.out).mono ?_
         rintro r w2 ⟨rfl, hb⟩
         have RA2 := Lib.hid (RA1.out.below hb)
         have RB2 := Lib.hid (RB1.out.below hb)
         have RC2 := Lib.hid (RC1.out.below hb)
         have B2 := Lib.hid (Below.step B1.out hb)
         clear hb RA1 RB1 RC1 B1 C1)
      | (go_at_call 11
         refine (C2.out _ RB2.out RC2.out).mono ?_
         rintro r w3 ⟨rfl, hb⟩
         have RA3 := Lib.hid (RA2.out.below hb)
         have RB3 := Lib.hid (RB2.out.below hb)
         have RC3 := Lib.hid (RC2.out.below hb)
         have B3 := Lib.hid (Below.step B2.out hb)
         clear hb RA2 RB2 RC2 B2 C2)
      | (go_at_call 11
         refine (C3.out _ RB3.out RA3.out).mono ?_
         rintro r w4 ⟨rfl, hb⟩
         have RA4 := Lib.hid (RA3.out.below hb)
         have RB4 := Lib.hid (RB3.out.below hb)
         have RC4 := Lib.hid (RC3.out.below hb)
         have B4 := Lib.hid (Below.step B3.out hb)
         clear hb RA3 RB3 RC3 B3 C3)
      | (go_at_call 9
         refine (D1.out _ RA4.out).mono ?_
         rintro r w5 ⟨V, rfl, ho⟩
         obtain ⟨aJ, cJ, rfl, hr⟩ := ho.arg
         have RJ5 := Lib.hid hr
         have hb := ho.2.1
         clear ho hr
         have RA5 := Lib.hid (RA4.out.below hb)
         have RB5 := Lib.hid (RB4.out.below hb)
         have RC5 := Lib.hid (RC4.out.below hb)
         have B5 := Lib.hid (Below.step B4.out hb)
         clear hb RA4 RB4 RC4 B4 D1)
      | (go_at_call 9
         refine (D2.out _ RB5.out).mono ?_
         rintro r w6 ⟨V, rfl, ho⟩
         obtain ⟨aK, cK, rfl, hr⟩ := ho.arg
         have RK6 := Lib.hid hr
         have hb := ho.2.1
         clear ho hr
         have RA6 := Lib.hid (RA5.out.below hb)
         have RB6 := Lib.hid (RB5.out.below hb)
         have RC6 := Lib.hid (RC5.out.below hb)
         have RJ6 := Lib.hid (RJ5.out.below hb)
         have B6 := Lib.hid (Below.step B5.out hb)
         clear hb RA5 RB5 RC5 RJ5 B5 D2)
      | (go_at_call 8
         refine (CS.out _ _ _ _ _ _ _ _ _ RJ6.out QJ.out RK6.out).mono ?_
         rw [EJ.out]
         rintro r w8 ⟨rfl, hb⟩
         have RA8 := Lib.hid (RA6.out.below hb)
         have RB8 := Lib.hid (RB6.out.below hb)
         have RC8 := Lib.hid (RC6.out.below hb)
         have B8 := Lib.hid (Below.step B6.out hb)
         clear hb RA6 RB6 RC6 B6 RJ6 RK6))
    rcases (show x = false ∨ (x = true ∧ y = true) ∨ (x = true ∧ y = false) from by cases x <;> cases y <;> simp) with rfl | ⟨rfl, rfl⟩ | ⟨rfl, rfl⟩
    · clear C7 C8 C9
      go_wp2_with (first
        | (go_at_call 11
           refine (C5.out _ RA8.out).mono ?_
           rintro r w9 ⟨rfl, hb⟩
           have RA9 := Lib.hid (RA8.out.below hb)
           have RB9 := Lib.hid (RB8.out.below hb)
           have RC9 := Lib.hid (RC8.out.below hb)
           have B9 := Lib.hid (Below.step B8.out hb)
           clear hb RA8 RB8 RC8 B8 C5)
        | (go_at_call 11
           refine (C6.out _ RA9.out).mono ?_
           rintro r w10 ⟨rfl, hb⟩
           have RA10 := Lib.hid (RA9.out.below hb)
           have RB10 := Lib.hid (RB9.out.below hb)
           have RC10 := Lib.hid (RC9.out.below hb)
           have B10 := Lib.hid (Below.step B9.out hb)
           clear hb RA9 RB9 RC9 B9 C6))
      go_ret
      exact ⟨rfl, B10.out⟩
    · have e := HG.out rfl rfl
      subst e
      have mo := MO.out rfl
      have tm : decide ((m1 : Int) ≤ (m2 : Int)) = true := decide_eq_true (by omega)
      have tm' : decide (m1 ≤ m2) = true := decide_eq_true mo
      clear HG MO mo
      go_wp2_with (first
        | (go_at_call 11
           refine (C5.out _ RA8.out).mono ?_
           rintro r w9 ⟨rfl, hb⟩
           have RA9 := Lib.hid (RA8.out.below hb)
           have RB9 := Lib.hid (RB8.out.below hb)
           have RC9 := Lib.hid (RC8.out.below hb)
           have B9 := Lib.hid (Below.step B8.out hb)
           clear hb RA8 RB8 RC8 B8 C5)
        | (go_at_call 11
           refine (C6.out _ RA9.out).mono ?_
           rintro r w10 ⟨rfl, hb⟩
           have RA10 := Lib.hid (RA9.out.below hb)
           have RB10 := Lib.hid (RB9.out.below hb)
           have RC10 := Lib.hid (RC9.out.below hb)
           have B10 := Lib.hid (Below.step B9.out hb)
           clear hb RA9 RB9 RC9 B9 C6)
        | (go_at_call 11
           refine (C7.out _ RA10.out RC10.out).mono ?_
           rintro r w11 ⟨rfl, hb⟩
           have RA11 := Lib.hid (RA10.out.below hb)
           have RB11 := Lib.hid (RB10.out.below hb)
           have B11 := Lib.hid (Below.step B10.out hb)
           clear hb RA10 RB10 B10 C7)
        | (go_at_call 15
           refine (C8.out _ RA11.out).mono ?_
           rintro r w12 ⟨rfl, hb⟩
           have RB12 := Lib.hid (RB11.out.below hb)
           have B12 := Lib.hid (Below.step B11.out hb)
           clear hb RB11 B11 C8)
        | (go_at_call 15
           refine (C9.out _ RB12.out).mono ?_
           rintro r w13 ⟨rfl, hb⟩
           have B13 := Lib.hid (Below.step B12.out hb)
           clear hb  B12 C9 RB12))
      go_ret
      exact ⟨rfl, B13.out⟩
    · have mo := MO.out rfl
      have tm : decide ((m1 : Int) ≤ (m2 : Int)) = true := decide_eq_true (by omega)
      have tm' : decide (m1 ≤ m2) = true := decide_eq_true mo
      clear HG MO mo C7
      go_wp2_with (first
        | (go_at_call 11
           refine (C5.out _ RA8.out).mono ?_
           rintro r w9 ⟨rfl, hb⟩
           have RA9 := Lib.hid (RA8.out.below hb)
           have RB9 := Lib.hid (RB8.out.below hb)
           have RC9 := Lib.hid (RC8.out.below hb)
           have B9 := Lib.hid (Below.step B8.out hb)
           clear hb RA8 RB8 RC8 B8 C5)
        | (go_at_call 11
           refine (C6.out _ RA9.out).mono ?_
           rintro r w10 ⟨rfl, hb⟩
           have RA10 := Lib.hid (RA9.out.below hb)
           have RB10 := Lib.hid (RB9.out.below hb)
           have RC10 := Lib.hid (RC9.out.below hb)
           have B10 := Lib.hid (Below.step B9.out hb)
           clear hb RA9 RB9 RC9 B9 C6)
        | (go_at_call 15
           refine (C8.out _ RA10.out).mono ?_
           rintro r w11 ⟨rfl, hb⟩
           have RB11 := Lib.hid (RB10.out.below hb)
           have B11 := Lib.hid (Below.step B10.out hb)
           clear hb RB10 B10 C8)
        | (go_at_call 15
           refine (C9.out _ RB11.out).mono ?_
           rintro r w12 ⟨rfl, hb⟩
           have B12 := Lib.hid (Below.step B11.out hb)
           clear hb  B11 C9 RB11))
      go_ret
      exact ⟨rfl, B12.out⟩

end Go.Proofs.Ytppdnejkbdnlcaa
