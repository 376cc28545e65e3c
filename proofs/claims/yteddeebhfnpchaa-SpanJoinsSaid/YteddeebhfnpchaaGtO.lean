/-
  Merged texts: StH.
-/
import Derived.Test.YteddeebhfnpchaaGtN
namespace Go.Proofs.Yteddeebhfnpchaa
open Go.RowKit
set_option linter.unusedVariables false

set_option maxHeartbeats 1000000 in
set_option maxRecDepth 10000 in
theorem rwithin_any (a b : Option Addr) (n m c d : Nat) (L M : List SpanZ) (w : World) (ha : SpArg w a n c L) (hn : n ≤ 100) (hb : SpArg w b m d M) (hm : m ≤ 100) :
    Calls Try.prog 14 #[.slice a n c, .slice b m d] w fun e w' => e = .returned (.bool (inS L M)) ∧ Below w.heap.size w w' := by
  have CB := Lib.hid (rboth_any a b n c m d L M w ha.1 ha.2 hn hb.1 hb.2 hm)
  have CJ := Lib.hid (fun W (h : SpArg W a n c L) => rjoin_any a n c L W h.1 h.2 (by omega))
  have CS := Lib.hid (fun (a b : Option Addr) (n m ca cb : Nat) (X Y : List SpanZ) (W : World) (h : SpArg W a n ca X) (hn : n ≤ 90000) (g : SpArg W b m cb Y) (hm : m ≤ 90000) => same_any a b n ca m cb X Y W h.1 hn g.1 hm)
  have LB : Hid ((bothS L M).length ≤ 90000) := Lib.hid (by have := both_len ha.spans hb.spans; have := ha.1.1; have := hb.1.1; omega)
  have LJ : Hid ((joinS L).length ≤ 90000) := Lib.hid (by have := joinS_len L; have := ha.1.1; omega)
  have EI : Hid (inS L M = eqLS (bothS L M) (joinS L)) := Lib.hid (eqLS_turned _ _)
  have RA := Lib.hid ha
  rw [EI.out]
  clear ha hb EI
  generalize bothS L M = B at *
  generalize joinS L = J at *
  go_enter Try.func14, Try.ntmps14
  go_wp2_with (first
    | (go_at_call 12
       refine CB.out.mono ?_
       rintro r w1 ⟨V1, rfl, ho1⟩
       obtain ⟨a1, c1, rfl, hr1⟩ := ho1.arg
       have R1 := Lib.hid hr1
       have RA1 := Lib.hid (RA.out.below ho1.2.1)
       have B1 := Lib.hid ho1.2.1
       clear ho1 hr1 CB RA)
    | (go_at_call 10
       refine (CJ.out _ RA1.out).mono ?_
       rintro r w2 ⟨V2, rfl, ho2⟩
       obtain ⟨a2, c2, rfl, hr2⟩ := ho2.arg
       have R2 := Lib.hid hr2
       have R3 := Lib.hid (R1.out.below ho2.2.1)
       have B2 := Lib.hid (Below.step B1.out ho2.2.1)
       clear ho2 hr2 CJ RA1 R1 B1)
    | (go_at_call 8
       refine (CS.out _ _ _ _ _ _ _ _ _ R3.out LB.out R2.out LJ.out).mono ?_
       rintro r w3 ⟨rfl, hb3⟩
       have B3 := Lib.hid (Below.step B2.out hb3)
       clear hb3 B2))
  go_ret
  exact ⟨rfl, B3.out⟩

set_option maxHeartbeats 2000000 in
set_option maxRecDepth 100000 in
theorem joins_any (a b : Option Addr) (n m ca cb : Nat) (L M : List SpanZ) (w : World) (ha : SpArg w a n ca L) (hb : SpArg w b m cb M) :
    Calls Try.prog 3 #[.slice a n ca, .slice b m cb] w fun e w' => e = .returned (.bool true) ∧ Below w.heap.size w w' := by
  have UP := Lib.hid (awake_any w)
  have RA := Lib.hid ha
  have RB := Lib.hid hb
  have sa := ha.spans
  have sb := hb.spans
  have LJ := Lib.hid (joinS_len L)
  have LB := Lib.hid (both_len sa sb)
  have LL := Lib.hid ha.1.1
  have LM := Lib.hid hb.1.1
  have EJ : Hid (eqLS (joinS L) (joinS L) = true) := Lib.hid (eqLS_self _)
  have EB : Hid (eqLS (bothS L M) (bothS L M) = true) := Lib.hid (eqLS_self _)
  have CJ := Lib.hid (fun W (h : SpArg W a n ca L) (hn : n ≤ 40) => join_any a n ca L W h.1 h.2 (by omega))
  have CRJ := Lib.hid (fun W (h : SpArg W a n ca L) (hn : n ≤ 40) => rjoin_any a n ca L W h.1 h.2 (by omega))
  have CB := Lib.hid (fun W (h : SpArg W a n ca L) (hn : n ≤ 40) (g : SpArg W b m cb M) (hm : m ≤ 40) => both_any a b n ca m cb L M W h.1 h.2 (by omega) g.1 g.2 (by omega))
  have CRB := Lib.hid (fun W (h : SpArg W a n ca L) (hn : n ≤ 40) (g : SpArg W b m cb M) (hm : m ≤ 40) => rboth_any a b n ca m cb L M W h.1 h.2 (by omega) g.1 g.2 (by omega))
  have CW := Lib.hid (fun W (h : SpArg W a n ca L) (hn : n ≤ 40) (g : SpArg W b m cb M) (hm : m ≤ 40) => within_any a b n ca m cb L M W h.1 h.2 (by omega) g.1 g.2 (by omega))
  have CRW := Lib.hid (fun W (h : SpArg W a n ca L) (hn : n ≤ 40) (g : SpArg W b m cb M) (hm : m ≤ 40) => rwithin_any a b n m ca cb L M W h (by omega) g (by omega))
  have CS := Lib.hid (fun (a b : Option Addr) (n m ca cb : Nat) (X Y : List SpanZ) (W : World) (h : SpArg W a n ca X) (hn : n ≤ 90000) (g : SpArg W b m cb Y) (hm : m ≤ 90000) => same_any a b n ca m cb X Y W h.1 hn g.1 hm)
  have B0 : Hid (Below w.heap.size w w) := Lib.hid (Below.refl _ _)
  clear ha hb sa sb
  go_enter Try.func3, Try.ntmps3
  have h40 : (n > 40) ∨ (n ≤ 40 ∧ m > 40) ∨ (n ≤ 40 ∧ m ≤ 40) := by omega
  rcases h40 with h | ⟨h, h'⟩ | ⟨h, h'⟩
  · have t1 : decide ((40 : Int) < (n : Int)) = true := decide_eq_true (by omega)
    go_wp2_with (go_at_call 7; refine UP.out.mono ?_; rintro r w1 ⟨rfl, hb1⟩)
    go_ret
    exact ⟨rfl, hb1⟩
  · have t1 : decide ((40 : Int) < (n : Int)) = false := decide_eq_false (by omega)
    have t2 : decide ((40 : Int) < (m : Int)) = true := decide_eq_true (by omega)
    go_wp2_with (go_at_call 7; refine UP.out.mono ?_; rintro r w1 ⟨rfl, hb1⟩)
    go_ret
    exact ⟨rfl, hb1⟩
  · have t1 : decide ((40 : Int) < (n : Int)) = false := decide_eq_false (by omega)
    have t2 : decide ((40 : Int) < (m : Int)) = false := decide_eq_false (by omega)
    have QA : Hid (n ≤ 40) := Lib.hid h
    have QB : Hid (m ≤ 40) := Lib.hid h'
    have QJ : Hid ((joinS L).length ≤ 90000) := Lib.hid (by have := LJ.out; have := LL.out; omega)
    have QR : Hid ((bothS L M).length ≤ 90000) := Lib.hid (by have := LB.out; have := LL.out; have := LM.out; omega)
    clear LJ LB LL LM h h'
    generalize joinS L = J at *
    generalize bothS L M = R at *
    generalize inS L M = i0 at *
    go_upto_region 5 with (first
      | (go_at_call 7
         refine UP.out.mono ?_
         rintro r w1 ⟨rfl, hb1⟩
         have RA1 := Lib.hid (RA.out.below hb1)
         have RB1 := Lib.hid (RB.out.below hb1)
         have B1 := Lib.hid (Below.step B0.out hb1)
         clear hb1 UP B0 RA RB)
      | (go_at_call 9
         refine (CJ.out _ RA1.out QA.out).mono ?_
         rintro r w2 ⟨V2, rfl, ho2⟩
         obtain ⟨aJ, cJ, rfl, hr2⟩ := ho2.arg
         have RJ2 := Lib.hid hr2
         have RA2 := Lib.hid (RA1.out.below ho2.2.1)
         have RB2 := Lib.hid (RB1.out.below ho2.2.1)
         have B2 := Lib.hid (Below.step B1.out ho2.2.1)
         clear ho2 hr2 RA1 RB1 B1 CJ)
      | (go_at_call 10
         refine (CRJ.out _ RA2.out QA.out).mono ?_
         rintro r w3 ⟨V3, rfl, ho3⟩
         obtain ⟨aK, cK, rfl, hr3⟩ := ho3.arg
         have RK3 := Lib.hid hr3
         have RJ3 := Lib.hid (RJ2.out.below ho3.2.1)
         have RA3 := Lib.hid (RA2.out.below ho3.2.1)
         have RB3 := Lib.hid (RB2.out.below ho3.2.1)
         have B3 := Lib.hid (Below.step B2.out ho3.2.1)
         clear ho3 hr3 RJ2 RA2 RB2 B2 CRJ)
      | (go_at_call 8
         refine (CS.out _ _ _ _ _ _ _ _ _ RJ3.out QJ.out RK3.out QJ.out).mono ?_
         rw [EJ.out]
         rintro r w4 ⟨rfl, hb4⟩
         have RA4 := Lib.hid (RA3.out.below hb4)
         have RB4 := Lib.hid (RB3.out.below hb4)
         have B4 := Lib.hid (Below.step B3.out hb4)
         clear hb4 RJ3 RK3 RA3 RB3 B3))
    go_upto_region 6 with (first
      | (go_at_call 11
         refine (CB.out _ RA4.out QA.out RB4.out QB.out).mono ?_
         rintro r w5 ⟨V5, rfl, ho5⟩
         obtain ⟨aR, cR, rfl, hr5⟩ := ho5.arg
         have RR5 := Lib.hid hr5
         have RA5 := Lib.hid (RA4.out.below ho5.2.1)
         have RB5 := Lib.hid (RB4.out.below ho5.2.1)
         have B5 := Lib.hid (Below.step B4.out ho5.2.1)
         clear ho5 hr5 RA4 RB4 B4 CB)
      | (go_at_call 12
         refine (CRB.out _ RA5.out QA.out RB5.out QB.out).mono ?_
         rintro r w6 ⟨V6, rfl, ho6⟩
         obtain ⟨aT, cT, rfl, hr6⟩ := ho6.arg
         have RT6 := Lib.hid hr6
         have RR6 := Lib.hid (RR5.out.below ho6.2.1)
         have RA6 := Lib.hid (RA5.out.below ho6.2.1)
         have RB6 := Lib.hid (RB5.out.below ho6.2.1)
         have B6 := Lib.hid (Below.step B5.out ho6.2.1)
         clear ho6 hr6 RR5 RA5 RB5 B5 CRB)
      | (go_at_call 8
         refine (CS.out _ _ _ _ _ _ _ _ _ RR6.out QR.out RT6.out QR.out).mono ?_
         rw [EB.out]
         rintro r w7 ⟨rfl, hb7⟩
         have RA7 := Lib.hid (RA6.out.below hb7)
         have RB7 := Lib.hid (RB6.out.below hb7)
         have B7 := Lib.hid (Below.step B6.out hb7)
         clear hb7 RR6 RT6 RA6 RB6 B6))
    have hk : (i0 == i0) = true := beq_self_eq_true i0
    go_wp2_with (first
      | (go_at_call 13
         refine (CW.out _ RA7.out QA.out RB7.out QB.out).mono ?_
         rintro r w8 ⟨rfl, hb8⟩
         have RA8 := Lib.hid (RA7.out.below hb8)
         have RB8 := Lib.hid (RB7.out.below hb8)
         have B8 := Lib.hid (Below.step B7.out hb8)
         clear hb8 RA7 RB7 B7 CW)
      | (go_at_call 14
         refine (CRW.out _ RA8.out QA.out RB8.out QB.out).mono ?_
         rintro r w9 ⟨rfl, hb9⟩
         have B9 := Lib.hid (Below.step B8.out hb9)
         clear hb9 RA8 RB8 B8 CRW))
    go_ret
    exact ⟨rfl, B9.out⟩

end Go.Proofs.Yteddeebhfnpchaa
