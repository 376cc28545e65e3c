/-
  Merged texts: SrT, AdO, SrU.
-/
import Derived.Test.YteddeebhfnpchaaGtG
import Derived.Test.YteddeebhfnpchaaGtA
import Derived.WalkKit
import Derived.ProofKit
import Derived.OpenShut
import Derived.ChangeArms
import Derived.ChangeSame
import Derived.Deep.Strs
import Derived.Lib.SmallJoins
import Derived.ChangeSlices
namespace Go.Proofs.Yteddeebhfnpchaa
open Go.RowKit
set_option linter.unusedVariables false

/-- A slice of spans, as an argument. -/
def SpArg (w : World) (a : Option Addr) (n c : Nat) (L : List SpanZ) : Prop := SpRow w a n L ∧ (a = none → n = 0 ∧ c = 0)
theorem SpArg.below {w W : World} {a : Option Addr} {n c : Nat} {L : List SpanZ} (h : SpArg w a n c L) (hb : Below w.heap.size w W) : SpArg W a n c L := ⟨h.1.below hb, h.2⟩
theorem SpArg.spans {w : World} {a : Option Addr} {n c : Nat} {L : List SpanZ} (h : SpArg w a n c L) : SpansZ L := fun s hs => h.1.2.1 s hs
theorem SpOut.arg {W0 wr : World} {V : Value} {L : List SpanZ} (h : SpOut W0 wr V L) : ∃ a c, V = .slice a L.length c ∧ SpArg wr a L.length c L := by
  obtain ⟨a, c, hV, hr, hn⟩ := h.row
  exact ⟨a, c, hV, hr, fun e => by
    obtain ⟨h1, h2⟩ := hn e
    subst h1
    exact ⟨rfl, h2⟩⟩

set_option maxHeartbeats 1000000 in
set_option maxRecDepth 10000 in
theorem goes_any (a b c : Option Addr) (n m k ca cb cc : Nat) (L M K : List SpanZ) (w : World) (ha : SpArg w a n ca L) (hb : SpArg w b m cb M) (hc : SpArg w c k cc K) :
    Calls Try.prog 5 #[.slice a n ca, .slice b m cb, .slice c k cc] w fun e w' => e = .returned (.bool true) ∧ Below w.heap.size w w' := by
  have UP := Lib.hid (awake_any w)
  have RA := Lib.hid ha
  have RB := Lib.hid hb
  have RC := Lib.hid hc
  have sa := ha.spans
  have sb := hb.spans
  have sc := hc.spans
  have HE : Hid (eqLS (bothS L M) (joinS L) = inS L M) := Lib.hid (eqLS_turned _ _)
  have HT : Hid (eqLS (bothS L M) (bothS M L) = true) := Lib.hid (by rw [bothS_turned sa sb]; exact eqLS_self _)
  have HL : Hid (inS (bothS L M) L = true) := Lib.hid (in_left sa sb)
  have HR : Hid (inS (bothS L M) M = true) := Lib.hid (in_right sa sb)
  have HN : Hid (inS [] L = true) := Lib.hid (in_none sa)
  have HG := Lib.hid (in_goes sa sb sc)
  have LJ := Lib.hid (joinS_len L)
  have LB := Lib.hid (both_len sa sb)
  have LC := Lib.hid (both_len sb sa)
  have LL := Lib.hid ha.1.1
  have LM := Lib.hid hb.1.1
  have LK := Lib.hid hc.1.1
  have CB := Lib.hid (fun (a b : Option Addr) (n m ca cb : Nat) (X Y : List SpanZ) (W : World) (h : SpArg W a n ca X) (hn : n ≤ 40000) (g : SpArg W b m cb Y) (hm : m ≤ 40000) => both_any a b n ca m cb X Y W h.1 h.2 hn g.1 g.2 hm)
  have CW := Lib.hid (fun (a b : Option Addr) (n m ca cb : Nat) (X Y : List SpanZ) (W : World) (h : SpArg W a n ca X) (hn : n ≤ 40000) (g : SpArg W b m cb Y) (hm : m ≤ 40000) => within_any a b n ca m cb X Y W h.1 h.2 hn g.1 g.2 hm)
  have CJ := Lib.hid (fun (a : Option Addr) (n ca : Nat) (X : List SpanZ) (W : World) (h : SpArg W a n ca X) (hn : n ≤ 40000) => join_any a n ca X W h.1 h.2 (by omega))
  have CS := Lib.hid (fun (a b : Option Addr) (n m ca cb : Nat) (X Y : List SpanZ) (W : World) (h : SpArg W a n ca X) (hn : n ≤ 40000) (g : SpArg W b m cb Y) (hm : m ≤ 40000) => same_any a b n ca m cb X Y W h.1 (by omega) g.1 (by omega))
  have B0 : Hid (Below w.heap.size w w) := Lib.hid (Below.refl _ _)
  clear ha hb hc sa sb sc
  go_enter Try.func5, Try.ntmps5
  have h20 : (n > 20) ∨ (n ≤ 20 ∧ m > 20) ∨ (n ≤ 20 ∧ m ≤ 20 ∧ k > 20) ∨ (n ≤ 20 ∧ m ≤ 20 ∧ k ≤ 20) := by omega
  rcases h20 with h | ⟨h, h'⟩ | ⟨h, h', h''⟩ | ⟨h, h', h''⟩
  · have t1 : decide ((20 : Int) < (n : Int)) = true := decide_eq_true (by omega)
    go_wp2_with (go_at_call 7; refine UP.out.mono ?_; rintro r w1 ⟨rfl, hb1⟩)
    go_ret
    exact ⟨rfl, hb1⟩
  · have t1 : decide ((20 : Int) < (n : Int)) = false := decide_eq_false (by omega)
    have t2 : decide ((20 : Int) < (m : Int)) = true := decide_eq_true (by omega)
    go_wp2_with (go_at_call 7; refine UP.out.mono ?_; rintro r w1 ⟨rfl, hb1⟩)
    go_ret
    exact ⟨rfl, hb1⟩
  · have t1 : decide ((20 : Int) < (n : Int)) = false := decide_eq_false (by omega)
    have t2 : decide ((20 : Int) < (m : Int)) = false := decide_eq_false (by omega)
    have t3 : decide ((20 : Int) < (k : Int)) = true := decide_eq_true (by omega)
    go_wp2_with (go_at_call 7; refine UP.out.mono ?_; rintro r w1 ⟨rfl, hb1⟩)
    go_ret
    exact ⟨rfl, hb1⟩
  · have t1 : decide ((20 : Int) < (n : Int)) = false := decide_eq_false (by omega)
    have t2 : decide ((20 : Int) < (m : Int)) = false := decide_eq_false (by omega)
    have t3 : decide ((20 : Int) < (k : Int)) = false := decide_eq_false (by omega)
    have QA : Hid (n ≤ 40000) := Lib.hid (by omega)
    have QB : Hid (m ≤ 40000) := Lib.hid (by omega)
    have QC : Hid (k ≤ 40000) := Lib.hid (by omega)
    have QR : Hid ((bothS L M).length ≤ 40000) := Lib.hid (by have := LB.out; have := LL.out; have := LM.out; omega)
    have QT : Hid ((bothS M L).length ≤ 40000) := Lib.hid (by have := LC.out; have := LL.out; have := LM.out; omega)
    have QJ : Hid ((joinS L).length ≤ 40000) := Lib.hid (by have := LJ.out; have := LL.out; omega)
    clear LJ LB LC LL LM LK h h' h''
    generalize hR : bothS L M = R at *
    generalize hT : bothS M L = T at *
    generalize hJ : joinS L = J at *
    have ER := Lib.hid hR
    have ET := Lib.hid hT
    have EJ := Lib.hid hJ
    clear hR hT hJ
    go_upto_region 9 with (first
      | (go_at_call 7
         refine UP.out.mono ?_
         rintro r w1 ⟨rfl, hb1⟩
         have RA1 := Lib.hid (RA.out.below hb1)
         have RB1 := Lib.hid (RB.out.below hb1)
         have RC1 := Lib.hid (RC.out.below hb1)
         have B1 := Lib.hid (Below.step B0.out hb1)
         clear hb1 UP B0 RA RB RC)
      | (go_at_call 11
         refine (CB.out _ _ _ _ _ _ _ _ _ RA1.out QA.out RB1.out QB.out).mono ?_
         rw [ER.out]
         rintro r w2 ⟨V2, rfl, ho2⟩
         obtain ⟨aR, cR, rfl, hr2⟩ := ho2.arg
         have RR2 := Lib.hid hr2
         have RA2 := Lib.hid (RA1.out.below ho2.2.1)
         have RB2 := Lib.hid (RB1.out.below ho2.2.1)
         have RC2 := Lib.hid (RC1.out.below ho2.2.1)
         have B2 := Lib.hid (Below.step B1.out ho2.2.1)
         clear ho2 hr2 RA1 RB1 RC1 B1)
      | (go_at_call 13
         refine (CW.out _ _ _ _ _ _ _ _ _ RA2.out QA.out RB2.out QB.out).mono ?_
         rintro r w3 ⟨rfl, hb3⟩
         have RR3 := Lib.hid (RR2.out.below hb3)
         have RA3 := Lib.hid (RA2.out.below hb3)
         have RB3 := Lib.hid (RB2.out.below hb3)
         have RC3 := Lib.hid (RC2.out.below hb3)
         have B3 := Lib.hid (Below.step B2.out hb3)
         clear hb3 RR2 RA2 RB2 RC2 B2)
      | (go_at_call 13
         refine (CW.out _ _ _ _ _ _ _ _ _ RB3.out QB.out RC3.out QC.out).mono ?_
         rintro r w4 ⟨rfl, hb4⟩
         have RR4 := Lib.hid (RR3.out.below hb4)
         have RA4 := Lib.hid (RA3.out.below hb4)
         have RB4 := Lib.hid (RB3.out.below hb4)
         have RC4 := Lib.hid (RC3.out.below hb4)
         have B4 := Lib.hid (Below.step B3.out hb4)
         clear hb4 RR3 RA3 RB3 RC3 B3)
      | (go_at_call 9
         refine (CJ.out _ _ _ _ _ RA4.out QA.out).mono ?_
         rw [EJ.out]
         rintro r w5 ⟨V5, rfl, ho5⟩
         obtain ⟨aJ, cJ, rfl, hr5⟩ := ho5.arg
         have RJ5 := Lib.hid hr5
         have RR5 := Lib.hid (RR4.out.below ho5.2.1)
         have RA5 := Lib.hid (RA4.out.below ho5.2.1)
         have RB5 := Lib.hid (RB4.out.below ho5.2.1)
         have RC5 := Lib.hid (RC4.out.below ho5.2.1)
         have B5 := Lib.hid (Below.step B4.out ho5.2.1)
         clear ho5 hr5 RR4 RA4 RB4 RC4 B4)
      | (go_at_call 8
         refine (CS.out _ _ _ _ _ _ _ _ _ RR5.out QR.out RJ5.out QJ.out).mono ?_
         rw [HE.out]
         rintro r w6 ⟨rfl, hb6⟩
         have RR6 := Lib.hid (RR5.out.below hb6)
         have RA6 := Lib.hid (RA5.out.below hb6)
         have RB6 := Lib.hid (RB5.out.below hb6)
         have RC6 := Lib.hid (RC5.out.below hb6)
         have B6 := Lib.hid (Below.step B5.out hb6)
         clear hb6 RJ5 RR5 RA5 RB5 RC5 B5)
      | (go_at_call 11
         refine (CB.out _ _ _ _ _ _ _ _ _ RB6.out QB.out RA6.out QA.out).mono ?_
         rw [ET.out]
         rintro r w7 ⟨V7, rfl, ho7⟩
         obtain ⟨aT, cT, rfl, hr7⟩ := ho7.arg
         have RT7 := Lib.hid hr7
         have RR7 := Lib.hid (RR6.out.below ho7.2.1)
         have RA7 := Lib.hid (RA6.out.below ho7.2.1)
         have RB7 := Lib.hid (RB6.out.below ho7.2.1)
         have RC7 := Lib.hid (RC6.out.below ho7.2.1)
         have B7 := Lib.hid (Below.step B6.out ho7.2.1)
         clear ho7 hr7 RR6 RA6 RB6 RC6 B6)
      | (go_at_call 8
         refine (CS.out _ _ _ _ _ _ _ _ _ RR7.out QR.out RT7.out QT.out).mono ?_
         rw [HT.out]
         rintro r w8 ⟨rfl, hb8⟩
         have RR8 := Lib.hid (RR7.out.below hb8)
         have RA8 := Lib.hid (RA7.out.below hb8)
         have RB8 := Lib.hid (RB7.out.below hb8)
         have RC8 := Lib.hid (RC7.out.below hb8)
         have B8 := Lib.hid (Below.step B7.out hb8)
         clear hb8 RT7 RR7 RA7 RB7 RC7 B7))
    have RN := Lib.hid (fun W => (show SpArg W none 0 0 [] from ⟨SpRow.nil _ _, fun _ => ⟨rfl, rfl⟩⟩))
    have Q0 : Hid (0 ≤ 40000) := Lib.hid (by omega)
    have C1 := Lib.hid (fun W (h : SpArg W aR R.length cR R) (g : SpArg W a n ca L) => (CW.out _ _ _ _ _ _ _ _ _ h QR.out g QA.out))
    have C2 := Lib.hid (fun W (h : SpArg W aR R.length cR R) (g : SpArg W b m cb M) => (CW.out _ _ _ _ _ _ _ _ _ h QR.out g QB.out))
    have C3 := Lib.hid (fun W (h : SpArg W a n ca L) (g : SpArg W c k cc K) => (CW.out _ _ _ _ _ _ _ _ _ h QA.out g QC.out))
    have C4 := Lib.hid (fun W (g : SpArg W a n ca L) => (CW.out _ _ _ _ _ _ _ _ _ (RN.out W) Q0.out g QA.out))
    rw [HL.out] at C1
    rw [HR.out] at C2
    rw [HN.out] at C4
    clear CB CW CS CJ HE HT HL HR HN ER ET EJ RN
    generalize inS L M = ab at *
    generalize inS M K = bc at *
    generalize inS L K = ac at *
    have hg := HG.out
    clear HG
    rcases (show (ab = true ∧ bc = true) ∨ ab = false ∨ (ab = true ∧ bc = false) from by cases ab <;> cases bc <;> simp) with ⟨rfl, rfl⟩ | rfl | ⟨rfl, rfl⟩
    · have e := hg rfl rfl
      subst e
      clear hg
      go_wp2_with (first
        | (go_at_call 13
           refine (C1.out _ RR8.out RA8.out).mono ?_
           rintro r w9 ⟨rfl, hb9⟩
           have RR9 := Lib.hid (RR8.out.below hb9)
           have RA9 := Lib.hid (RA8.out.below hb9)
           have RB9 := Lib.hid (RB8.out.below hb9)
           have RC9 := Lib.hid (RC8.out.below hb9)
           have B9 := Lib.hid (Below.step B8.out hb9)
           clear hb9 RR8 RA8 RB8 RC8 B8)
        | (go_at_call 13
           refine (C2.out _ RR9.out RB9.out).mono ?_
           rintro r w10 ⟨rfl, hb10⟩
           have RA10 := Lib.hid (RA9.out.below hb10)
           have RC10 := Lib.hid (RC9.out.below hb10)
           have B10 := Lib.hid (Below.step B9.out hb10)
           clear hb10 RR9 RA9 RB9 RC9 B9)
        | (go_at_call 13
           refine (C3.out _ RA10.out RC10.out).mono ?_
           rintro r w11 ⟨rfl, hb11⟩
           have RA11 := Lib.hid (RA10.out.below hb11)
           have B11 := Lib.hid (Below.step B10.out hb11)
           clear hb11 RA10 RC10 B10)
        | (go_at_call 13
           refine (C4.out _ RA11.out).mono ?_
           rintro r w12 ⟨rfl, hb12⟩
           have B12 := Lib.hid (Below.step B11.out hb12)
           clear hb12 B11))
      go_ret
      exact ⟨rfl, B12.out⟩
    · clear hg C3
      cases bc
      all_goals
        go_wp2_with (first
          | (go_at_call 13
             refine (C1.out _ RR8.out RA8.out).mono ?_
             rintro r w9 ⟨rfl, hb9⟩
             have RR9 := Lib.hid (RR8.out.below hb9)
             have RA9 := Lib.hid (RA8.out.below hb9)
             have RB9 := Lib.hid (RB8.out.below hb9)
             have RC9 := Lib.hid (RC8.out.below hb9)
             have B9 := Lib.hid (Below.step B8.out hb9)
             clear hb9 RR8 RA8 RB8 RC8 B8)
          | (go_at_call 13
             refine (C2.out _ RR9.out RB9.out).mono ?_
             rintro r w10 ⟨rfl, hb10⟩
             have RA10 := Lib.hid (RA9.out.below hb10)
             have RC10 := Lib.hid (RC9.out.below hb10)
             have B10 := Lib.hid (Below.step B9.out hb10)
             clear hb10 RR9 RA9 RB9 RC9 B9)
          | (go_at_call 13
             refine (C4.out _ RA10.out).mono ?_
             rintro r w12 ⟨rfl, hb12⟩
             have B12 := Lib.hid (Below.step B10.out hb12)
             clear hb12 B10))
        go_ret
        exact ⟨rfl, B12.out⟩
    · clear hg C3
      go_wp2_with (first
        | (go_at_call 13
           refine (C1.out _ RR8.out RA8.out).mono ?_
           rintro r w9 ⟨rfl, hb9⟩
           have RR9 := Lib.hid (RR8.out.below hb9)
           have RA9 := Lib.hid (RA8.out.below hb9)
           have RB9 := Lib.hid (RB8.out.below hb9)
           have RC9 := Lib.hid (RC8.out.below hb9)
           have B9 := Lib.hid (Below.step B8.out hb9)
           clear hb9 RR8 RA8 RB8 RC8 B8)
        | (go_at_call 13
           refine (C2.out _ RR9.out RB9.out).mono ?_
           rintro r w10 ⟨rfl, hb10⟩
           have RA10 := Lib.hid (RA9.out.below hb10)
           have RC10 := Lib.hid (RC9.out.below hb10)
           have B10 := Lib.hid (Below.step B9.out hb10)
           clear hb10 RR9 RA9 RB9 RC9 B9)
        | (go_at_call 13
           refine (C4.out _ RA10.out).mono ?_
           rintro r w12 ⟨rfl, hb12⟩
           have B12 := Lib.hid (Below.step B10.out hb12)
           clear hb12 B10))
      go_ret
      exact ⟨rfl, B12.out⟩

end Go.Proofs.Yteddeebhfnpchaa

namespace Go.Proofs.Yteddeebhfnpchaa
open Go.ChangeShapes Go.WideShapes Go.ChangeAt Go.RowKit Go.Deep
set_option linter.unusedVariables false

theorem mapM_eachA {α β : Type} {f : α → Option β} : ∀ (L : List α) (ys : List β), L.mapM f = some ys → ∀ a ∈ L, ∃ y, f a = some y
  | [], _, _, a, ha => by simp at ha
  | b :: L, ys, h, a, ha => by
    rw [List.mapM_cons] at h
    simp only [bind, Option.bind_eq_some_iff, pure, Option.some.injEq] at h
    obtain ⟨y, hy, zs, hz, _⟩ := h
    rcases List.mem_cons.1 ha with rfl | ha
    · exact ⟨y, hy⟩
    · exact mapM_eachA L zs hz a ha
/-- Each element of an array that can be read, can be read. -/
theorem array_eachA {H : Type} {enc : TypeId × Value → H} {P : Program} {W : World} {base : Nat} {sp : Nat → Bool} {held : Bool} {t e : TypeId} {n : Nat} (ht : P.underlying t = some (.array n e)) (hce : P.cellsOf e = 1)
    {fuel : Nat} {cs : List Value} {x : DataW H × List MemPlace} (h : DataW.trod enc P W base sp held fuel t cs = some x) : ∀ i, i < n → ∃ k y, DataW.trod enc P W base sp held k e ((cs.drop i).take 1) = some y := by
  intro i hi
  cases fuel with
  | zero => simp [DataW.trod] at h
  | succ k =>
    unfold DataW.trod at h
    rw [ht] at h
    simp only at h
    split at h
    · simp only [Option.map_eq_some_iff] at h
      obtain ⟨ys, hy, _⟩ := h
      obtain ⟨y, hy⟩ := mapM_eachA _ ys hy i (by simpa using hi)
      rw [hce, Nat.mul_one] at hy
      exact ⟨k, y, hy⟩
    · cases h
theorem one_atL {cs : List Value} {i : Nat} {a : Value} (h : (cs.drop i).take 1 = [a]) : cs[i]? = some a := by
  have : ((cs.drop i).take 1)[0]? = some a := by rw [h]; rfl
  rw [List.getElem?_take, if_pos (by omega), List.getElem?_drop, Nat.add_zero] at this
  exact this
section
variable {H : Type} {enc : TypeId × Value → H} {W : World} {base b0 : Nat} {held : Bool} {r : Reach} {v : Value} {d : DataW H} {ps : List MemPlace}
set_option maxRecDepth 100000 in
/-- An argument that is a prefix. -/
theorem open_prefix (hok : Value.okWide Try.prog W r b0 37 v) (hd : DataW.Trod enc Try.prog W base (fun _ => true) held 37 v d ps) :
    ∃ u A L, v = .agg (pcells u A L) ∧ Sixteen A ∧ -9223372036854775808 ≤ L ∧ L ≤ 9223372036854775807 := by
  obtain ⟨cs, rfl, hsz⟩ := okWide_struct Try.underlying37 hok
  rw [show Try.prog.cellsOf 37 = 18 by kernel_rfl] at hsz
  obtain ⟨fuel, hf⟩ := hd
  obtain ⟨y0, y1, y2, n, _, hl, h0, h1, h2⟩ := trod_struct3 Try.underlying37 hf
  rw [show Try.prog.cellsOf 4 = 1 by kernel_rfl] at h0
  rw [show Try.prog.cellsOf 28 = 16 by kernel_rfl] at h1
  rw [show Try.prog.cellsOf 3 = 1 by kernel_rfl] at h2
  obtain ⟨u, e0, _⟩ := DataW.trod_bool Try.underlying4 h0
  obtain ⟨L, e2, _, wL⟩ := DataW.trod_int Try.underlying3 h2
  have bL := bounds_i64 wL
  have E := array_eachA Try.underlying28 (show Try.prog.cellsOf 5 = 1 by kernel_rfl) h1
  have hcs : (Value.agg cs).cells = cs := by simp [Value.cells]
  rw [hcs] at e0 e2 E
  have F : ∀ i, ∃ x : Int, i < 16 → cs.toList[1 + i]? = some (.int .u8 x) ∧ 0 ≤ x ∧ x ≤ 255 := fun i => by
    by_cases hi : i < 16
    · obtain ⟨k0, z0, t0⟩ := E i hi
      obtain ⟨x, hx, _, wx⟩ := DataW.trod_int Try.underlying5 t0
      have := bounds_u8 wx
      have e := one_atL hx
      rw [List.getElem?_take, if_pos hi, List.getElem?_drop] at e
      exact ⟨x, fun _ => ⟨e, by omega⟩⟩
    · exact ⟨0, fun h => absurd h hi⟩
  obtain ⟨f, hf'⟩ := Classical.axiomOfChoice F
  have g0 : cs.toList[0]? = some (.bool u) := one_atL e0
  have g2 : cs.toList[17]? = some (.int .i64 L) := one_atL e2
  have hA : Sixteen ((List.range 16).map f) := ⟨by simp, fun x hx => by
    obtain ⟨i, hi, rfl⟩ := List.mem_map.1 hx
    exact (hf' i (by simpa using hi)).2⟩
  refine ⟨u, (List.range 16).map f, L, ?_, hA, by omega, by omega⟩
  have : cs = pcells u ((List.range 16).map f) L := by
    apply Array.ext'
    apply List.ext_getElem?
    intro j
    rw [Array.getElem?_toList (xs := pcells u _ L)]
    rcases Nat.lt_or_ge j 18 with hj | hj
    · rcases (show j = 0 ∨ j = 17 ∨ (1 ≤ j ∧ j < 17) by omega) with rfl | rfl | ⟨j1, j2⟩
      · rw [g0, pcells_v]
      · rw [g2, pcells_l hA.1]
      · obtain ⟨i, rfl⟩ : ∃ i, j = 1 + i := ⟨j - 1, by omega⟩
        rw [(hf' i (by omega)).1, pcells_a hA.1 i (by omega)]
        simp [show i < 16 by omega]
    · rw [List.getElem?_eq_none (by rw [Array.length_toList, hsz]; exact hj), Array.getElem?_eq_none (by rw [pcells_size hA.1]; exact hj)]
  rw [this]
end

end Go.Proofs.Yteddeebhfnpchaa

namespace Go.Proofs.Yteddeebhfnpchaa
open Go.ChangeShapes Go.WideShapes Go.ChangeAt Go.RowKit Go.Deep
set_option linter.unusedVariables false
section
variable {H : Type} {enc : TypeId × Value → H}
/-- Sixteen bytes out of the cells. -/
theorem read_six {cs : List Value} {q : Nat} {P : Program} {W : World} {base : Nat} {sp : Nat → Bool} {held : Bool} {t e : TypeId} {fuel : Nat} {x : DataW H × List MemPlace} (ht : P.underlying t = some (.array 16 e)) (he : P.underlying e = some (.int .u8)) (hce : P.cellsOf e = 1)
    (h : DataW.trod enc P W base sp held fuel t ((cs.drop q).take 16) = some x) : ∃ A : List Int, Sixteen A ∧ ∀ i, i < 16 → cs[q + i]? = (acells A)[i]? := by
  have E := array_eachA ht hce h
  have F : ∀ i, ∃ x : Int, i < 16 → cs[q + i]? = some (.int .u8 x) ∧ 0 ≤ x ∧ x ≤ 255 := fun i => by
    by_cases hi : i < 16
    · obtain ⟨k0, z0, t0⟩ := E i hi
      obtain ⟨x, hx, _, wx⟩ := DataW.trod_int he t0
      have := bounds_u8 wx
      have e := one_atL hx
      rw [List.getElem?_take, if_pos hi, List.getElem?_drop] at e
      exact ⟨x, fun _ => ⟨e, by omega⟩⟩
    · exact ⟨0, fun h => absurd h hi⟩
  obtain ⟨f, hf'⟩ := Classical.axiomOfChoice F
  refine ⟨(List.range 16).map f, ⟨by simp, fun x hx => ?_⟩, fun i hi => ?_⟩
  · obtain ⟨i, hi, rfl⟩ := List.mem_map.1 hx
    exact (hf' i (by simpa using hi)).2
  · rw [(hf' i hi).1]
    simp [acells, hi]
set_option maxRecDepth 100000 in
theorem span_cells {w : World} {base : Nat} {held : Bool} {fuel : Nat} {cs : List Value} {x : DataW H × List MemPlace} (hf : DataW.trod enc Try.prog w base (fun _ => true) held fuel 30 cs = some x) : ∃ s, SixS s ∧ ∀ i, i < 33 → cs[i]? = (scL s)[i]? := by
  obtain ⟨y0, y1, y2, n, _, hl, h0, h1, h2⟩ := trod_struct3 Try.underlying30 hf
  rw [show Try.prog.cellsOf 4 = 1 by kernel_rfl] at h0
  rw [show Try.prog.cellsOf 28 = 16 by kernel_rfl] at h1 h2
  obtain ⟨u, e0, _⟩ := DataW.trod_bool Try.underlying4 h0
  obtain ⟨A, hA, eA⟩ := read_six (cs := cs) (q := 1) Try.underlying28 Try.underlying5 (by kernel_rfl) h1
  obtain ⟨B, hB, eB⟩ := read_six (cs := cs) (q := 17) Try.underlying28 Try.underlying5 (by kernel_rfl) h2
  refine ⟨⟨u, A, B⟩, ⟨hA, hB⟩, fun i hi => ?_⟩
  have g0 : cs[0]? = some (.bool u) := one_atL e0
  rcases (show i = 0 ∨ (1 ≤ i ∧ i < 17) ∨ 17 ≤ i by omega) with rfl | ⟨i1, i2⟩ | i3
  · rw [g0]
    rfl
  · obtain ⟨j, rfl⟩ : ∃ j, i = 1 + j := ⟨i - 1, by omega⟩
    rw [eA j (by omega), Nat.add_comm 1 j]
    show _ = (Value.bool u :: (acells A ++ acells B))[j + 1]?
    rw [List.getElem?_cons_succ, List.getElem?_append_left (by rw [acells_len hA.1]; omega)]
  · obtain ⟨j, rfl⟩ : ∃ j, i = 17 + j := ⟨i - 17, by omega⟩
    rw [eB j (by omega), show 17 + j = (16 + j) + 1 by omega]
    show _ = (Value.bool u :: (acells A ++ acells B))[16 + j + 1]?
    rw [List.getElem?_cons_succ, List.getElem?_append_right (by rw [acells_len hA.1]; omega), acells_len hA.1, show 16 + j - 16 = j by omega]
/-- An argument of type []Span. -/
theorem open_spans {w : World} {held : Bool} {K : Option Addr} {k d : Nat} {x : DataW H} {p : List MemPlace} (h : DataW.Trod enc Try.prog w 0 (fun _ => true) held 22 (.slice K k d) x p) :
    ∃ L : List SpanZ, SpArg w K k d L := by
  obtain ⟨fuel, hf⟩ := h
  rcases DataW.trod_slice Try.underlying22 hf with ⟨hcs, _⟩ | ⟨a, len, cap, elems, rest, n', hn', hcs, _, _, hl, hm, hlen, hel, _, _⟩
  · simp [Value.cells] at hcs
    obtain ⟨rfl, rfl, rfl⟩ := hcs
    exact ⟨[], SpRow.nil _ _, fun _ => ⟨rfl, rfl⟩⟩
  · simp [Value.cells] at hcs
    obtain ⟨rfl, rfl, rfl⟩ := hcs
    rw [show Try.prog.cellsOf 30 = 33 by kernel_rfl] at hel
    have E : ∀ i, ∃ s, i < k → SixS s ∧ ∀ j, j < 33 → w.cell? ((a.add (i * 33)).add j) = (scL s)[j]? := fun i => by
      by_cases hi : i < k
      · have he := hel i hi
        rw [List.getElem?_eq_getElem (by omega)] at he
        obtain ⟨ci, hci, hti⟩ := Option.bind_eq_some_iff.1 he
        obtain ⟨s, hs, hc⟩ := span_cells hti
        obtain ⟨hci2, _, hcc⟩ := World.cells?_some hci
        refine ⟨s, fun _ => ⟨hs, fun j hj => ?_⟩⟩
        rw [← hc j hj]
        have := hcc j (by omega)
        simpa using this
      · exact ⟨zeroS, fun h => absurd h hi⟩
    obtain ⟨f, hf'⟩ := Classical.axiomOfChoice E
    have six : SixL ((List.range k).map f) := fun s hs => by
      obtain ⟨i, hi, rfl⟩ := List.mem_map.1 hs
      exact (hf' i (by simpa using hi)).1
    refine ⟨(List.range k).map f, ⟨by simp, six, fun hpos => ?_⟩, fun h => (by cases h)⟩
    obtain ⟨b, off, spot⟩ := a
    have hc0 := (hf' 0 hpos).2 0 (by omega)
    have hc1 : w.cell? (((⟨b, off, spot⟩ : Addr).add (0 * 33)).add 0) = some (.bool (f 0).v) := hc0
    have hspot : spot = none := by simpa [Addr.add] using World.cell?_spot hc1
    subst hspot
    refine ⟨b, off, rfl, by have := cell_block hc1; simpa [Addr.add] using this, fun i hi => ?_⟩
    have hq : i / 33 < k := Nat.div_lt_of_lt_mul (by omega)
    have hr : i % 33 < 33 := Nat.mod_lt _ (by omega)
    have g := (hf' (i / 33) hq).2 (i % 33) hr
    rw [Addr.add_lit, Addr.add_lit] at g
    have e : off + i / 33 * 33 + i % 33 = off + i := by have := Nat.div_add_mod i 33; omega
    rw [e] at g
    rw [g]
    have fa := flatS_at six (i / 33) (i % 33) (by simpa using hq) hr
    rw [show i / 33 * 33 + i % 33 = i by have := Nat.div_add_mod i 33; omega] at fa
    rw [fa]
    simp
end
end Go.Proofs.Yteddeebhfnpchaa
