/-
  The walk of the law TlvReads; what the package's Read and awake answer is asked as premises of this walk alone (the proof gives them by the landed code's own contracts).
-/
import Derived.Test.YtefdfdnfpacfjaaReadT
import Derived.Test.YtefdfdnfpacfjaaSameT
namespace Go.Proofs.Ytefdfdnfpacfjaa
open Go.RowKit
set_option linter.unusedVariables false

theorem zero_in (w : World) : (T.node 0 [] []).In w (.agg #[.int .i64 0, .slice none 0 0, .slice none 0 0]) := by
  unfold T.In
  exact ⟨none, 0, 0, none, 0, 0, rfl, rfl, Row.nil _ _, Nat.zero_le _, fun _ => rfl, rfl, Nat.zero_le _, fun h => absurd h (by omega)⟩
/-- What Read answers, as one word: the tree, the value and the error. -/
def treeOf (x : Except Int T) : T := match x with | .ok t => t | .error _ => .node 0 [] []
def errOf (x : Except Int T) : Int := match x with | .ok _ => 0 | .error z => z
theorem read_one {x : Except Int T} {w w' : World} {e : Ending} (h : GivesRead x w e w') : Below w.heap.size w w' ∧ ∃ A n c K m d, e = .returned (.tuple #[.agg #[.int .i64 (treeOf x).tag, .slice A n c, .slice K m d], .int .i64 (errOf x)]) ∧ (treeOf x).In w' (.agg #[.int .i64 (treeOf x).tag, .slice A n c, .slice K m d]) := by
  obtain ⟨hb, ⟨z, rfl, rfl⟩ | ⟨t, v, rfl, rfl, hin⟩⟩ := h
  · exact ⟨hb, none, 0, 0, none, 0, 0, rfl, zero_in _⟩
  · obtain ⟨A, n, c, K, m, d, rfl⟩ := hin.form
    exact ⟨hb, A, n, c, K, m, d, rfl, hin.in⟩

set_option maxHeartbeats 1000000 in
theorem reads_walk (AW0 : ∀ w : World, Calls Try.prog 9 #[] w fun e w' => e = .returned (.bool true) ∧ Below w.heap.size w w')
    (RD0 : ∀ (a : Option Addr) (n ca : Nat) (zs : List Int) (w : World), Row w a n zs → n ≤ ca → n ≤ 30000 → (a = none → ca = 0) → Calls Try.prog 10 #[.slice a n ca] w (GivesRead (readZ zs) w))
    (a0 : Option Addr) (len0 cap0 : Nat) (zs : List Int) (w : World) (hr : Row w a0 len0 zs) (hm : len0 ≤ maxLen) (hnc : len0 ≤ cap0) (hnil : a0 = none → cap0 = 0) : Calls Try.prog 3 #[.slice a0 len0 cap0] w fun e w' => e = .returned (.bool true) ∧ Below w.heap.size w w' := by
  have R0 := Lib.hid hr
  have AW := Lib.hid AW0
  have RD := Lib.hid RD0
  have NI := Lib.hid hnil
  clear hr AW0 RD0 hnil
  unfold maxLen at hm
  by_cases h0 : 21000 < len0
  · have t0 : decide (21000 < (len0 : Int)) = true := by simp; omega
    go_enter Try.func3, Try.ntmps3
    go_wp2_with fail
    refine (AW.out _).mono ?_
    rintro e w9 ⟨rfl, hb⟩
    have HB := Lib.hid hb
    clear hb
    go_wp2
    go_ret
    exact ⟨rfl, by have := HB.out; exact this⟩
  · go_enter Try.func3, Try.ntmps3
    go_wp2_with fail
    refine (AW.out _).mono ?_
    rintro e w2 ⟨rfl, hb2⟩
    go_wp2_with fail
    refine (RD.out _ _ _ _ _ (R0.out.below hb2) hnc (by omega) NI.out).mono ?_
    intro e w3 h3
    obtain ⟨hb3, A, n, c, K, m, d, rfl, hin3⟩ := read_one h3
    clear h3
    have HB2 : Hid (Below w.heap.size w w2) := hb2
    have IN3 := Lib.hid (T.In.below ((Below.refl _ _).alloc (Nat.le_refl _) (.cells #[.int .i64 (treeOf (readZ zs)).tag, .slice A n c, .slice K m d] 26)) _ hin3)
    have K3 := Lib.hid (Blk.new w3 26 #[.int .i64 (treeOf (readZ zs)).tag, .slice A n c, .slice K m d])
    have HB3 : Hid (Below w2.heap.size w2 (w3.alloc (.cells #[.int .i64 (treeOf (readZ zs)).tag, .slice A n c, .slice K m d] 26))) := Below.step hb3 ((Below.refl _ _).alloc (Nat.le_refl _) _)
    clear hb2 hb3 hin3
    go_wp2_with fail
    refine (rread_any _ _ _ _ _ ((R0.out.below HB2.out).below HB3.out) hnc (by omega)).mono ?_
    intro e w4 h4
    obtain ⟨hb4, A4, n4, c4, K4, m4, d4, rfl, hin4⟩ := read_one h4
    have L4 := Lib.hid ((K3.out.below hb4 (by simp)).alloc (.cells #[.int .i64 (treeOf (readZ zs)).tag, .slice A4 n4 c4, .slice K4 m4 d4] 26))
    have M4 := Lib.hid (Blk.new w4 26 #[.int .i64 (treeOf (readZ zs)).tag, .slice A4 n4 c4, .slice K4 m4 d4])
    have HB4 : Hid (Below (w3.alloc (.cells #[.int .i64 (treeOf (readZ zs)).tag, .slice A n c, .slice K m d] 26)).heap.size (w3.alloc (.cells #[.int .i64 (treeOf (readZ zs)).tag, .slice A n c, .slice K m d] 26)) (w4.alloc (.cells #[.int .i64 (treeOf (readZ zs)).tag, .slice A4 n4 c4, .slice K4 m4 d4] 26))) := Below.step hb4 ((Below.refl _ _).alloc (Nat.le_refl _) _)
    have IN4 := Lib.hid (T.In.below ((Below.refl _ _).alloc (Nat.le_refl _) (.cells #[.int .i64 (treeOf (readZ zs)).tag, .slice A4 n4 c4, .slice K4 m4 d4] 26)) _ hin4)
    obtain ⟨p0, p1, p2, f0, f1, f2⟩ := L4.out.facts
    obtain ⟨q0, q1, q2, g0, g1, g2⟩ := M4.out.facts
    clear h4 hb4 hin4
    go_wp2_with fail
    refine (same_any (treeOf (readZ zs)) (treeOf (readZ zs)) _ _ _ (T.In.below HB4.out _ IN3.out) IN4.out).mono ?_
    rintro e w5 ⟨rfl, hb5⟩
    have HB5 := Lib.hid hb5
    have SR := Lib.hid (same_refl (treeOf (readZ zs)))
    clear hb5
    rw [SR.out]
    go_wp2
    go_ret
    exact ⟨by simp, Ext.trans (Ext.trans (Ext.trans HB2.out HB3.out) HB4.out) HB5.out⟩
end Go.Proofs.Ytefdfdnfpacfjaa
