/-
  Merged texts: RsJ.
-/
import Derived.Test.YtdhablbfblkagaaDoorGrI
namespace Go.Proofs.YtdhablbfblkagaaDoor
open Go.RowKit
set_option linter.unusedVariables false

theorem conv_later {wr : World} {a : Option Addr} {n : Nat} {zs : List Int} (c : Nat) (h : Row wr a n zs) : ∀ W, Ext wr.drew W → (convert 22 9 (.slice a n c)).run Tryd.prog W = .ok (.string (strOfNums zs)) W := by
  intro W hW
  exact conv_at c (Row.below (w := wr.drew) h hW)

set_option maxHeartbeats 2000000 in
set_option maxRecDepth 100000 in
theorem verifies_walk (a b p : Option Addr) (n c m d tn tc : Nat) (e : Int) (ns ss ts : List Int) (w : World) (hk : KeyAt w a n c e ns) (hn : n ≤ maxLen) (ht : Row w p tn ts) (htm : tn ≤ maxLen) (htc : tn ≤ tc) (hp : p = none → tc = 0) (hs : Row w b m ss) (hm : m ≤ maxLen) (hta : Tab w) :
    Calls Tryd.prog 3 #[.agg #[.slice a n c, .int .u32 e], .slice p tn tc, .slice b m d] w fun r w' => r = .returned (.bool true) ∧ Below w.heap.size w w' := by
  have BX := Lib.hid (key_box w a n c e)
  have BW := Lib.hid (box_below w (.cells #[.slice a n c, .int .u32 e] 25))
  have K2 := Lib.hid (hk.below BW.out)
  have S2 := Lib.hid (hs.below BW.out)
  have T2 := Lib.hid (ht.below BW.out)
  have A2 := Lib.hid (hta.below BW.out)
  have HP := Lib.hid hp
  have HC := Lib.hid htc
  have c0 := BX.out.cell 0
  have c1 := BX.out.cell 1
  simp only [List.getElem?_toArray, List.getElem?_cons_zero, List.getElem?_cons_succ] at c0 c1
  have e0 := hk.2.2.2
  clear hk hs ht hp hta htc
  go_enter Tryd.func3, Tryd.ntmps3
  generalize hw2 : w.alloc (.cells #[.slice a n c, .int .u32 e] 25) = w2 at *
  have AW := Lib.hid (awake_any w2)
  go_wp2_with fail
  refine AW.out.mono ?_
  rintro r w3 ⟨rfl, hb3⟩
  have B3 := Lib.hid (Below.step BW.out hb3)
  have K3 := Lib.hid (K2.out.below hb3)
  have S3 := Lib.hid (S2.out.below hb3)
  have T3 := Lib.hid (T2.out.below hb3)
  have A3 := Lib.hid (A2.out.below hb3)
  have X3 := Lib.hid (BX.out.below hb3 BX.out.lt)
  have d0 := X3.out.cell 0
  have d1 := X3.out.cell 1
  simp only [List.getElem?_toArray, List.getElem?_cons_zero, List.getElem?_cons_succ] at d0 d1
  clear hb3 AW BW K2 S2 T2 A2 BX c0 c1 hw2
  have LK := Lib.hid (light_any a n c e ns w3 K3.out hn)
  go_wp2_with fail
  refine LK.out.mono ?_
  rintro r w4 ⟨rfl, hb4⟩
  have B4 := Lib.hid (Below.step B3.out hb4)
  have K4 := Lib.hid (K3.out.below hb4)
  have S4 := Lib.hid (S3.out.below hb4)
  have T4 := Lib.hid (T3.out.below hb4)
  have A4 := Lib.hid (A3.out.below hb4)
  have X4 := Lib.hid (X3.out.below hb4 X3.out.lt)
  have c0 := X4.out.cell 0
  have c1 := X4.out.cell 1
  simp only [List.getElem?_toArray, List.getElem?_cons_zero, List.getElem?_cons_succ] at c0 c1
  clear hb4 LK B3 K3 S3 T3 A3 X3 d0 d1
  by_cases h1 : n ≤ 140
  · rw [decide_eq_true h1]
    by_cases h2 : 1000 < tn
    · have t2 : decide ((1000 : Int) < (tn : Int)) = true := decide_eq_true (by omega)
      go_wp2_with fail
      go_ret
      exact ⟨rfl, B4.out⟩
    have t2 : decide ((1000 : Int) < (tn : Int)) = false := decide_eq_false (by omega)
    by_cases h3 : 300 < m
    · have t3 : decide ((300 : Int) < (m : Int)) = true := decide_eq_true (by omega)
      go_wp2_with fail
      go_ret
      exact ⟨rfl, B4.out⟩
    have t3 : decide ((300 : Int) < (m : Int)) = false := decide_eq_false (by omega)
    have CP := Lib.hid (power_any a b n c m d e ns ss w4 K4.out (by omega) S4.out (by omega))
    go_wp2_with fail
    refine CP.out.mono ?_
    rintro r w5 ⟨a5, c5, rfl, hr5, hc5, hn5, hb5⟩
    have B5 := Lib.hid (Below.step B4.out hb5)
    have K5 := Lib.hid (K4.out.below hb5)
    have S5 := Lib.hid (S4.out.below hb5)
    have T5 := Lib.hid (T4.out.below hb5)
    have A5 := Lib.hid (A4.out.below hb5)
    have X5 := Lib.hid (X4.out.below hb5 X4.out.lt)
    have P5 := Lib.hid hr5
    have d0 := X5.out.cell 0
    have d1 := X5.out.cell 1
    simp only [List.getElem?_toArray, List.getElem?_cons_zero, List.getElem?_cons_succ] at d0 d1
    clear hb5 hr5 hc5 hn5 CP B4 K4 S4 T4 A4 X4 c0 c1
    have CQ := Lib.hid (rpower_any a b n c m d e ns ss w5 K5.out (by omega) S5.out (by omega))
    go_wp2_with fail
    refine CQ.out.mono ?_
    rintro r w6 ⟨a6, c6, rfl, hr6, hc6, hn6, hb6⟩
    have B6 := Lib.hid (Below.step B5.out hb6)
    have K6 := Lib.hid (K5.out.below hb6)
    have S6 := Lib.hid (S5.out.below hb6)
    have T6 := Lib.hid (T5.out.below hb6)
    have A6 := Lib.hid (A5.out.below hb6)
    have X6 := Lib.hid (X5.out.below hb6 X5.out.lt)
    have P6 := Lib.hid (P5.out.below hb6)
    have Q6 := Lib.hid hr6
    have c0 := X6.out.cell 0
    have c1 := X6.out.cell 1
    simp only [List.getElem?_toArray, List.getElem?_cons_zero, List.getElem?_cons_succ] at c0 c1
    clear hb6 hr6 hc6 hn6 CQ B5 K5 S5 T5 A5 X5 P5 d0 d1
    have CV := Lib.hid (fun W (hb : Below w6.heap.size w6 W) => verify_any a b p n c m d tn tc e ns ss ts W (K6.out.below hb) (by omega) (T6.out.below hb) (by omega) HC.out (S6.out.below hb) (by omega) (A6.out.below hb))
    have CW := Lib.hid (fun W (hb : Below w6.heap.size w6 W) => rverify_any a b p n c m d tn tc e ns ss ts W (K6.out.below hb) (by omega) (T6.out.below hb) (by omega) HP.out (S6.out.below hb) (by omega))
    have m0 := cell_later c0
    have m1 := cell_later c1
    have v1 := conv_later c5 P6.out
    have v2 := conv_later c6 Q6.out
    clear K6 S6 T6 A6 X6 P6 Q6 c0 c1
    generalize powZ ns e ss = pz at *
    generalize errZ ns e ss = ez at *
    generalize verZ ns e ts ss = vz at *
    go_wp2_with fail
    refine wp_region_ord Ext Ext.refl (fun _ _ _ => Ext.trans) ((0, false) :: (1, false) :: (2, false) :: (3, false) :: (4, false) :: (5, false) :: (6, false) :: (7, false) :: (8, false) :: (9, false) :: (10, false) :: (11, false) :: (12, false) :: (13, false) :: (14, false) :: (15, false) :: (16, false) :: (18, false) :: (19, false) :: (20, false) :: (17, true) :: (21, true) :: (22, false) :: (23, false) :: (24, false) :: []) (by kernel_rfl) (by kernel_rfl) rfl (by kernel_rfl) (fun _ _ _ _ _ h => h) ?_
    repeat (refine ord_take _ rfl (by rfl) (fun W hW => by go_simp; first | done | rfl) ?_; simp only [Act.put, List.setIfInBounds_toArray, List.set_cons_zero, List.set_cons_succ])
    clear m0 m1 v1 v2
    refine ord_sole rfl (by rfl) (fun K1 hK1 => ?_)
    go_simp
    refine (CV.out _ (drewN_below w6 1)).mono ?_
    rintro r w7 ⟨rfl, hb7⟩
    refine hK1 _ _ hb7 ?_
    have E7 : Ext w6 w7 := Ext.of_drew hb7
    have B7 := Lib.hid (Below.step B6.out E7)
    have CX := Lib.hid (CW.out w7 E7)
    clear hK1 K1 hb7 E7 CV CW
    refine ord_sole rfl (by rfl) (fun K1 hK1 => ?_)
    go_simp
    refine CX.out.mono ?_
    rintro r w8 ⟨rfl, hb8⟩
    refine hK1 _ _ hb8 ?_
    have B8 := Lib.hid (Below.step B7.out hb8)
    clear hK1 K1 hb8 CX
    repeat (refine ord_take _ rfl (by rfl) (fun W hW => by go_simp; first | done | rfl) ?_; simp only [Act.put, List.setIfInBounds_toArray, List.set_cons_zero, List.set_cons_succ])
    refine ord_end ?_
    go_wp2_with fail
    go_ret
    exact ⟨rfl, B8.out⟩
  · rw [decide_eq_false h1]
    go_wp2_with fail
    go_ret
    exact ⟨rfl, B4.out⟩

end Go.Proofs.YtdhablbfblkagaaDoor
