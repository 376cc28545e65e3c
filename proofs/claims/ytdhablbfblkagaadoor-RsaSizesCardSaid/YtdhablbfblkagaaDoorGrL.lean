/-
  Merged texts: RsL.
-/
import Derived.Test.YtdhablbfblkagaaDoorGrI
namespace Go.Proofs.YtdhablbfblkagaaDoor
open Go.RowKit
set_option linter.unusedVariables false

theorem size_ways {ns : List Int} {e : Int} {ss : List Int} (ts : List Int) (hb : ∀ x ∈ ns, 0 ≤ x ∧ x ≤ 255) : (rightZ ns e = false → errZ ns e ss = 1 ∧ verZ ns e ts ss = 1) ∧ (rightZ ns e = true → (ss.length ≠ ns.length → errZ ns e ss = 6 ∧ verZ ns e ts ss = 6) ∧ (ss.length = ns.length → (beV ns ≤ beV ss → errZ ns e ss = 6 ∧ verZ ns e ts ss = 6) ∧ (beV ss < beV ns → errZ ns e ss = 0 ∧ (verZ ns e ts ss = 0 ∨ verZ ns e ts ss = 6) ∧ (powZ ns e ss).length = ns.length ∧ beV (powZ ns e ss) < beV ns))) := by
  have h1 : ∀ r, r ≠ 0 → errZ ns e ss = r → errZ ns e ss = r ∧ verZ ns e ts ss = r := by
    intro r hr h
    refine ⟨h, ?_⟩
    unfold verZ
    rw [if_neg (by omega)]
    exact h
  have P := pow_ways (ns := ns) (e := e) (ss := ss)
  refine ⟨fun h => h1 1 (by omega) (P.1 h).1, fun h => ⟨fun hl => h1 6 (by omega) ((P.2 h).1 hl).1, fun hl => ⟨fun hv => h1 6 (by omega) (((P.2 h).2 hl).1 hv).1, fun hv => ?_⟩⟩⟩
  have h2 := (((P.2 h).2 hl).2 hv).1
  refine ⟨h2, ?_, pow_len hb h2, ?_⟩
  · unfold verZ
    rw [if_pos h2]
    split <;> simp
  · rw [pow_val hb h2]
    exact (exp_lt ss hb h).2

set_option maxHeartbeats 2000000 in
set_option maxRecDepth 100000 in
theorem sizes_walk (a b p : Option Addr) (n c m d tn tc : Nat) (e : Int) (ns ss ts : List Int) (w : World) (hk : KeyAt w a n c e ns) (hn : n ≤ maxLen) (ht : Row w p tn ts) (htm : tn ≤ maxLen) (htc : tn ≤ tc) (hs : Row w b m ss) (hm : m ≤ maxLen) (hta : Tab w) :
    Calls Tryd.prog 5 #[.agg #[.slice a n c, .int .u32 e], .slice p tn tc, .slice b m d] w fun r w' => r = .returned (.bool true) ∧ Below w.heap.size w w' := by
  have BX := Lib.hid (key_box w a n c e)
  have BW := Lib.hid (box_below w (.cells #[.slice a n c, .int .u32 e] 25))
  have K2 := Lib.hid (hk.below BW.out)
  have S2 := Lib.hid (hs.below BW.out)
  have T2 := Lib.hid (ht.below BW.out)
  have A2 := Lib.hid (hta.below BW.out)
  have HC := Lib.hid htc
  have c0 := BX.out.cell 0
  have c1 := BX.out.cell 1
  simp only [List.getElem?_toArray, List.getElem?_cons_zero, List.getElem?_cons_succ] at c0 c1
  have e0 := hk.2.2.2
  have HLN := Lib.hid hk.1.1
  have HLS := Lib.hid hs.1
  have SW := Lib.hid (size_ways (ns := ns) (e := e) (ss := ss) ts hk.1.2.1)
  have PB := Lib.hid (pow_byte ns e ss)
  have NB := Lib.hid hk.1.2.1
  have SB := Lib.hid hs.2.1
  clear hk hs ht hta htc
  go_enter Tryd.func5, Tryd.ntmps5
  generalize hw2 : w.alloc (.cells #[.slice a n c, .int .u32 e] 25) = w2 at *
  have AW := Lib.hid (awake_any w2)
  go_wp2_with fail
  refine AW.out.mono ?_
  rintro r w3 ⟨rfl, hb3⟩
  have B3 := Lib.hid (Below.step BW.out hb3)
  have K3 := Lib.hid (K2.out.below hb3)
  have S3 := Lib.hid (S2.out.below hb3)
  have T3 := Lib.hid (T2.out.below hb3)
  have A3 := Lib.hid (A2.out.below hb3)
  have X3 := Lib.hid (BX.out.below hb3 BX.out.lt)
  have d0 := X3.out.cell 0
  have d1 := X3.out.cell 1
  simp only [List.getElem?_toArray, List.getElem?_cons_zero, List.getElem?_cons_succ] at d0 d1
  clear hb3 AW BW K2 S2 T2 A2 BX c0 c1 hw2
  have LK := Lib.hid (light_any a n c e ns w3 K3.out hn)
  go_wp2_with fail
  refine LK.out.mono ?_
  rintro r w4 ⟨rfl, hb4⟩
  have B4 := Lib.hid (Below.step B3.out hb4)
  have K4 := Lib.hid (K3.out.below hb4)
  have S4 := Lib.hid (S3.out.below hb4)
  have T4 := Lib.hid (T3.out.below hb4)
  have A4 := Lib.hid (A3.out.below hb4)
  have X4 := Lib.hid (X3.out.below hb4 X3.out.lt)
  have c0 := X4.out.cell 0
  have c1 := X4.out.cell 1
  simp only [List.getElem?_toArray, List.getElem?_cons_zero, List.getElem?_cons_succ] at c0 c1
  clear hb4 LK B3 K3 S3 T3 A3 X3 d0 d1
  by_cases h1 : n ≤ 140
  · rw [decide_eq_true h1]
    by_cases h2 : 500 < tn
    · have t2 : decide ((500 : Int) < (tn : Int)) = true := decide_eq_true (by omega)
      go_wp2_with fail
      go_ret
      exact ⟨rfl, B4.out⟩
    have t2 : decide ((500 : Int) < (tn : Int)) = false := decide_eq_false (by omega)
    by_cases h3 : 300 < m
    · have t3 : decide ((300 : Int) < (m : Int)) = true := decide_eq_true (by omega)
      go_wp2_with fail
      go_ret
      exact ⟨rfl, B4.out⟩
    have t3 : decide ((300 : Int) < (m : Int)) = false := decide_eq_false (by omega)
    have CP := Lib.hid (verify_any a b p n c m d tn tc e ns ss ts w4 K4.out (by omega) T4.out (by omega) HC.out S4.out (by omega) A4.out)
    go_wp2_with fail
    refine CP.out.mono ?_
    rintro r w5 ⟨rfl, hb5⟩
    have B5 := Lib.hid (Below.step B4.out hb5)
    have K5 := Lib.hid (K4.out.below hb5)
    have S5 := Lib.hid (S4.out.below hb5)
    have X5 := Lib.hid (X4.out.below hb5 X4.out.lt)
    have d0 := X5.out.cell 0
    have d1 := X5.out.cell 1
    simp only [List.getElem?_toArray, List.getElem?_cons_zero, List.getElem?_cons_succ] at d0 d1
    clear hb5 CP B4 K4 S4 T4 A4 X4 c0 c1
    have CQ := Lib.hid (power_any a b n c m d e ns ss w5 K5.out (by omega) S5.out (by omega))
    go_wp2_with fail
    refine CQ.out.mono ?_
    rintro r w6 ⟨a6, c6, rfl, hr6, hc6, hn6, hb6⟩
    have B6 := Lib.hid (Below.step B5.out hb6)
    have K6 := Lib.hid (K5.out.below hb6)
    have S6 := Lib.hid (S5.out.below hb6)
    have X6 := Lib.hid (X5.out.below hb6 X5.out.lt)
    have P6 := Lib.hid hr6
    have c0 := X6.out.cell 0
    have c1 := X6.out.cell 1
    simp only [List.getElem?_toArray, List.getElem?_cons_zero, List.getElem?_cons_succ] at c0 c1
    clear hb6 hr6 hc6 hn6 CQ B5 K5 S5 X5 d0 d1
    generalize powZ ns e ss = pz at *
    generalize errZ ns e ss = ez at *
    generalize verZ ns e ts ss = vz at *
    have CR := Lib.hid (right_any a n c e ns w6 K6.out (by omega))
    go_wp2_with fail
    refine CR.out.mono ?_
    rintro r w7 ⟨rfl, hb7⟩
    have B7 := Lib.hid (Below.step B6.out hb7)
    have K7 := Lib.hid (K6.out.below hb7)
    have S7 := Lib.hid (S6.out.below hb7)
    have X7 := Lib.hid (X6.out.below hb7 X6.out.lt)
    have P7 := Lib.hid (P6.out.below hb7)
    have d0 := X7.out.cell 0
    simp only [List.getElem?_toArray, List.getElem?_cons_zero] at d0
    clear hb7 CR B6 K6 S6 X6 P6 c0 c1
    by_cases hr : rightZ ns e = true
    · rw [hr]
      have P1 := Lib.hid (SW.out.2 hr)
      clear SW hr
      rw [HLN.out, HLS.out] at P1
      have BN := Lib.hid (beV_nonneg NB.out)
      have BS := Lib.hid (beV_nonneg SB.out)
      have BP := Lib.hid (beV_nonneg PB.out)
      have m0 := cell_later d0
      by_cases hmn : m = n
      · have P2 := Lib.hid (P1.out.2 hmn)
        have hnm := hmn.symm
        clear hmn P1
        subst hnm
        have t5 : ((n : Int) != (n : Int)) = false := by simp
        go_wp2_with fail
        refine wp_region_ord Ext Ext.refl (fun _ _ _ => Ext.trans) ((0, false) :: (1, false) :: (2, false) :: (3, false) :: (4, false) :: (5, false) :: (6, false) :: (7, false) :: (9, false) :: (10, false) :: (8, true) :: (11, true) :: (12, true) :: (13, false) :: (14, false) :: []) (by kernel_rfl) (by kernel_rfl) rfl (by kernel_rfl) (fun _ _ _ _ _ h => h) ?_
        repeat (refine ord_take _ rfl (by rfl) (fun W hW => by go_simp; first | done | rfl) ?_; simp only [Act.put, List.setIfInBounds_toArray, List.set_cons_zero, List.set_cons_succ])
        clear m0
        refine ord_sole rfl (by rfl) (fun K1 hK1 => ?_)
        go_simp
        refine (from_call (w := w7.drew) (ca := d) (S7.out.drewN 1) (by omega)).mono ?_
        rintro r w8 ⟨a8, n8, c8, rfl, hN8, hl8, hb8⟩
        refine hK1 _ _ hb8 ?_
        have E8 : Ext w7 w8 := Ext.of_drew hb8
        have N8 := Lib.hid (hN8.num BS.out)
        have B8 := Lib.hid (Below.step B7.out E8)
        have K8 := Lib.hid (K7.out.below E8)
        have X8 := Lib.hid (X7.out.below E8 X7.out.lt)
        have P8 := Lib.hid (P7.out.below E8)
        clear hK1 K1 hN8 hb8 E8 B7 K7 X7 P7 S7 d0
        refine ord_sole rfl (by rfl) (fun K1 hK1 => ?_)
        go_simp
        refine (from_call (ca := c) K8.out.1 (by omega)).mono ?_
        rintro r w9 ⟨a9, n9, c9, rfl, hN9, hl9, hb9⟩
        refine hK1 _ _ hb9 ?_
        have N9 := Lib.hid (N8.out.below hb9)
        have M9 := Lib.hid (hN9.num BN.out)
        have B9 := Lib.hid (Below.step B8.out hb9)
        have K9 := Lib.hid (K8.out.below hb9)
        have X9 := Lib.hid (X8.out.below hb9 X8.out.lt)
        have P9 := Lib.hid (P8.out.below hb9)
        clear hK1 K1 hN9 hb9 B8 K8 X8 P8 N8
        have CC := Lib.hid (cmp_call N9.out M9.out (by omega) (by omega))
        have TG := Lib.hid (cmpI_ge (beV ss) (beV ns))
        refine ord_sole rfl (by rfl) (fun K1 hK1 => ?_)
        go_simp
        refine CC.out.mono ?_
        rintro r w10 ⟨rfl, hb10⟩
        refine hK1 _ _ hb10 ?_
        have B10 := Lib.hid (Below.step B9.out hb10)
        have K10 := Lib.hid (K9.out.below hb10)
        have X10 := Lib.hid (X9.out.below hb10 X9.out.lt)
        have P10 := Lib.hid (P9.out.below hb10)
        have c0 := X10.out.cell 0
        simp only [List.getElem?_toArray, List.getElem?_cons_zero] at c0
        clear hK1 K1 hb10 B9 K9 X9 P9 N9 M9 CC
        by_cases hv : beV ns ≤ beV ss
        · have t6 : decide ((0 : Int) ≤ cmpI (beV ss) (beV ns)) = true := by rw [TG.out]; exact decide_eq_true hv
          obtain ⟨rfl, rfl⟩ := P2.out.1 hv
          clear P2 TG hv
          generalize cmpI (beV ss) (beV ns) = cm at *
          repeat (refine ord_take _ rfl (by rfl) (fun W hW => by go_simp; first | done | rfl) ?_; simp only [Act.put, List.setIfInBounds_toArray, List.set_cons_zero, List.set_cons_succ])
          refine ord_end ?_
          go_wp2_with fail
          go_ret
          exact ⟨rfl, B10.out⟩
        · have t6 : decide ((0 : Int) ≤ cmpI (beV ss) (beV ns)) = false := by rw [TG.out]; exact decide_eq_false hv
          obtain ⟨rfl, h06, hpl, hpv⟩ := P2.out.2 (by omega)
          have H06 := Lib.hid h06
          have HPL := Lib.hid hpl
          have TL : Hid (decide (cmpI (beV pz) (beV ns) < (0 : Int)) = true) := Lib.hid (by rw [cmpI_lt]; exact decide_eq_true hpv)
          clear P2 TG hv h06 hpl hpv
          generalize cmpI (beV ss) (beV ns) = cm at *
          repeat (refine ord_take _ rfl (by rfl) (fun W hW => by go_simp; first | done | rfl) ?_; simp only [Act.put, List.setIfInBounds_toArray, List.set_cons_zero, List.set_cons_succ])
          refine ord_end ?_
          have CF := Lib.hid (fun W (hb : Below w10.heap.size w10 W) => from_call (ca := c6) (P10.out.below hb) (by have := HPL.out; omega))
          have t7 : ((pz.length : Int) == (n : Int)) = true := by rw [HPL.out]; simp
          have m0 := cell_later c0
          have hpn : pz.length ≤ 140 := by have := HPL.out; omega
          clear HPL P10 X10 c0
          go_wp2_with fail
          refine wp_region_ord Ext Ext.refl (fun _ _ _ => Ext.trans) ((0, false) :: (1, false) :: (2, false) :: (3, false) :: (4, false) :: (5, false) :: (6, false) :: (7, false) :: (8, false) :: (9, false) :: (10, false) :: (11, false) :: (12, false) :: (13, false) :: (14, false) :: (16, false) :: (17, false) :: (15, true) :: (18, true) :: (19, true) :: (20, false) :: (21, false) :: (22, false) :: (23, false) :: (24, false) :: (25, false) :: (26, false) :: (27, false) :: (28, false) :: (29, false) :: (30, false) :: []) (by kernel_rfl) (by kernel_rfl) rfl (by kernel_rfl) (fun _ _ _ _ _ h => h) ?_
          repeat (refine ord_take _ rfl (by rfl) (fun W hW => by go_simp; first | done | rfl) ?_; simp only [Act.put, List.setIfInBounds_toArray, List.set_cons_zero, List.set_cons_succ])
          clear m0
          refine ord_sole rfl (by rfl) (fun K1 hK1 => ?_)
          go_simp
          refine (CF.out _ (drewN_below w10 1)).mono ?_
          rintro r w11 ⟨a11, n11, c11, rfl, hN11, hl11, hb11⟩
          refine hK1 _ _ hb11 ?_
          have E11 : Ext w10 w11 := Ext.of_drew hb11
          have N11 := Lib.hid (hN11.num BP.out)
          have B11 := Lib.hid (Below.step B10.out E11)
          have K11 := Lib.hid (K10.out.below E11)
          clear hK1 K1 hN11 hb11 E11 B10 K10 CF
          refine ord_sole rfl (by rfl) (fun K1 hK1 => ?_)
          go_simp
          refine (from_call (ca := c) K11.out.1 (by omega)).mono ?_
          rintro r w12 ⟨a12, n12, c12, rfl, hN12, hl12, hb12⟩
          refine hK1 _ _ hb12 ?_
          have N12 := Lib.hid (N11.out.below hb12)
          have M12 := Lib.hid (hN12.num BN.out)
          have B12 := Lib.hid (Below.step B11.out hb12)
          clear hK1 K1 hN12 hb12 B11 K11 N11
          have CC := Lib.hid (cmp_call N12.out M12.out (by omega) (by omega))
          refine ord_sole rfl (by rfl) (fun K1 hK1 => ?_)
          go_simp
          refine CC.out.mono ?_
          rintro r w13 ⟨rfl, hb13⟩
          refine hK1 _ _ hb13 ?_
          have B13 := Lib.hid (Below.step B12.out hb13)
          have t8 := TL.out
          clear hK1 K1 hb13 B12 N12 M12 CC TL
          generalize cmpI (beV pz) (beV ns) = cp at *
          rcases H06.out with rfl | rfl
          · repeat (first
              | (refine ord_take _ rfl (by rfl) (fun W hW => by go_simp; first | done | rfl) ?_; simp only [Act.put, List.setIfInBounds_toArray, List.set_cons_zero, List.set_cons_succ])
              | (refine ord_skip rfl (by rfl) ?_; simp only [Act.put, List.setIfInBounds_toArray, List.set_cons_zero, List.set_cons_succ]))
            refine ord_end ?_
            go_wp2_with fail
            go_ret
            exact ⟨rfl, B13.out⟩
          · repeat (first
              | (refine ord_take _ rfl (by rfl) (fun W hW => by go_simp; first | done | rfl) ?_; simp only [Act.put, List.setIfInBounds_toArray, List.set_cons_zero, List.set_cons_succ])
              | (refine ord_skip rfl (by rfl) ?_; simp only [Act.put, List.setIfInBounds_toArray, List.set_cons_zero, List.set_cons_succ]))
            refine ord_end ?_
            go_wp2_with fail
            go_ret
            exact ⟨rfl, B13.out⟩
      · obtain ⟨rfl, rfl⟩ := P1.out.1 hmn
        have t5 : ((m : Int) != (n : Int)) = true := by simp; omega
        clear P1 hmn
        go_wp2_with fail
        refine wp_region_ord Ext Ext.refl (fun _ _ _ => Ext.trans) ((0, false) :: (1, false) :: (2, false) :: (3, false) :: (4, false) :: (5, false) :: (6, false) :: (7, false) :: (9, false) :: (10, false) :: (8, true) :: (11, true) :: (12, true) :: (13, false) :: (14, false) :: []) (by kernel_rfl) (by kernel_rfl) rfl (by kernel_rfl) (fun _ _ _ _ _ h => h) ?_
        repeat (first
          | (refine ord_take _ rfl (by rfl) (fun W hW => by go_simp; first | done | rfl) ?_; simp only [Act.put, List.setIfInBounds_toArray, List.set_cons_zero, List.set_cons_succ])
          | (refine ord_skip rfl (by rfl) ?_; simp only [Act.put, List.setIfInBounds_toArray, List.set_cons_zero, List.set_cons_succ]))
        refine ord_end ?_
        clear m0
        go_wp2_with fail
        go_ret
        exact ⟨rfl, Below.step B7.out (drewN_below w7 1)⟩
    · have hr' : rightZ ns e = false := by simpa using hr
      rw [hr']
      obtain ⟨rfl, rfl⟩ := SW.out.1 hr'
      clear hr hr' SW
      go_wp2_with fail
      go_ret
      exact ⟨rfl, B7.out⟩
  · rw [decide_eq_false h1]
    go_wp2_with fail
    go_ret
    exact ⟨rfl, B4.out⟩

end Go.Proofs.YtdhablbfblkagaaDoor
