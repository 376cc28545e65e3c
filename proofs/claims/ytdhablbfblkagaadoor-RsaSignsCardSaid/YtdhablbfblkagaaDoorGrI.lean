/-
  Merged texts: RsF, RsG, RsH, RsI.
-/
import Derived.Test.YtdhablbfblkagaaDoorGrH
import Derived.Test.YtdhablbfblkagaaDoorGrC
import Derived.Test.YtdhablbfblkagaaDoorGrD
import Derived.Test.YtdhablbfblkagaaDoorGrB
import Derived.Test.YtdhablbfblkagaaDoorRows
import Derived.WalkKit
import Derived.ProofKit
import Derived.OpenShut
import Derived.ChangeArms
import Derived.ChangeSame
namespace Go.Proofs.YtdhablbfblkagaaDoor
open Go.RowKit
set_option linter.unusedVariables false

set_option maxHeartbeats 1000000 in
set_option maxRecDepth 100000 in
theorem power_any (a b : Option Addr) (n c m d : Nat) (e : Int) (ns ss : List Int) (w : World) (hk : KeyAt w a n c e ns) (hn : n ≤ 10000) (hs : Row w b m ss) (hm : m ≤ 10000) :
    Calls Tryd.prog 9 #[.agg #[.slice a n c, .int .u32 e], .slice b m d] w (GivesE (powZ ns e ss) (errZ ns e ss) w) := by
  have BX := Lib.hid (key_box w a n c e)
  have BW := Lib.hid (box_below w (.cells #[.slice a n c, .int .u32 e] 25))
  have K2 := Lib.hid (hk.below BW.out)
  have S2 := Lib.hid (hs.below BW.out)
  have c0 := BX.out.cell 0
  have c1 := BX.out.cell 1
  simp only [List.getElem?_toArray, List.getElem?_cons_zero, List.getElem?_cons_succ] at c0 c1
  have PW := Lib.hid (pow_ways (ns := ns) (e := e) (ss := ss))
  have hln := hk.1.1
  have hls := hs.1
  have e0 := hk.2.2.2
  have XL := Lib.hid (fun h => exp_lt (e := e) ss hk.1.2.1 h)
  have XS := Lib.hid (fun h => exp_short (e := e) ss hk.1.2.1 h)
  have EZ : Hid (remZ (beV ss ^ e.toNat) (beV ns) = expZ ns e ss) := Lib.hid rfl
  have TG := Lib.hid (cmpI_ge (beV ss) (beV ns))
  rw [hln] at PW XS
  rw [hls] at PW
  clear hk hs
  go_enter Tryd.func9, Tryd.ntmps9
  generalize hw2 : w.alloc (.cells #[.slice a n c, .int .u32 e] 25) = w2 at *
  have CR := Lib.hid (right_any a n c e ns w2 K2.out (by omega))
  have HLN := Lib.hid hln
  have HLS := Lib.hid hls
  clear hln hls
  go_wp2_with fail
  refine CR.out.mono ?_
  rintro r w3 ⟨rfl, hb3⟩
  have B3 := Lib.hid (Below.step BW.out hb3)
  have K3 := Lib.hid (K2.out.below hb3)
  have S3 := Lib.hid (S2.out.below hb3)
  have X3 := Lib.hid (BX.out.below hb3 BX.out.lt)
  have d0 := X3.out.cell 0
  simp only [List.getElem?_toArray, List.getElem?_cons_zero] at d0
  clear hb3 CR BW K2 S2 BX c0 c1 hw2
  by_cases hr : rightZ ns e = true
  · rw [hr]
    have P1 := Lib.hid (PW.out.2 hr)
    have E1 := Lib.hid (XL.out hr)
    have E2 := Lib.hid (XS.out hr)
    have hPos := (right_len hr).1
    rw [HLN.out] at hPos
    clear PW XL XS hr
    by_cases hmn : m = n
    · have P2 := Lib.hid (P1.out.2 hmn)
      have hnm := hmn.symm
      clear hmn
      subst hnm
      have t1 : ((n : Int) != (n : Int)) = false := by simp
      have BN := Lib.hid (beV_nonneg K3.out.1.2.1)
      have BS := Lib.hid (beV_nonneg S3.out.2.1)
      clear P1
      go_wp2_with fail
      have l0 := cell_later d0
      refine wp_region_ord Ext Ext.refl (fun _ _ _ => Ext.trans) ((0, false) :: (2, false) :: (3, false) :: (1, true) :: (4, true) :: (5, false) :: (6, false) :: []) (by kernel_rfl) (by kernel_rfl) rfl (by kernel_rfl) (fun _ _ _ _ _ h => h) ?_
      repeat (refine ord_take _ rfl (by rfl) (fun W hW => by go_simp; first | done | rfl) ?_; simp only [Act.put, List.setIfInBounds_toArray, List.set_cons_zero, List.set_cons_succ])
      clear l0
      refine ord_sole rfl (by rfl) (fun K1 hK1 => ?_)
      go_simp
      refine (from_call (w := w3.drew) (ca := d) (S3.out.drewN 1) (by omega)).mono ?_
      rintro r w4 ⟨a4, n4, c4, rfl, hN4, hl4, hb4⟩
      refine hK1 _ _ hb4 ?_
      have E4 : Ext w3 w4 := Ext.of_drew hb4
      have N4 := Lib.hid (hN4.num BS.out)
      have B4 := Lib.hid (Below.step B3.out E4)
      have K4 := Lib.hid (K3.out.below E4)
      have X4 := Lib.hid (X3.out.below E4 X3.out.lt)
      clear hK1 K1 hN4 hb4 E4 X3 d0 S3 K3 B3
      refine ord_sole rfl (by rfl) (fun K1 hK1 => ?_)
      go_simp
      refine (from_call (ca := c) K4.out.1 (by omega)).mono ?_
      rintro r w5 ⟨a5, n5, c5, rfl, hN5, hl5, hb5⟩
      refine hK1 _ _ hb5 ?_
      have N5 := Lib.hid (N4.out.below hb5)
      have M5 := Lib.hid (hN5.num BN.out)
      have B5 := Lib.hid (Below.step B4.out hb5)
      have X5 := Lib.hid (X4.out.below hb5 X4.out.lt)
      clear hK1 K1 hN5 hb5 K4 X4 N4 B4
      repeat (refine ord_take _ rfl (by rfl) (fun W hW => by go_simp; first | done | rfl) ?_; simp only [Act.put, List.setIfInBounds_toArray, List.set_cons_zero, List.set_cons_succ])
      refine ord_end ?_
      have CC := Lib.hid (cmp_call N5.out M5.out (by omega) (by omega))
      generalize hxs : beV ss = xs at *
      generalize hxn : beV ns = xn at *
      clear hxs hxn
      go_wp2_with fail
      refine CC.out.mono ?_
      rintro r w6 ⟨rfl, hb6⟩
      have N6 := Lib.hid (N5.out.below hb6)
      have M6 := Lib.hid (M5.out.below hb6)
      have B6 := Lib.hid (Below.step B5.out hb6)
      have X6 := Lib.hid (X5.out.below hb6 X5.out.lt)
      have d0 := X6.out.cell 0
      have d1 := X6.out.cell 1
      simp only [List.getElem?_toArray, List.getElem?_cons_zero, List.getElem?_cons_succ] at d0 d1
      clear CC hb6 X5 N5 M5 B5
      by_cases hv : xn ≤ xs
      · have t2 : decide ((0 : Int) ≤ cmpI xs xn) = true := by rw [TG.out]; exact decide_eq_true hv
        obtain ⟨F1, F2⟩ := P2.out.1 hv
        have G1 := Lib.hid F1
        have G2 := Lib.hid F2
        clear F1 F2 P2 TG
        generalize cmpI xs xn = cm at *
        go_wp2_with fail
        go_ret2
        rw [G1.out, G2.out]
        exact gives_err B6.out
      · have t2 : decide ((0 : Int) ≤ cmpI xs xn) = false := by rw [TG.out]; exact decide_eq_false hv
        obtain ⟨F1, F2⟩ := P2.out.2 (by omega)
        have G1 := Lib.hid F1
        have G2 := Lib.hid F2
        have B7 := Lib.hid (box_below w6 (.cells #[.int .u32 e] 23))
        have X7 := Lib.hid (X6.out.below B7.out X6.out.lt)
        have CE := Lib.hid (exp_call (N6.out.below B7.out) (num_one e w6 _ e0.1 e0.2 rfl) (M6.out.below B7.out) (by omega) (by omega) (by omega))
        have BB := Lib.hid (Below.step B6.out B7.out)
        rw [EZ.out] at CE
        clear F1 F2 P2 TG EZ N6 M6 B6 B7 X6
        generalize cmpI xs xn = cm at *
        go_wp2_with fail
        refine CE.out.mono ?_
        rintro r w8 ⟨a8, n8, c8, rfl, hN8, hl8, hb8⟩
        have N8 := Lib.hid (hN8.num E1.out.1)
        have X8 := Lib.hid (X7.out.below hb8 X7.out.lt)
        have B8 := Lib.hid (Below.step BB.out hb8)
        have d0 := X8.out.cell 0
        simp only [List.getElem?_toArray, List.getElem?_cons_zero] at d0
        have CT := Lib.hid (fun W (hb : Below w8.heap.size w8 W) => to_call (N8.out.below hb) (by omega))
        clear CE hN8 hb8 X7 BB d1
        go_wp2_with fail
        have l0 := cell_later d0
        refine wp_region_ord Ext Ext.refl (fun _ _ _ => Ext.trans) ((0, false) :: (2, false) :: (3, false) :: (4, false) :: (1, true) :: (5, true) :: (6, false) :: (7, false) :: []) (by kernel_rfl) (by kernel_rfl) rfl (by kernel_rfl) (fun _ _ _ _ _ h => h) ?_
        repeat (refine ord_take _ rfl (by rfl) (fun W hW => by go_simp; first | done | rfl) ?_; simp only [Act.put, List.setIfInBounds_toArray, List.set_cons_zero, List.set_cons_succ])
        clear l0
        refine ord_sole rfl (by rfl) (fun K1 hK1 => ?_)
        go_simp
        refine (CT.out _ (drewN_below w8 1)).mono ?_
        rintro r w9 ⟨a9, n9, c9, rfl, hn9, hr9, hl9, hb9⟩
        refine hK1 _ _ hb9 ?_
        have E9 : Ext w8 w9 := Ext.of_drew hb9
        have B9 := Lib.hid (Below.step B8.out E9)
        have CW := Lib.hid (widened_any a9 n9 c9 n _ w9 hr9 (by rw [hn9]; exact E2.out) (by have := hPos; omega) (by omega))
        rw [hn9] at CW
        have WZ : Hid (List.replicate (n - (byZ (expZ ns e ss)).length) 0 ++ byZ (expZ ns e ss) = widZ n (expZ ns e ss)) := Lib.hid rfl
        rw [WZ.out] at CW
        subst hn9
        clear hK1 K1 hb9 hr9 hl9 E9 CT WZ
        refine ord_sole rfl (by rfl) (fun K1 hK1 => ?_)
        go_simp
        refine CW.out.mono ?_
        intro r w10 h10
        obtain ⟨V, rfl, hg⟩ := givesR_e h10 B9.out
        have G9 := Lib.hid hg
        obtain ⟨_, _, _, _, _, _, hb10⟩ := h10
        refine hK1 _ _ hb10 ?_
        clear hK1 K1 hg CW hb10
        repeat (refine ord_take _ rfl (by rfl) (fun W hW => by go_simp; first | done | rfl) ?_; simp only [Act.put, List.setIfInBounds_toArray, List.set_cons_zero, List.set_cons_succ])
        refine ord_end ?_
        go_wp2_with fail
        go_ret2
        rw [G1.out, G2.out]
        exact G9.out
    · have t1 : ((m : Int) != (n : Int)) = true := by simp; omega
      obtain ⟨F1, F2⟩ := P1.out.1 hmn
      have G1 := Lib.hid F1
      have G2 := Lib.hid F2
      clear F1 F2 P1 hmn
      go_wp2_with fail
      go_ret2
      rw [G1.out, G2.out]
      exact gives_err B3.out
  · have hr' : rightZ ns e = false := by simpa using hr
    rw [hr']
    obtain ⟨F1, F2⟩ := PW.out.1 hr'
    have G1 := Lib.hid F1
    have G2 := Lib.hid F2
    clear F1 F2 PW hr hr' XL XS
    go_wp2_with fail
    go_ret2
    rw [G1.out, G2.out]
    exact gives_err B3.out

end Go.Proofs.YtdhablbfblkagaaDoor

namespace Go.Proofs.YtdhablbfblkagaaDoor
open Go.RowKit
set_option linter.unusedVariables false

theorem ver_ways (ns : List Int) (e : Int) (ts ss : List Int) : (errZ ns e ss = 0 → 62 ≤ ns.length ∧ ns.length ≤ 512 ∧ (powZ ns e ss = frameZ (hashZ ts) ns.length → verZ ns e ts ss = 0) ∧ (powZ ns e ss ≠ frameZ (hashZ ts) ns.length → verZ ns e ts ss = 6)) ∧ (errZ ns e ss ≠ 0 → verZ ns e ts ss = errZ ns e ss) := by
  refine ⟨fun h => ?_, fun h => by unfold verZ; rw [if_neg h]⟩
  have hl := right_len (err_right h).1
  refine ⟨hl.1, hl.2, fun h2 => ?_, fun h2 => ?_⟩
  · unfold verZ
    rw [if_pos h, if_pos h2]
  · unfold verZ
    rw [if_pos h, if_neg h2]
theorem frame_ok (hz : List Int) {n : Nat} (h0 : 62 ≤ n) (h1 : n ≤ 512) : frE (n : Int) = 0 ∧ frB hz (n : Int) = frameZ hz n := ⟨if_pos (by omega), if_pos (by omega)⟩

set_option maxHeartbeats 1000000 in
set_option maxRecDepth 100000 in
theorem rverify_any (a b p : Option Addr) (n c m d tn tc : Nat) (e : Int) (ns ss ts : List Int) (w : World) (hk : KeyAt w a n c e ns) (hn : n ≤ 10000) (ht : Row w p tn ts) (hn3 : tn ≤ 10000) (hp : p = none → tc = 0) (hs : Row w b m ss) (hm : m ≤ 10000) :
    Calls Tryd.prog 12 #[.agg #[.slice a n c, .int .u32 e], .slice p tn tc, .slice b m d] w fun r w' => r = .returned (.int .i64 (verZ ns e ts ss)) ∧ Below w.heap.size w w' := by
  have BX := Lib.hid (key_box w a n c e)
  have BW := Lib.hid (box_below w (.cells #[.slice a n c, .int .u32 e] 25))
  have K2 := Lib.hid (hk.below BW.out)
  have S2 := Lib.hid (hs.below BW.out)
  have T2 := Lib.hid (ht.below BW.out)
  have VW := Lib.hid (ver_ways ns e ts ss)
  have PB := Lib.hid (pow_byte ns e ss)
  have HP := Lib.hid hp
  have c0 := BX.out.cell 0
  have c1 := BX.out.cell 1
  simp only [List.getElem?_toArray, List.getElem?_cons_zero, List.getElem?_cons_succ] at c0 c1
  have e0 := hk.2.2.2
  rw [hk.1.1] at VW
  clear hk hs ht hp
  generalize verZ ns e ts ss = vz at *
  go_enter Tryd.func12, Tryd.ntmps12
  generalize hw2 : w.alloc (.cells #[.slice a n c, .int .u32 e] 25) = w2 at *
  have CR := Lib.hid (rpower_any a b n c m d e ns ss w2 K2.out (by omega) S2.out (by omega))
  go_wp2_with fail
  refine CR.out.mono ?_
  rintro r w3 ⟨a3, c3, rfl, hr3, hc3, hn3', hb3⟩
  have B3 := Lib.hid (Below.step BW.out hb3)
  have T3 := Lib.hid (T2.out.below hb3)
  have X3 := Lib.hid (BX.out.below hb3 BX.out.lt)
  have R3 := Lib.hid hr3
  have d0 := X3.out.cell 0
  simp only [List.getElem?_toArray, List.getElem?_cons_zero] at d0
  clear hb3 hr3 CR BW K2 S2 T2 BX c0 c1 hw2
  have HL := Lib.hid (hash_len ts)
  have HB := Lib.hid (hash_byte ts)
  have CO := Lib.hid (fun W (hb : Below w3.heap.size w3 W) => rof_any p tn tc ts W (T3.out.below hb) (by omega) HP.out)
  generalize powZ ns e ss = pz at *
  generalize errZ ns e ss = ez at *
  generalize hashZ ts = hz at *
  by_cases h0 : ez = 0
  · obtain ⟨k0, k1, V0, V6⟩ := VW.out.1 h0
    have HV0 := Lib.hid V0
    have HV6 := Lib.hid V6
    subst h0
    clear VW V0 V6
    go_wp2_with fail
    have l0 := cell_later d0
    refine wp_region_ord Ext Ext.refl (fun _ _ _ => Ext.trans) ((0, false) :: (2, false) :: (3, false) :: (4, false) :: (1, true) :: (5, true) :: (6, false) :: (7, false) :: (8, false) :: (9, false) :: (10, false) :: []) (by kernel_rfl) (by kernel_rfl) rfl (by kernel_rfl) (fun _ _ _ _ _ h => h) ?_
    repeat (refine ord_take _ rfl (by rfl) (fun W hW => by go_simp; first | done | rfl) ?_; simp only [Act.put, List.setIfInBounds_toArray, List.set_cons_zero, List.set_cons_succ])
    clear l0
    refine ord_sole rfl (by rfl) (fun K1 hK1 => ?_)
    go_simp
    refine (CO.out _ (drewN_below w3 1)).mono ?_
    rintro r w4 ⟨rfl, hb4⟩
    refine hK1 _ _ hb4 ?_
    have E4 : Ext w3 w4 := Ext.of_drew hb4
    have B4 := Lib.hid (Below.step B3.out E4)
    have R4 := Lib.hid (R3.out.below E4)
    have CF := Lib.hid (rframe_any hz (n : Int) w4 HL.out HB.out (by omega) (by omega))
    rw [(frame_ok hz k0 k1).1, (frame_ok hz k0 k1).2] at CF
    have FB := Lib.hid (frame_byte HB.out n)
    clear hK1 K1 hb4 E4 R3 B3 X3 d0 T3 CO
    refine ord_sole rfl (by rfl) (fun K1 hK1 => ?_)
    go_simp
    refine CF.out.mono ?_
    rintro r w5 ⟨a5, c5, rfl, hr5, hc5, hn5, hb5⟩
    refine hK1 _ _ hb5 ?_
    have B5 := Lib.hid (Below.step B4.out hb5)
    have R5 := Lib.hid (R4.out.below hb5)
    have Q5 := Lib.hid hr5
    clear hK1 K1 hb5 hr5 CF R4 B4
    repeat (refine ord_take _ rfl (by rfl) (fun W hW => by go_simp; first | done | rfl) ?_; simp only [Act.put, List.setIfInBounds_toArray, List.set_cons_zero, List.set_cons_succ])
    refine ord_end ?_
    generalize frameZ hz n = fz at *
    have v1 := conv_at c3 R5.out
    have v2 := conv_at c5 Q5.out
    have SE := Lib.hid (str_eq PB.out FB.out)
    by_cases hq : pz = fz
    · have t1 : ((strOfNums pz).toList == (strOfNums fz).toList) = true := by rw [SE.out]; exact decide_eq_true hq
      obtain rfl : vz = 0 := HV0.out hq
      clear hq HV0 HV6 SE
      go_wp2_with fail
      go_ret
      exact ⟨rfl, B5.out⟩
    · have t1 : ((strOfNums pz).toList == (strOfNums fz).toList) = false := by rw [SE.out]; exact decide_eq_false hq
      obtain rfl : vz = 6 := HV6.out hq
      clear hq HV0 HV6 SE
      go_wp2_with fail
      go_ret
      exact ⟨rfl, B5.out⟩
  · have t1 : (ez != 0) = true := by simpa using h0
    obtain rfl : vz = ez := VW.out.2 h0
    clear VW h0
    go_wp2_with fail
    go_ret
    exact ⟨rfl, B3.out⟩

set_option maxHeartbeats 1000000 in
set_option maxRecDepth 100000 in
theorem verify_any (a b p : Option Addr) (n c m d tn tc : Nat) (e : Int) (ns ss ts : List Int) (w : World) (hk : KeyAt w a n c e ns) (hn : n ≤ 10000) (ht : Row w p tn ts) (hn3 : tn ≤ 10000) (hp : tn ≤ tc) (hs : Row w b m ss) (hm : m ≤ 10000) (hta : Tab w) :
    Calls Tryd.prog 11 #[.agg #[.slice a n c, .int .u32 e], .slice p tn tc, .slice b m d] w fun r w' => r = .returned (.int .i64 (verZ ns e ts ss)) ∧ Below w.heap.size w w' := by
  have BX := Lib.hid (key_box w a n c e)
  have BW := Lib.hid (box_below w (.cells #[.slice a n c, .int .u32 e] 25))
  have K2 := Lib.hid (hk.below BW.out)
  have S2 := Lib.hid (hs.below BW.out)
  have T2 := Lib.hid (ht.below BW.out)
  have A2 := Lib.hid (hta.below BW.out)
  have VW := Lib.hid (ver_ways ns e ts ss)
  have PB := Lib.hid (pow_byte ns e ss)
  have HP := Lib.hid hp
  have c0 := BX.out.cell 0
  have c1 := BX.out.cell 1
  simp only [List.getElem?_toArray, List.getElem?_cons_zero, List.getElem?_cons_succ] at c0 c1
  have e0 := hk.2.2.2
  rw [hk.1.1] at VW
  clear hk hs ht hp hta
  generalize verZ ns e ts ss = vz at *
  go_enter Tryd.func11, Tryd.ntmps11
  generalize hw2 : w.alloc (.cells #[.slice a n c, .int .u32 e] 25) = w2 at *
  have CR := Lib.hid (power_any a b n c m d e ns ss w2 K2.out (by omega) S2.out (by omega))
  go_wp2_with fail
  refine CR.out.mono ?_
  rintro r w3 ⟨a3, c3, rfl, hr3, hc3, hn3', hb3⟩
  have B3 := Lib.hid (Below.step BW.out hb3)
  have T3 := Lib.hid (T2.out.below hb3)
  have A3 := Lib.hid (A2.out.below hb3)
  have X3 := Lib.hid (BX.out.below hb3 BX.out.lt)
  have R3 := Lib.hid hr3
  have d0 := X3.out.cell 0
  simp only [List.getElem?_toArray, List.getElem?_cons_zero] at d0
  clear hb3 hr3 CR BW K2 S2 T2 A2 BX c0 c1 hw2
  have HL := Lib.hid (hash_len ts)
  have HB := Lib.hid (hash_byte ts)
  have CO := Lib.hid (fun W (hb : Below w3.heap.size w3 W) => of_any p tn tc ts W (T3.out.below hb) HP.out (by omega) (A3.out.below hb))
  generalize powZ ns e ss = pz at *
  generalize errZ ns e ss = ez at *
  generalize hashZ ts = hz at *
  by_cases h0 : ez = 0
  · obtain ⟨k0, k1, V0, V6⟩ := VW.out.1 h0
    have HV0 := Lib.hid V0
    have HV6 := Lib.hid V6
    subst h0
    clear VW V0 V6
    go_wp2_with fail
    have l0 := cell_later d0
    refine wp_region_ord Ext Ext.refl (fun _ _ _ => Ext.trans) ((0, false) :: (2, false) :: (3, false) :: (4, false) :: (1, true) :: (5, true) :: (6, false) :: (7, false) :: (8, false) :: (9, false) :: (10, false) :: []) (by kernel_rfl) (by kernel_rfl) rfl (by kernel_rfl) (fun _ _ _ _ _ h => h) ?_
    repeat (refine ord_take _ rfl (by rfl) (fun W hW => by go_simp; first | done | rfl) ?_; simp only [Act.put, List.setIfInBounds_toArray, List.set_cons_zero, List.set_cons_succ])
    clear l0
    refine ord_sole rfl (by rfl) (fun K1 hK1 => ?_)
    go_simp
    refine (CO.out _ (drewN_below w3 1)).mono ?_
    rintro r w4 ⟨rfl, hb4⟩
    refine hK1 _ _ hb4 ?_
    have E4 : Ext w3 w4 := Ext.of_drew hb4
    have B4 := Lib.hid (Below.step B3.out E4)
    have R4 := Lib.hid (R3.out.below E4)
    have CF := Lib.hid (frame_any hz (n : Int) w4 HL.out HB.out (by omega) (by omega))
    rw [(frame_ok hz k0 k1).1, (frame_ok hz k0 k1).2] at CF
    have FB := Lib.hid (frame_byte HB.out n)
    clear hK1 K1 hb4 E4 R3 B3 X3 d0 T3 CO A3
    refine ord_sole rfl (by rfl) (fun K1 hK1 => ?_)
    go_simp
    refine CF.out.mono ?_
    rintro r w5 ⟨a5, c5, rfl, hr5, hc5, hn5, hb5⟩
    refine hK1 _ _ hb5 ?_
    have B5 := Lib.hid (Below.step B4.out hb5)
    have R5 := Lib.hid (R4.out.below hb5)
    have Q5 := Lib.hid hr5
    clear hK1 K1 hb5 hr5 CF R4 B4
    repeat (refine ord_take _ rfl (by rfl) (fun W hW => by go_simp; first | done | rfl) ?_; simp only [Act.put, List.setIfInBounds_toArray, List.set_cons_zero, List.set_cons_succ])
    refine ord_end ?_
    generalize frameZ hz n = fz at *
    have CE := Lib.hid (equal_any a3 a5 pz.length fz.length c3 c5 pz fz w5 R5.out Q5.out)
    go_wp2_with fail
    refine CE.out.mono ?_
    rintro r w6 ⟨rfl, rfl⟩
    clear CE
    by_cases hq : pz = fz
    · rw [decide_eq_true hq]
      obtain rfl : vz = 0 := HV0.out hq
      clear hq HV0 HV6
      go_wp2_with fail
      go_ret
      exact ⟨rfl, B5.out⟩
    · rw [decide_eq_false hq]
      obtain rfl : vz = 6 := HV6.out hq
      clear hq HV0 HV6
      go_wp2_with fail
      go_ret
      exact ⟨rfl, B5.out⟩
  · have t1 : (ez != 0) = true := by simpa using h0
    obtain rfl : vz = ez := VW.out.2 h0
    clear VW h0
    go_wp2_with fail
    go_ret
    exact ⟨rfl, B3.out⟩

end Go.Proofs.YtdhablbfblkagaaDoor

namespace Go.Proofs.YtdhablbfblkagaaDoor
open Go.RowKit
set_option linter.unusedVariables false

def H7 : List Int := 7 :: List.replicate 31 0
set_option maxHeartbeats 1000000 in
set_option maxRecDepth 100000 in
theorem awake_any (w : World) : Calls Tryd.prog 7 #[] w fun e w' => e = .returned (.bool true) ∧ Below w.heap.size w w' := by
  have CF := Lib.hid (frame_any H7 62 w rfl (by intro x hx; simp [H7] at hx; omega) (by omega) (by omega))
  rw [show frE 62 = 0 from rfl, show frB H7 62 = frameZ H7 62 from rfl] at CF
  go_enter Tryd.func7, Tryd.ntmps7
  go_wp2_with (refine wpList_buildTo rfl 36 #[(0, .const (.int .u8 7))] rfl (some 4) rfl (bcells H7) (by kernel_rfl) ?_)
  refine CF.out.mono ?_
  rintro r w1 ⟨a, c, rfl, hr, hc, hn, hb⟩
  have B1 := Lib.hid hb
  have L62 : (frameZ H7 62).length = 62 := rfl
  rw [L62] at hr hc
  obtain ⟨b, off, rfl, hlt, hcell⟩ := hr.2.2 (by omega)
  have c1 := hcell 1 (by omega)
  have c9 := hcell 9 (by omega)
  have c10 := hcell 10 (by omega)
  have c11 := hcell 11 (by omega)
  have c30 := hcell 30 (by omega)
  rw [show (frameZ H7 62)[1]?.getD 0 = 1 from rfl] at c1
  rw [show (frameZ H7 62)[9]?.getD 0 = 255 from rfl] at c9
  rw [show (frameZ H7 62)[10]?.getD 0 = 0 from rfl] at c10
  rw [show (frameZ H7 62)[11]?.getD 0 = 48 from rfl] at c11
  rw [show (frameZ H7 62)[30]?.getD 0 = 7 from rfl] at c30
  rw [L62]
  clear CF hr hb hcell L62 hn hc
  generalize bcells H7 = z7 at *
  go_wp2_with fail
  go_ret
  exact ⟨rfl, B1.out⟩

end Go.Proofs.YtdhablbfblkagaaDoor

namespace Go.Proofs.YtdhablbfblkagaaDoor
open Go.ChangeShapes Go.WideShapes Go.ChangeAt Go.RowKit
set_option linter.unusedVariables false

theorem mapM_each {α β : Type} {f : α → Option β} : ∀ (L : List α) (ys : List β), L.mapM f = some ys → ∀ a ∈ L, ∃ y, f a = some y
  | [], _, _, a, ha => by simp at ha
  | b :: L, ys, h, a, ha => by
    rw [List.mapM_cons] at h
    simp only [bind, Option.bind_eq_some_iff, pure, Option.some.injEq] at h
    obtain ⟨y, hy, zs, hz, _⟩ := h
    rcases List.mem_cons.1 ha with rfl | ha
    · exact ⟨y, hy⟩
    · exact mapM_each L zs hz a ha
/-- Each element of an array that can be read, can be read. -/
theorem array_each {H : Type} {enc : TypeId × Value → H} {P : Program} {W : World} {base : Nat} {sp : Nat → Bool} {held : Bool} {t e : TypeId} {n : Nat} (ht : P.underlying t = some (.array n e)) (hce : P.cellsOf e = 1)
    {fuel : Nat} {cs : List Value} {x : DataW H × List MemPlace} (h : DataW.trod enc P W base sp held fuel t cs = some x) : ∀ i, i < n → ∃ k y, DataW.trod enc P W base sp held k e ((cs.drop i).take 1) = some y := by
  intro i hi
  cases fuel with
  | zero => simp [DataW.trod] at h
  | succ k =>
    unfold DataW.trod at h
    rw [ht] at h
    simp only at h
    split at h
    · simp only [Option.map_eq_some_iff] at h
      obtain ⟨ys, hy, _⟩ := h
      obtain ⟨y, hy⟩ := mapM_each _ ys hy i (by simpa using hi)
      rw [hce, Nat.mul_one] at hy
      exact ⟨k, y, hy⟩
    · cases h
theorem one_at {cs : Array Value} {i : Nat} {a : Value} (h : (cs.toList.drop i).take 1 = [a]) : cs[i]? = some a := by
  have : ((cs.toList.drop i).take 1)[0]? = some a := by rw [h]; rfl
  rw [List.getElem?_take, if_pos (by omega), List.getElem?_drop, Nat.add_zero] at this
  simpa using this
theorem two_cells {cs : Array Value} (hs : cs.size = 2) {a b : Value} (h0 : (cs.toList.drop 0).take 1 = [a]) (h1 : (cs.toList.drop 1).take 1 = [b]) : cs = #[a, b] := by
  have e0 := one_at h0
  have e1 := one_at h1
  apply Array.ext'
  apply List.ext_getElem?
  intro j
  rcases j with _ | _ | j
  · simpa using e0
  · simpa using e1
  · rw [List.getElem?_eq_none (by simp [hs]), List.getElem?_eq_none (by simp)]

section
variable {H : Type} {enc : TypeId × Value → H} {W : World} {base b0 : Nat} {held : Bool} {r : Reach} {v : Value} {d : DataW H} {ps : List MemPlace}
theorem Tryd.cellsK : Tryd.prog.cellsOf 25 = 2 := by kernel_rfl
theorem Tryd.cellsE : Tryd.prog.cellsOf 5 = 1 := by kernel_rfl
theorem Tryd.cellsS : Tryd.prog.cellsOf 22 = 1 := by kernel_rfl
theorem Tryd.cellsU : Tryd.prog.cellsOf 23 = 1 := by kernel_rfl
theorem slice_row {fuel : Nat} {cs : List Value} {x : DataW H × List MemPlace} (h : DataW.trod enc Tryd.prog W base (fun _ => true) held fuel 22 cs = some x) : ∃ a n c zs, cs = [.slice a n c] ∧ Row W a n zs ∧ n ≤ c ∧ (a = none → c = 0) ∧ n ≤ maxLen := by
  rcases open_ints Tryd.underlying22 Tryd.underlying5 Tryd.cellsE h with ⟨rfl, _⟩ | ⟨x, l, c, zs, rfl, _, hl, hm, hz, _, hcell, hwz⟩
  · exact ⟨none, 0, 0, [], rfl, Row.nil _ _, Nat.le_refl _, fun _ => rfl, Nat.zero_le _⟩
  · obtain ⟨h1, h2⟩ := row_of (w := W) (a := some x) (len := l) (cap := c) (zs := zs) (.inr ⟨x, rfl, hl, hm, by simpa using hz, hcell, hwz⟩)
    exact ⟨some x, l, c, zs.take l, rfl, h1, hl, (fun e => by cases e), h2⟩
set_option maxRecDepth 100000 in
/-- An argument that is a key. -/
theorem open_key (hok : Value.okWide Tryd.prog W r b0 25 v) (hd : DataW.Trod enc Tryd.prog W base (fun _ => true) held 25 v d ps) :
    ∃ a n c e ns, v = .agg #[.slice a n c, .int .u32 e] ∧ KeyAt W a n c e ns ∧ n ≤ maxLen := by
  obtain ⟨cs, rfl, _⟩ := okWide_struct Tryd.underlying25 hok
  obtain ⟨fuel, hf⟩ := hd
  obtain ⟨y0, y1, n, _, hl, h0, h1⟩ := trod_struct2 Tryd.underlying25 hf
  rw [Tryd.cellsS] at h0
  rw [Tryd.cellsU] at h1
  obtain ⟨a, m, c, zs, e0, hr, hc, hn, hm⟩ := slice_row h0
  obtain ⟨z, e1, _, hw⟩ := DataW.trod_int Tryd.underlying23 h1
  rw [Tryd.cellsK] at hl
  have := bounds_u32 hw
  have ee := two_cells (cs := cs) (by simpa [Value.cells] using hl) (by simpa [Value.cells] using e0) (by simpa [Value.cells] using e1)
  exact ⟨a, m, c, z, zs, by rw [ee], ⟨hr, hc, hn, by omega, by omega⟩, hm⟩
set_option maxRecDepth 100000 in
/-- An argument of type [2]int. -/
theorem open_twoint (hok : Value.okWide Tryd.prog W r b0 33 v) (hd : DataW.Trod enc Tryd.prog W base (fun _ => true) held 33 v d ps) :
    ∃ x y : Int, v = .agg #[.int .i64 x, .int .i64 y] ∧ (-9223372036854775808 ≤ x ∧ x ≤ 9223372036854775807) ∧ (-9223372036854775808 ≤ y ∧ y ≤ 9223372036854775807) := by
  simp only [Value.okWide, Tryd.underlying33] at hok
  obtain ⟨cs, rfl, h2, _⟩ := hok
  rw [show Tryd.prog.cellsOf 33 = 2 by kernel_rfl] at h2
  obtain ⟨fuel, hf⟩ := hd
  have E := array_each Tryd.underlying33 (show Tryd.prog.cellsOf 3 = 1 by kernel_rfl) hf
  obtain ⟨k0, y0, t0⟩ := E 0 (by omega)
  obtain ⟨k1, y1, t1⟩ := E 1 (by omega)
  obtain ⟨x, hx, _, wx⟩ := DataW.trod_int Tryd.underlying3 t0
  obtain ⟨y, hy, _, wy⟩ := DataW.trod_int Tryd.underlying3 t1
  have := bounds_i64 wx
  have := bounds_i64 wy
  have e := two_cells (a := .int .i64 x) (b := .int .i64 y) h2 (by simpa [Value.cells] using hx) (by simpa [Value.cells] using hy)
  exact ⟨x, y, by rw [e], by omega, by omega⟩
set_option maxRecDepth 100000 in
/-- An argument of type [2][]byte. -/
theorem open_pair8 (hok : Value.okWide Tryd.prog W r b0 43 v) (hd : DataW.Trod enc Tryd.prog W base (fun _ => true) held 43 v d ps) :
    ∃ a n c b k e, v = .agg #[.slice a n c, .slice b k e] ∧ (∃ x, Row W a n x ∧ n ≤ c ∧ (a = none → c = 0) ∧ n ≤ maxLen) ∧ (∃ y, Row W b k y ∧ k ≤ e ∧ (b = none → e = 0) ∧ k ≤ maxLen) := by
  simp only [Value.okWide, Tryd.underlying43] at hok
  obtain ⟨cs, rfl, h2, _⟩ := hok
  rw [show Tryd.prog.cellsOf 43 = 2 by kernel_rfl] at h2
  obtain ⟨fuel, hf⟩ := hd
  have E := array_each Tryd.underlying43 Tryd.cellsS hf
  obtain ⟨k0, y0, t0⟩ := E 0 (by omega)
  obtain ⟨k1, y1, t1⟩ := E 1 (by omega)
  obtain ⟨a, n, c, x, hx, nx⟩ := slice_row t0
  obtain ⟨b, k, e, y, hy, ny⟩ := slice_row t1
  have ee := two_cells (a := .slice a n c) (b := .slice b k e) h2 (by simpa [Value.cells] using hx) (by simpa [Value.cells] using hy)
  exact ⟨a, n, c, b, k, e, by rw [ee], ⟨x, nx⟩, ⟨y, ny⟩⟩
set_option maxRecDepth 100000 in
/-- An argument that is a hash. -/
theorem open_hash (hok : Value.okWide Tryd.prog W r b0 36 v) (hd : DataW.Trod enc Tryd.prog W base (fun _ => true) held 36 v d ps) :
    ∃ hz : List Int, v = .agg (bcells hz) ∧ hz.length = 32 ∧ ∀ x ∈ hz, 0 ≤ x ∧ x ≤ 255 := by
  simp only [Value.okWide, Tryd.underlying36] at hok
  obtain ⟨cs, rfl, h2, _⟩ := hok
  rw [show Tryd.prog.cellsOf 36 = 32 by kernel_rfl] at h2
  obtain ⟨fuel, hf⟩ := hd
  have E := array_each Tryd.underlying36 Tryd.cellsE hf
  have F : ∀ i, ∃ x : Int, i < 32 → cs[i]? = some (.int .u8 x) ∧ 0 ≤ x ∧ x ≤ 255 := fun i => by
    by_cases hi : i < 32
    · obtain ⟨k0, y0, t0⟩ := E i hi
      obtain ⟨x, hx, _, wx⟩ := DataW.trod_int Tryd.underlying5 t0
      have := bounds_u8 wx
      exact ⟨x, fun _ => ⟨one_at (by simpa [Value.cells] using hx), by omega⟩⟩
    · exact ⟨0, fun h => absurd h hi⟩
  obtain ⟨f, hf'⟩ := Classical.axiomOfChoice F
  refine ⟨(List.range 32).map f, ?_, by simp, fun x hx => ?_⟩
  · have : cs = bcells ((List.range 32).map f) := by
      apply Array.ext'
      apply List.ext_getElem?
      intro j
      rcases Nat.lt_or_ge j 32 with hj | hj
      · rw [Array.getElem?_toList, Array.getElem?_toList, bcells_get _ j hj, (hf' j hj).1]
        simp [hj]
      · rw [List.getElem?_eq_none (by simp [h2]; omega), List.getElem?_eq_none (by rw [Array.length_toList, bcells_size _ (by simp)]; omega)]
    rw [this]
  · obtain ⟨i, hi, rfl⟩ := List.mem_map.1 hx
    exact (hf' i (by simpa using hi)).2
end

end Go.Proofs.YtdhablbfblkagaaDoor
