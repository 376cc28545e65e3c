/-
  Merged texts: RsK.
-/
import Derived.Test.YtdhablbfblkagaaDoorGrI
namespace Go.Proofs.YtdhablbfblkagaaDoor
open Go.RowKit
set_option linter.unusedVariables false

theorem ver_once (ns : List Int) (e : Int) (ts us ss : List Int) : (hashZ ts = hashZ us → verZ ns e ts ss = verZ ns e us ss) ∧ (hashZ ts ≠ hashZ us → verZ ns e ts ss = 0 → verZ ns e us ss ≠ 0) := by
  refine ⟨fun h => by unfold verZ; rw [h], fun h h1 h2 => h ?_⟩
  unfold verZ at h1 h2
  by_cases h0 : errZ ns e ss = 0
  · rw [if_pos h0] at h1 h2
    have a1 : powZ ns e ss = frameZ (hashZ ts) ns.length := by
      by_cases q : powZ ns e ss = frameZ (hashZ ts) ns.length
      · exact q
      · rw [if_neg q] at h1; omega
    have a2 : powZ ns e ss = frameZ (hashZ us) ns.length := by
      by_cases q : powZ ns e ss = frameZ (hashZ us) ns.length
      · exact q
      · rw [if_neg q] at h2; omega
    exact frame_inj (a1.symm.trans a2)
  · rw [if_neg h0] at h1
    exact absurd h1 h0

set_option maxHeartbeats 2000000 in
set_option maxRecDepth 100000 in
theorem once_walk (a b p u : Option Addr) (n c m d tn tc un uc : Nat) (e : Int) (ns ss ts us : List Int) (w : World) (hk : KeyAt w a n c e ns) (hn : n ≤ maxLen) (ht : Row w p tn ts) (htc : tn ≤ tc) (hu : Row w u un us) (huc : un ≤ uc) (hs : Row w b m ss) (hta : Tab w) :
    Calls Tryd.prog 6 #[.agg #[.slice a n c, .int .u32 e], .agg #[.slice p tn tc, .slice u un uc], .slice b m d] w fun r w' => r = .returned (.bool true) ∧ Below w.heap.size w w' := by
  have BX := Lib.hid ((key_box w a n c e).alloc (.cells #[.slice p tn tc, .slice u un uc] 43))
  have BY : Hid (Blk ((w.alloc (.cells #[.slice a n c, .int .u32 e] 25)).alloc (.cells #[.slice p tn tc, .slice u un uc] 43)) (w.heap.size + 1) 43 #[.slice p tn tc, .slice u un uc]) := by
    have := Blk.new (w.alloc (.cells #[.slice a n c, .int .u32 e] 25)) 43 #[.slice p tn tc, .slice u un uc]
    rw [show (w.alloc (.cells #[.slice a n c, .int .u32 e] 25)).heap.size = w.heap.size + 1 by simp] at this
    exact Lib.hid this
  have BW := Lib.hid (Below.step (box_below w (.cells #[.slice a n c, .int .u32 e] 25)) (box_below _ (.cells #[.slice p tn tc, .slice u un uc] 43)))
  have K2 := Lib.hid (hk.below BW.out)
  have S2 := Lib.hid (hs.below BW.out)
  have T2 := Lib.hid (ht.below BW.out)
  have U2 := Lib.hid (hu.below BW.out)
  have A2 := Lib.hid (hta.below BW.out)
  have HC := Lib.hid htc
  have HD := Lib.hid huc
  have VO := Lib.hid (ver_once ns e ts us ss)
  have L1 := hash_len ts
  have L2 := hash_len us
  have c0 := BX.out.cell 0
  have c1 := BX.out.cell 1
  have q0 := BY.out.cell 0
  have q1 := BY.out.cell 1
  simp only [List.getElem?_toArray, List.getElem?_cons_zero, List.getElem?_cons_succ] at c0 c1 q0 q1
  have e0 := hk.2.2.2
  clear hk hs ht hta htc hu huc
  go_enter Tryd.func6, Tryd.ntmps6
  generalize hw2 : (w.alloc (.cells #[.slice a n c, .int .u32 e] 25)).alloc (.cells #[.slice p tn tc, .slice u un uc] 43) = w2 at *
  have AW := Lib.hid (awake_any w2)
  go_wp2_with fail
  refine AW.out.mono ?_
  rintro r w3 ⟨rfl, hb3⟩
  have B3 := Lib.hid (Below.step BW.out hb3)
  have K3 := Lib.hid (K2.out.below hb3)
  have S3 := Lib.hid (S2.out.below hb3)
  have T3 := Lib.hid (T2.out.below hb3)
  have U3 := Lib.hid (U2.out.below hb3)
  have A3 := Lib.hid (A2.out.below hb3)
  have X3 := Lib.hid (BX.out.below hb3 BX.out.lt)
  have Y3 := Lib.hid (BY.out.below hb3 BY.out.lt)
  have d0 := X3.out.cell 0
  have d1 := X3.out.cell 1
  have p0 := Y3.out.cell 0
  have p1 := Y3.out.cell 1
  simp only [List.getElem?_toArray, List.getElem?_cons_zero, List.getElem?_cons_succ] at d0 d1 p0 p1
  clear hb3 AW BW K2 S2 T2 U2 A2 BX BY c0 c1 q0 q1 hw2
  have LK := Lib.hid (light_any a n c e ns w3 K3.out hn)
  go_wp2_with fail
  refine LK.out.mono ?_
  rintro r w4 ⟨rfl, hb4⟩
  have B4 := Lib.hid (Below.step B3.out hb4)
  have K4 := Lib.hid (K3.out.below hb4)
  have S4 := Lib.hid (S3.out.below hb4)
  have T4 := Lib.hid (T3.out.below hb4)
  have U4 := Lib.hid (U3.out.below hb4)
  have A4 := Lib.hid (A3.out.below hb4)
  have X4 := Lib.hid (X3.out.below hb4 X3.out.lt)
  have c0 := X4.out.cell 0
  have c1 := X4.out.cell 1
  simp only [List.getElem?_toArray, List.getElem?_cons_zero, List.getElem?_cons_succ] at c0 c1
  clear hb4 LK B3 K3 S3 T3 U3 A3 X3 Y3 d0 d1 p0 p1
  by_cases h1 : n ≤ 140
  · rw [decide_eq_true h1]
    by_cases h2 : 500 < tn
    · have t2 : decide ((500 : Int) < (tn : Int)) = true := decide_eq_true (by omega)
      go_wp2_with fail
      go_ret
      exact ⟨rfl, B4.out⟩
    have t2 : decide ((500 : Int) < (tn : Int)) = false := decide_eq_false (by omega)
    by_cases h4 : 500 < un
    · have t4 : decide ((500 : Int) < (un : Int)) = true := decide_eq_true (by omega)
      go_wp2_with fail
      go_ret
      exact ⟨rfl, B4.out⟩
    have t4 : decide ((500 : Int) < (un : Int)) = false := decide_eq_false (by omega)
    by_cases h3 : 300 < m
    · have t3 : decide ((300 : Int) < (m : Int)) = true := decide_eq_true (by omega)
      go_wp2_with fail
      go_ret
      exact ⟨rfl, B4.out⟩
    have t3 : decide ((300 : Int) < (m : Int)) = false := decide_eq_false (by omega)
    have CP := Lib.hid (verify_any a b p n c m d tn tc e ns ss ts w4 K4.out (by omega) T4.out (by omega) HC.out S4.out (by omega) A4.out)
    go_wp2_with fail
    refine CP.out.mono ?_
    rintro r w5 ⟨rfl, hb5⟩
    have B5 := Lib.hid (Below.step B4.out hb5)
    have K5 := Lib.hid (K4.out.below hb5)
    have S5 := Lib.hid (S4.out.below hb5)
    have T5 := Lib.hid (T4.out.below hb5)
    have U5 := Lib.hid (U4.out.below hb5)
    have A5 := Lib.hid (A4.out.below hb5)
    have X5 := Lib.hid (X4.out.below hb5 X4.out.lt)
    have d0 := X5.out.cell 0
    have d1 := X5.out.cell 1
    simp only [List.getElem?_toArray, List.getElem?_cons_zero, List.getElem?_cons_succ] at d0 d1
    clear hb5 CP B4 K4 S4 T4 U4 A4 X4 c0 c1
    have CQ := Lib.hid (verify_any a b u n c m d un uc e ns ss us w5 K5.out (by omega) U5.out (by omega) HD.out S5.out (by omega) A5.out)
    go_wp2_with fail
    refine CQ.out.mono ?_
    rintro r w6 ⟨rfl, hb6⟩
    have B6 := Lib.hid (Below.step B5.out hb6)
    have T6 := Lib.hid (T5.out.below hb6)
    have U6 := Lib.hid (U5.out.below hb6)
    have A6 := Lib.hid (A5.out.below hb6)
    clear hb6 CQ B5 K5 S5 T5 U5 A5 X5 d0 d1
    have CO := Lib.hid (of_any p tn tc ts w6 T6.out HC.out (by omega) A6.out)
    go_wp2_with fail
    refine CO.out.mono ?_
    rintro r w7 ⟨rfl, hb7⟩
    have B7 := Lib.hid (Below.step B6.out hb7)
    have CU := Lib.hid (of_any u un uc us w7 (U6.out.below hb7) HD.out (by omega) (A6.out.below hb7))
    clear hb7 CO B6 T6 U6 A6
    go_wp2_with fail
    refine CU.out.mono ?_
    rintro r w8 ⟨rfl, hb8⟩
    have B8 := Lib.hid (Below.step B7.out hb8)
    clear hb8 CU B7
    have EQ := fun W => two_hash (hashZ ts) (hashZ us) L1 L2 W
    generalize verZ ns e ts ss = x at *
    generalize verZ ns e us ss = y at *
    generalize hashZ ts = xs at *
    generalize hashZ us = ys at *
    by_cases hs : xs = ys
    · have hxy := VO.out.1 hs
      subst hxy
      rw [decide_eq_true hs] at EQ
      clear hs VO L1 L2
      go_wp2_with fail
      all_goals
        go_ret
        exact ⟨rfl, B8.out⟩
    · have hxy := VO.out.2 hs
      rw [decide_eq_false hs] at EQ
      clear hs VO L1 L2
      by_cases hx : x = 0
      · have t5 : (x != 0) = false := by simpa using hx
        have t6 : (y != 0) = true := by simpa using hxy hx
        clear hx hxy
        go_wp2_with fail
        all_goals
          go_ret
          exact ⟨rfl, B8.out⟩
      · have t5 : (x != 0) = true := by simpa using hx
        clear hx hxy
        go_wp2_with fail
        all_goals
          go_ret
          exact ⟨rfl, B8.out⟩
  · rw [decide_eq_false h1]
    go_wp2_with fail
    go_ret
    exact ⟨rfl, B4.out⟩

end Go.Proofs.YtdhablbfblkagaaDoor
