/-
  The walk of stage 9's first law (rsa): any hash's frame, and which keys may be.
-/
import Derived.Test.YtdhablbfblkagaaRsH
import Derived.Test.YtdhablbfblkagaaRsI
namespace Go.Proofs.Ytdhablbfblkagaa
open Go.RowKit
set_option linter.unusedVariables false

theorem conv_late {wr : World} {a : Option Addr} {n : Nat} {zs : List Int} (c : Nat) (h : Row wr a n zs) : ∀ W, Ext wr.drew W → (convert 23 9 (.slice a n c)).run Try.prog W = .ok (.string (strOfNums zs)) W := by
  intro W hW
  exact conv_at c (Row.below (w := wr.drew) h hW)

set_option maxHeartbeats 2000000 in
set_option maxRecDepth 100000 in
theorem frames_walk (hz : List Int) (s : Int) (a : Option Addr) (n c : Nat) (e : Int) (ns : List Int) (w : World) (hl : hz.length = 32) (hb : ∀ x ∈ hz, 0 ≤ x ∧ x ≤ 255) (hs : -9223372036854775808 ≤ s ∧ s ≤ 9223372036854775807) (hk : KeyAt w a n c e ns) (hn : n ≤ maxLen) :
    Calls Try.prog 3 #[.agg (bcells hz), .int .i64 s, .agg #[.slice a n c, .int .u32 e]] w fun r w' => r = .returned (.bool true) ∧ Below w.heap.size w w' := by
  have BY := Lib.hid ((Blk.new w 22 (bcells hz)).alloc (.cells #[.slice a n c, .int .u32 e] 26))
  have BX : Hid (Blk ((w.alloc (.cells (bcells hz) 22)).alloc (.cells #[.slice a n c, .int .u32 e] 26)) (w.heap.size + 1) 26 #[.slice a n c, .int .u32 e]) := by
    have := key_box (w.alloc (.cells (bcells hz) 22)) a n c e
    rw [show (w.alloc (.cells (bcells hz) 22)).heap.size = w.heap.size + 1 by simp] at this
    exact Lib.hid this
  have BW := Lib.hid (Below.step (box_below w (.cells (bcells hz) 22)) (box_below _ (.cells #[.slice a n c, .int .u32 e] 26)))
  have K2 := Lib.hid (hk.below BW.out)
  have HL := Lib.hid hl
  have HB := Lib.hid hb
  have L2 : hz.length ≤ 32 := by omega
  have e0 := hk.2.2.2
  have c0 := BX.out.cell 0
  have c1 := BX.out.cell 1
  simp only [List.getElem?_toArray, List.getElem?_cons_zero, List.getElem?_cons_succ] at c0 c1
  clear hk hl hb
  go_enter Try.func3, Try.ntmps3
  generalize hw2 : (w.alloc (.cells (bcells hz) 22)).alloc (.cells #[.slice a n c, .int .u32 e] 26) = w2 at *
  have AW := Lib.hid (awake_any w2)
  go_wp2_with fail
  refine AW.out.mono ?_
  rintro r w3 ⟨rfl, hb3⟩
  have B3 := Lib.hid (Below.step BW.out hb3)
  have K3 := Lib.hid (K2.out.below hb3)
  have X3 := Lib.hid (BX.out.below hb3 BX.out.lt)
  have Y3 := Lib.hid (BY.out.below hb3 BY.out.lt)
  have d0 := X3.out.cell 0
  have d1 := X3.out.cell 1
  simp only [List.getElem?_toArray, List.getElem?_cons_zero, List.getElem?_cons_succ] at d0 d1
  clear hb3 AW BW K2 BX BY c0 c1 hw2
  have LK := Lib.hid (light_any a n c e ns w3 K3.out hn)
  go_wp2_with fail
  refine LK.out.mono ?_
  rintro r w4 ⟨rfl, hb4⟩
  have B4 := Lib.hid (Below.step B3.out hb4)
  have K4 := Lib.hid (K3.out.below hb4)
  have X4 := Lib.hid (X3.out.below hb4 X3.out.lt)
  have Y4 := Lib.hid (Y3.out.below hb4 Y3.out.lt)
  have c0 := X4.out.cell 0
  have c1 := X4.out.cell 1
  simp only [List.getElem?_toArray, List.getElem?_cons_zero, List.getElem?_cons_succ] at c0 c1
  clear hb4 LK B3 K3 X3 Y3 d0 d1
  by_cases h1 : n ≤ 140
  · rw [decide_eq_true h1]
    have CP := Lib.hid (frame_any hz s w4 HL.out HB.out hs.1 hs.2)
    go_wp2_with (refine wpList_load_row rfl 22 (.tmp 3) rfl w.heap.size rfl 22 (bcells hz) (0, 0) (.array 32 5) Y4.out Try.underlying22 rfl (Try.size24 hz L2) ?_)
    refine CP.out.mono ?_
    rintro r w5 ⟨a5, c5, rfl, hr5, hc5, hn5, hb5⟩
    have B5 := Lib.hid (Below.step B4.out hb5)
    have K5 := Lib.hid (K4.out.below hb5)
    have X5 := Lib.hid (X4.out.below hb5 X4.out.lt)
    have Y5 := Lib.hid (Y4.out.below hb5 Y4.out.lt)
    have P5 := Lib.hid hr5
    have d0 := X5.out.cell 0
    have d1 := X5.out.cell 1
    simp only [List.getElem?_toArray, List.getElem?_cons_zero, List.getElem?_cons_succ] at d0 d1
    clear hb5 hr5 hc5 hn5 CP B4 K4 X4 Y4 c0 c1
    have CQ := Lib.hid (rframe_any hz s w5 HL.out HB.out hs.1 hs.2)
    go_wp2_with (refine wpList_load_row rfl 22 (.tmp 3) rfl w.heap.size rfl 22 (bcells hz) (0, 0) (.array 32 5) Y5.out Try.underlying22 rfl (Try.size24 hz L2) ?_)
    refine CQ.out.mono ?_
    rintro r w6 ⟨a6, c6, rfl, hr6, hc6, hn6, hb6⟩
    have B6 := Lib.hid (Below.step B5.out hb6)
    have K6 := Lib.hid (K5.out.below hb6)
    have X6 := Lib.hid (X5.out.below hb6 X5.out.lt)
    have P6 := Lib.hid (P5.out.below hb6)
    have Q6 := Lib.hid hr6
    have c0 := X6.out.cell 0
    have c1 := X6.out.cell 1
    simp only [List.getElem?_toArray, List.getElem?_cons_zero, List.getElem?_cons_succ] at c0 c1
    clear hb6 hr6 hc6 hn6 CQ B5 K5 X5 Y5 P5 d0 d1
    have CV := Lib.hid (fun W (hb : Below w6.heap.size w6 W) => right_any a n c e ns W (K6.out.below hb) (by omega))
    have CW := Lib.hid (fun W (hb : Below w6.heap.size w6 W) => rright_any a n c e ns W (K6.out.below hb) (by omega))
    have m0 := cell_later c0
    have m1 := cell_later c1
    have v1 := conv_late c5 P6.out
    have v2 := conv_late c6 Q6.out
    clear K6 X6 P6 Q6 c0 c1
    generalize frB hz s = pz at *
    generalize frE s = ez at *
    generalize rightZ ns e = vz at *
    generalize bcells hz = bz at *
    go_wp2_with fail
    refine wp_region_ord Ext Ext.refl (fun _ _ _ => Ext.trans) ((0, false) :: (1, false) :: (2, false) :: (3, false) :: (4, false) :: (5, false) :: (6, false) :: (7, false) :: (8, false) :: (9, false) :: (10, false) :: (11, false) :: (12, false) :: (13, false) :: (14, false) :: (16, false) :: (15, true) :: (17, true) :: (18, false) :: (19, false) :: (20, false) :: []) (by kernel_rfl) (by kernel_rfl) rfl (by kernel_rfl) (fun _ _ _ _ _ h => h) ?_
    repeat (refine ord_take _ rfl (by rfl) (fun W hW => by go_simp; first | done | rfl) ?_; simp only [Act.put, List.setIfInBounds_toArray, List.set_cons_zero, List.set_cons_succ])
    clear m0 m1 v1 v2
    refine ord_sole rfl (by rfl) (fun K1 hK1 => ?_)
    go_simp
    refine (CV.out _ (drewN_below w6 1)).mono ?_
    rintro r w7 ⟨rfl, hb7⟩
    refine hK1 _ _ hb7 ?_
    have E7 : Ext w6 w7 := Ext.of_drew hb7
    have B7 := Lib.hid (Below.step B6.out E7)
    have CX := Lib.hid (CW.out w7 E7)
    clear hK1 K1 hb7 E7 CV CW
    refine ord_sole rfl (by rfl) (fun K1 hK1 => ?_)
    go_simp
    refine CX.out.mono ?_
    rintro r w8 ⟨rfl, hb8⟩
    refine hK1 _ _ hb8 ?_
    have B8 := Lib.hid (Below.step B7.out hb8)
    clear hK1 K1 hb8 CX
    repeat (refine ord_take _ rfl (by rfl) (fun W hW => by go_simp; first | done | rfl) ?_; simp only [Act.put, List.setIfInBounds_toArray, List.set_cons_zero, List.set_cons_succ])
    refine ord_end ?_
    go_wp2_with fail
    go_ret
    exact ⟨rfl, B8.out⟩
  · rw [decide_eq_false h1]
    go_wp2_with fail
    go_ret
    exact ⟨rfl, B4.out⟩

end Go.Proofs.Ytdhablbfblkagaa
