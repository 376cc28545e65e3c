/-
  Merged texts: AgG, AgH, AgI, AgJ, AgK, AgL.
-/
import Derived.Test.YtpekpgmdjpcpiaaDoorGrH
namespace Go.Proofs.YtpekpgmdjpcpiaaDoor
open Go.RowKit
set_option linter.unusedVariables false

set_option maxHeartbeats 4000000 in
set_option maxRecDepth 100000 in
theorem covers_walkF (v : Bool) (A : List Int) (L : Int) (u : Bool) (B : List Int) (M : Int) (t : Bool) (C : List Int) (K : Int) (w : World) (ht : Std w) (hp : Sixteen A ∧ -9223372036854775808 ≤ L ∧ L ≤ 9223372036854775807) (hq : Sixteen B ∧ -9223372036854775808 ≤ M ∧ M ≤ 9223372036854775807) (hr : Sixteen C ∧ -9223372036854775808 ≤ K ∧ K ≤ 9223372036854775807) (hx : coversA v A L u B M = false) :
    Calls Tryd.prog 6 #[.agg (pcells v A L), .agg (pcells u B M), .agg (pcells t C K)] w fun e w' => e = .returned (.bool true) ∧ Below w.heap.size w w' := by
  obtain ⟨bx, by', bz, bw⟩ := three_boxes w v A L u B M t C K
  have BX := Lib.hid bx
  have BY := Lib.hid by'
  have BZ := Lib.hid bz
  have BW := Lib.hid bw
  have AW := Lib.hid (awake_any _ (ht.later bw))
  obtain ⟨hA, l0, l1⟩ := hp
  obtain ⟨hB, m0, m1⟩ := hq
  obtain ⟨hC, k0, k1⟩ := hr
  have C1 := Lib.hid (fun W => covers_any v A L u B M W hA l0 l1 hB m0 m1)
  have C2 := Lib.hid (fun W => covers_any u B M t C K W hB m0 m1 hC k0 k1)
  have C3 := Lib.hid (fun W => covers_any u B M v A L W hB m0 m1 hA l0 l1)
  have C5 := Lib.hid (fun W => covers_any v A L v A L W hA l0 l1 hA l0 l1)
  rw [covers_self] at C5
  have C6 := Lib.hid (fun W => right_any v A L W hA l0 l1)
  have C7 := Lib.hid (fun W => covers_any v A L t C K W hA l0 l1 hC k0 k1)
  have C8 := Lib.hid (fun W => pcmp_any v A L u B M W hA hB)
  have EQ := fun W => two_prefix v u A B L M hA.1 hB.1 W
  have GO := Lib.hid (fun h k => covers_goes (v := v) (u := u) (t := t) (A := A) (B := B) (C := C) (L := L) (M := M) (K := K) h k)
  have BO : Hid (coversA v A L u B M = true → coversA u B M v A L = true → decide (v = u ∧ A = B ∧ L = M) = true) := Lib.hid (fun h k => decide_eq_true (covers_both hA hB h k))
  have AH := Lib.hid (fun h => covers_ahead (v := v) (u := u) (A := A) (B := B) (L := L) (M := M) h)
  have Z1 := Lib.hid (Tryd.sizeP (v := v) (L := L) hA.1)
  have Z2 := Lib.hid (Tryd.sizeP (v := u) (L := M) hB.1)
  have Z3 := Lib.hid (Tryd.sizeP (v := t) (L := K) hC.1)
  have Hhx := Lib.hid hx
  clear bx by' bz bw ht hA hB hC hx
  go_enter Tryd.func6, Tryd.ntmps6
  generalize hw2 : ((w.alloc (.cells (pcells v A L) 24)).alloc (.cells (pcells u B M) 24)).alloc (.cells (pcells t C K) 24) = w2 at *
  generalize pcells v A L = P at *
  generalize pcells u B M = R at *
  generalize pcells t C K = S at *
  generalize coversA v A L u B M = x at *
  generalize coversA u B M t C K = y at *
  generalize coversA u B M v A L = z at *
  generalize coversA v A L t C K = g at *
  generalize cmpA v A L u B M = c at *
  generalize rightA v A L = k at *
  generalize decide (v = u ∧ A = B ∧ L = M) = q at *
  have hk : (k == k) = true := beq_self_eq_true k
  go_wp2_with fail
  refine AW.out.mono ?_
  rintro r w3 ⟨rfl, hb3⟩
  have B3 := Lib.hid (Below.step BW.out hb3)
  have X3 := Lib.hid (Blk.below BX.out hb3 BX.out.lt)
  have Y3 := Lib.hid (Blk.below BY.out hb3 BY.out.lt)
  have V3 := Lib.hid (Blk.below BZ.out hb3 BZ.out.lt)
  clear hb3 AW BW BX BY BZ hw2
  go_upto_region 3 with (first
    | (refine wpList_load_row rfl 24 (.tmp 3) rfl w.heap.size rfl 24 P (0, 0) _ X3.out Tryd.underlying24 rfl Z1.out ?_)
    | (refine wpList_load_row rfl 24 (.tmp 4) rfl (w.heap.size + 1) rfl 24 R (0, 0) _ Y3.out Tryd.underlying24 rfl Z2.out ?_)
    | (go_at_call 16; refine (C1.out _).mono ?_; rintro r w4 ⟨rfl, hb4⟩; replace B3 := Lib.hid (Below.step B3.out hb4); replace X3 := Lib.hid (Blk.below X3.out hb4 X3.out.lt); replace Y3 := Lib.hid (Blk.below Y3.out hb4 Y3.out.lt); replace V3 := Lib.hid (Blk.below V3.out hb4 V3.out.lt); clear hb4 C1))
  go_upto_region 4 with (first
    | (refine wpList_load_row rfl 24 (.tmp 4) rfl (w.heap.size + 1) rfl 24 R (0, 0) _ Y3.out Tryd.underlying24 rfl Z2.out ?_)
    | (refine wpList_load_row rfl 24 (.tmp 5) rfl (w.heap.size + 2) rfl 24 S (0, 0) _ V3.out Tryd.underlying24 rfl Z3.out ?_)
    | (go_at_call 16; refine (C2.out _).mono ?_; rintro r w5 ⟨rfl, hb5⟩; replace B3 := Lib.hid (Below.step B3.out hb5); replace X3 := Lib.hid (Blk.below X3.out hb5 X3.out.lt); replace Y3 := Lib.hid (Blk.below Y3.out hb5 Y3.out.lt); replace V3 := Lib.hid (Blk.below V3.out hb5 V3.out.lt); clear hb5 C2))
  go_upto_region 5 with (first
    | (refine wpList_load_row rfl 24 (.tmp 3) rfl w.heap.size rfl 24 P (0, 0) _ X3.out Tryd.underlying24 rfl Z1.out ?_)
    | (refine wpList_load_row rfl 24 (.tmp 4) rfl (w.heap.size + 1) rfl 24 R (0, 0) _ Y3.out Tryd.underlying24 rfl Z2.out ?_)
    | (go_at_call 16; refine (C3.out _).mono ?_; rintro r w6 ⟨rfl, hb5⟩; replace B3 := Lib.hid (Below.step B3.out hb5); replace X3 := Lib.hid (Blk.below X3.out hb5 X3.out.lt); replace Y3 := Lib.hid (Blk.below Y3.out hb5 Y3.out.lt); replace V3 := Lib.hid (Blk.below V3.out hb5 V3.out.lt); clear hb5 C3))
  obtain rfl := Hhx.out
  clear Hhx
  try obtain rfl := GO.out rfl rfl
  try obtain rfl := BO.out rfl rfl
  try have hc := decide_eq_true (AH.out rfl)
  clear GO BO AH
  go_wp2_with fail
  refine wp_region_ord Ext Ext.refl (fun _ _ _ => Ext.trans) ((0, false) :: (1, false) :: (2, false) :: (3, false) :: (5, false) :: (4, true) :: (6, true) :: (7, false) :: (8, false) :: (9, false) :: (10, false) :: (11, false) :: (12, false) :: (13, false) :: (14, false) :: (15, false) :: (16, false) :: (17, false) :: (18, false) :: (19, true) :: (20, false) :: (21, false) :: (22, false) :: (23, false) :: (24, false) :: (25, false) :: (26, false) :: (27, false) :: (28, false) :: (29, false) :: (30, false) :: (31, false) :: (32, false) :: (33, false) :: (34, false) :: (35, false) :: (36, false) :: (37, false) :: (38, false) :: (39, false) :: (40, false) :: (41, true) :: (42, false) :: (43, false) :: (44, false) :: (45, false) :: []) (by kernel_rfl) (by kernel_rfl) rfl (by kernel_rfl) (fun _ _ _ _ _ h => h) ?_
  have B4 : Hid (Below w.heap.size w w6.drew) := Lib.hid (Below.step B3.out (drewN_below w6 1))
  have X4 : Hid (Blk w6.drew w.heap.size 24 P) := Lib.hid (show Blk w6 w.heap.size 24 P from X3.out)
  have Y4 : Hid (Blk w6.drew (w.heap.size + 1) 24 R) := Lib.hid (show Blk w6 (w.heap.size + 1) 24 R from Y3.out)
  have V4 : Hid (Blk w6.drew (w.heap.size + 2) 24 S) := Lib.hid (show Blk w6 (w.heap.size + 2) 24 S from V3.out)
  clear B3 X3 Y3 V3
  generalize w6.drew = w7 at *
  repeat (first
    | (refine ord_skip rfl (by rfl) ?_; simp only [Act.put, List.setIfInBounds_toArray, List.set_cons_zero, List.set_cons_succ])
    | (refine ord_take _ rfl (by rfl) (fun W hW => yields_row 24 (.tmp 3) rfl w.heap.size 24 P _ rfl (Blk.below X4.out hW X4.out.lt) Tryd.underlying24 rfl Z1.out) ?_; simp only [Act.put, List.setIfInBounds_toArray, List.set_cons_zero, List.set_cons_succ])
    | (refine ord_take _ rfl (by rfl) (fun W hW => yields_row 24 (.tmp 4) rfl (w.heap.size + 1) 24 R _ rfl (Blk.below Y4.out hW Y4.out.lt) Tryd.underlying24 rfl Z2.out) ?_; simp only [Act.put, List.setIfInBounds_toArray, List.set_cons_zero, List.set_cons_succ])
    | (refine ord_take _ rfl (by rfl) (fun W hW => yields_row 24 (.tmp 5) rfl (w.heap.size + 2) 24 S _ rfl (Blk.below V4.out hW V4.out.lt) Tryd.underlying24 rfl Z3.out) ?_; simp only [Act.put, List.setIfInBounds_toArray, List.set_cons_zero, List.set_cons_succ])
    | (refine ord_take _ rfl (by rfl) (fun W hW => by go_simp; first | done | rfl) ?_; simp only [Act.put, List.setIfInBounds_toArray, List.set_cons_zero, List.set_cons_succ])
    | (refine ord_sole rfl (by rfl) (fun K1 hK1 => ?_)
       go_simp
       first
         | (refine (C5.out _).mono ?_; clear C5)
         | refine (C6.out _).mono ?_
         | refine (C7.out _).mono ?_
         | refine (C8.out _).mono ?_
       rintro r w8 ⟨rfl, hb8⟩
       refine hK1 _ _ hb8 ?_
       clear hK1 K1
       replace B4 := Lib.hid (Below.step B4.out hb8)
       replace X4 := Lib.hid (Blk.below X4.out hb8 X4.out.lt)
       replace Y4 := Lib.hid (Blk.below Y4.out hb8 Y4.out.lt)
       replace V4 := Lib.hid (Blk.below V4.out hb8 V4.out.lt)
       clear hb8))
  refine ord_end ?_
  go_wp2_with fail
  go_ret
  exact ⟨rfl, B4.out⟩

end Go.Proofs.YtpekpgmdjpcpiaaDoor

namespace Go.Proofs.YtpekpgmdjpcpiaaDoor
open Go.RowKit
set_option linter.unusedVariables false

set_option maxHeartbeats 4000000 in
set_option maxRecDepth 100000 in
theorem covers_walkFF (v : Bool) (A : List Int) (L : Int) (u : Bool) (B : List Int) (M : Int) (t : Bool) (C : List Int) (K : Int) (w : World) (ht : Std w) (hp : Sixteen A ∧ -9223372036854775808 ≤ L ∧ L ≤ 9223372036854775807) (hq : Sixteen B ∧ -9223372036854775808 ≤ M ∧ M ≤ 9223372036854775807) (hr : Sixteen C ∧ -9223372036854775808 ≤ K ∧ K ≤ 9223372036854775807) (hx : coversA v A L u B M = true) (hy : coversA u B M t C K = false) (hz : coversA u B M v A L = false) :
    Calls Tryd.prog 6 #[.agg (pcells v A L), .agg (pcells u B M), .agg (pcells t C K)] w fun e w' => e = .returned (.bool true) ∧ Below w.heap.size w w' := by
  obtain ⟨bx, by', bz, bw⟩ := three_boxes w v A L u B M t C K
  have BX := Lib.hid bx
  have BY := Lib.hid by'
  have BZ := Lib.hid bz
  have BW := Lib.hid bw
  have AW := Lib.hid (awake_any _ (ht.later bw))
  obtain ⟨hA, l0, l1⟩ := hp
  obtain ⟨hB, m0, m1⟩ := hq
  obtain ⟨hC, k0, k1⟩ := hr
  have C1 := Lib.hid (fun W => covers_any v A L u B M W hA l0 l1 hB m0 m1)
  have C2 := Lib.hid (fun W => covers_any u B M t C K W hB m0 m1 hC k0 k1)
  have C3 := Lib.hid (fun W => covers_any u B M v A L W hB m0 m1 hA l0 l1)
  have C5 := Lib.hid (fun W => covers_any v A L v A L W hA l0 l1 hA l0 l1)
  rw [covers_self] at C5
  have C6 := Lib.hid (fun W => right_any v A L W hA l0 l1)
  have C7 := Lib.hid (fun W => covers_any v A L t C K W hA l0 l1 hC k0 k1)
  have C8 := Lib.hid (fun W => pcmp_any v A L u B M W hA hB)
  have EQ := fun W => two_prefix v u A B L M hA.1 hB.1 W
  have GO := Lib.hid (fun h k => covers_goes (v := v) (u := u) (t := t) (A := A) (B := B) (C := C) (L := L) (M := M) (K := K) h k)
  have BO : Hid (coversA v A L u B M = true → coversA u B M v A L = true → decide (v = u ∧ A = B ∧ L = M) = true) := Lib.hid (fun h k => decide_eq_true (covers_both hA hB h k))
  have AH := Lib.hid (fun h => covers_ahead (v := v) (u := u) (A := A) (B := B) (L := L) (M := M) h)
  have Z1 := Lib.hid (Tryd.sizeP (v := v) (L := L) hA.1)
  have Z2 := Lib.hid (Tryd.sizeP (v := u) (L := M) hB.1)
  have Z3 := Lib.hid (Tryd.sizeP (v := t) (L := K) hC.1)
  have Hhx := Lib.hid hx
  have Hhy := Lib.hid hy
  have Hhz := Lib.hid hz
  clear bx by' bz bw ht hA hB hC hx hy hz
  go_enter Tryd.func6, Tryd.ntmps6
  generalize hw2 : ((w.alloc (.cells (pcells v A L) 24)).alloc (.cells (pcells u B M) 24)).alloc (.cells (pcells t C K) 24) = w2 at *
  generalize pcells v A L = P at *
  generalize pcells u B M = R at *
  generalize pcells t C K = S at *
  generalize coversA v A L u B M = x at *
  generalize coversA u B M t C K = y at *
  generalize coversA u B M v A L = z at *
  generalize coversA v A L t C K = g at *
  generalize cmpA v A L u B M = c at *
  generalize rightA v A L = k at *
  generalize decide (v = u ∧ A = B ∧ L = M) = q at *
  have hk : (k == k) = true := beq_self_eq_true k
  go_wp2_with fail
  refine AW.out.mono ?_
  rintro r w3 ⟨rfl, hb3⟩
  have B3 := Lib.hid (Below.step BW.out hb3)
  have X3 := Lib.hid (Blk.below BX.out hb3 BX.out.lt)
  have Y3 := Lib.hid (Blk.below BY.out hb3 BY.out.lt)
  have V3 := Lib.hid (Blk.below BZ.out hb3 BZ.out.lt)
  clear hb3 AW BW BX BY BZ hw2
  go_upto_region 3 with (first
    | (refine wpList_load_row rfl 24 (.tmp 3) rfl w.heap.size rfl 24 P (0, 0) _ X3.out Tryd.underlying24 rfl Z1.out ?_)
    | (refine wpList_load_row rfl 24 (.tmp 4) rfl (w.heap.size + 1) rfl 24 R (0, 0) _ Y3.out Tryd.underlying24 rfl Z2.out ?_)
    | (go_at_call 16; refine (C1.out _).mono ?_; rintro r w4 ⟨rfl, hb4⟩; replace B3 := Lib.hid (Below.step B3.out hb4); replace X3 := Lib.hid (Blk.below X3.out hb4 X3.out.lt); replace Y3 := Lib.hid (Blk.below Y3.out hb4 Y3.out.lt); replace V3 := Lib.hid (Blk.below V3.out hb4 V3.out.lt); clear hb4 C1))
  go_upto_region 4 with (first
    | (refine wpList_load_row rfl 24 (.tmp 4) rfl (w.heap.size + 1) rfl 24 R (0, 0) _ Y3.out Tryd.underlying24 rfl Z2.out ?_)
    | (refine wpList_load_row rfl 24 (.tmp 5) rfl (w.heap.size + 2) rfl 24 S (0, 0) _ V3.out Tryd.underlying24 rfl Z3.out ?_)
    | (go_at_call 16; refine (C2.out _).mono ?_; rintro r w5 ⟨rfl, hb5⟩; replace B3 := Lib.hid (Below.step B3.out hb5); replace X3 := Lib.hid (Blk.below X3.out hb5 X3.out.lt); replace Y3 := Lib.hid (Blk.below Y3.out hb5 Y3.out.lt); replace V3 := Lib.hid (Blk.below V3.out hb5 V3.out.lt); clear hb5 C2))
  go_upto_region 5 with (first
    | (refine wpList_load_row rfl 24 (.tmp 3) rfl w.heap.size rfl 24 P (0, 0) _ X3.out Tryd.underlying24 rfl Z1.out ?_)
    | (refine wpList_load_row rfl 24 (.tmp 4) rfl (w.heap.size + 1) rfl 24 R (0, 0) _ Y3.out Tryd.underlying24 rfl Z2.out ?_)
    | (go_at_call 16; refine (C3.out _).mono ?_; rintro r w6 ⟨rfl, hb5⟩; replace B3 := Lib.hid (Below.step B3.out hb5); replace X3 := Lib.hid (Blk.below X3.out hb5 X3.out.lt); replace Y3 := Lib.hid (Blk.below Y3.out hb5 Y3.out.lt); replace V3 := Lib.hid (Blk.below V3.out hb5 V3.out.lt); clear hb5 C3))
  obtain rfl := Hhx.out
  clear Hhx
  obtain rfl := Hhy.out
  clear Hhy
  obtain rfl := Hhz.out
  clear Hhz
  try obtain rfl := GO.out rfl rfl
  try obtain rfl := BO.out rfl rfl
  try have hc := decide_eq_true (AH.out rfl)
  clear GO BO AH
  go_wp2_with fail
  refine wp_region_ord Ext Ext.refl (fun _ _ _ => Ext.trans) ((0, false) :: (1, false) :: (2, false) :: (3, false) :: (5, false) :: (4, true) :: (6, true) :: (7, false) :: (8, false) :: (9, false) :: (10, false) :: (11, false) :: (12, false) :: (13, false) :: (14, false) :: (15, false) :: (16, false) :: (17, false) :: (18, false) :: (19, true) :: (20, false) :: (21, false) :: (22, false) :: (23, false) :: (24, false) :: (25, false) :: (26, false) :: (27, false) :: (28, false) :: (29, false) :: (30, false) :: (31, false) :: (32, false) :: (33, false) :: (34, false) :: (35, false) :: (36, false) :: (37, false) :: (38, false) :: (39, false) :: (40, false) :: (41, true) :: (42, false) :: (43, false) :: (44, false) :: (45, false) :: []) (by kernel_rfl) (by kernel_rfl) rfl (by kernel_rfl) (fun _ _ _ _ _ h => h) ?_
  have B4 : Hid (Below w.heap.size w w6.drew) := Lib.hid (Below.step B3.out (drewN_below w6 1))
  have X4 : Hid (Blk w6.drew w.heap.size 24 P) := Lib.hid (show Blk w6 w.heap.size 24 P from X3.out)
  have Y4 : Hid (Blk w6.drew (w.heap.size + 1) 24 R) := Lib.hid (show Blk w6 (w.heap.size + 1) 24 R from Y3.out)
  have V4 : Hid (Blk w6.drew (w.heap.size + 2) 24 S) := Lib.hid (show Blk w6 (w.heap.size + 2) 24 S from V3.out)
  clear B3 X3 Y3 V3
  generalize w6.drew = w7 at *
  repeat (first
    | (refine ord_skip rfl (by rfl) ?_; simp only [Act.put, List.setIfInBounds_toArray, List.set_cons_zero, List.set_cons_succ])
    | (refine ord_take _ rfl (by rfl) (fun W hW => yields_row 24 (.tmp 3) rfl w.heap.size 24 P _ rfl (Blk.below X4.out hW X4.out.lt) Tryd.underlying24 rfl Z1.out) ?_; simp only [Act.put, List.setIfInBounds_toArray, List.set_cons_zero, List.set_cons_succ])
    | (refine ord_take _ rfl (by rfl) (fun W hW => yields_row 24 (.tmp 4) rfl (w.heap.size + 1) 24 R _ rfl (Blk.below Y4.out hW Y4.out.lt) Tryd.underlying24 rfl Z2.out) ?_; simp only [Act.put, List.setIfInBounds_toArray, List.set_cons_zero, List.set_cons_succ])
    | (refine ord_take _ rfl (by rfl) (fun W hW => yields_row 24 (.tmp 5) rfl (w.heap.size + 2) 24 S _ rfl (Blk.below V4.out hW V4.out.lt) Tryd.underlying24 rfl Z3.out) ?_; simp only [Act.put, List.setIfInBounds_toArray, List.set_cons_zero, List.set_cons_succ])
    | (refine ord_take _ rfl (by rfl) (fun W hW => by go_simp; first | done | rfl) ?_; simp only [Act.put, List.setIfInBounds_toArray, List.set_cons_zero, List.set_cons_succ])
    | (refine ord_sole rfl (by rfl) (fun K1 hK1 => ?_)
       go_simp
       first
         | refine (C5.out _).mono ?_
         | refine (C6.out _).mono ?_
         | refine (C7.out _).mono ?_
         | refine (C8.out _).mono ?_
       rintro r w8 ⟨rfl, hb8⟩
       refine hK1 _ _ hb8 ?_
       clear hK1 K1
       replace B4 := Lib.hid (Below.step B4.out hb8)
       replace X4 := Lib.hid (Blk.below X4.out hb8 X4.out.lt)
       replace Y4 := Lib.hid (Blk.below Y4.out hb8 Y4.out.lt)
       replace V4 := Lib.hid (Blk.below V4.out hb8 V4.out.lt)
       clear hb8))
  refine ord_end ?_
  go_wp2_with fail
  go_ret
  exact ⟨rfl, B4.out⟩

end Go.Proofs.YtpekpgmdjpcpiaaDoor

namespace Go.Proofs.YtpekpgmdjpcpiaaDoor
open Go.RowKit
set_option linter.unusedVariables false

set_option maxHeartbeats 4000000 in
set_option maxRecDepth 100000 in
theorem covers_walkFT (v : Bool) (A : List Int) (L : Int) (u : Bool) (B : List Int) (M : Int) (t : Bool) (C : List Int) (K : Int) (w : World) (ht : Std w) (hp : Sixteen A ∧ -9223372036854775808 ≤ L ∧ L ≤ 9223372036854775807) (hq : Sixteen B ∧ -9223372036854775808 ≤ M ∧ M ≤ 9223372036854775807) (hr : Sixteen C ∧ -9223372036854775808 ≤ K ∧ K ≤ 9223372036854775807) (hx : coversA v A L u B M = true) (hy : coversA u B M t C K = false) (hz : coversA u B M v A L = true) :
    Calls Tryd.prog 6 #[.agg (pcells v A L), .agg (pcells u B M), .agg (pcells t C K)] w fun e w' => e = .returned (.bool true) ∧ Below w.heap.size w w' := by
  obtain ⟨bx, by', bz, bw⟩ := three_boxes w v A L u B M t C K
  have BX := Lib.hid bx
  have BY := Lib.hid by'
  have BZ := Lib.hid bz
  have BW := Lib.hid bw
  have AW := Lib.hid (awake_any _ (ht.later bw))
  obtain ⟨hA, l0, l1⟩ := hp
  obtain ⟨hB, m0, m1⟩ := hq
  obtain ⟨hC, k0, k1⟩ := hr
  have C1 := Lib.hid (fun W => covers_any v A L u B M W hA l0 l1 hB m0 m1)
  have C2 := Lib.hid (fun W => covers_any u B M t C K W hB m0 m1 hC k0 k1)
  have C3 := Lib.hid (fun W => covers_any u B M v A L W hB m0 m1 hA l0 l1)
  have C5 := Lib.hid (fun W => covers_any v A L v A L W hA l0 l1 hA l0 l1)
  rw [covers_self] at C5
  have C6 := Lib.hid (fun W => right_any v A L W hA l0 l1)
  have C7 := Lib.hid (fun W => covers_any v A L t C K W hA l0 l1 hC k0 k1)
  have C8 := Lib.hid (fun W => pcmp_any v A L u B M W hA hB)
  have EQ := fun W => two_prefix v u A B L M hA.1 hB.1 W
  have GO := Lib.hid (fun h k => covers_goes (v := v) (u := u) (t := t) (A := A) (B := B) (C := C) (L := L) (M := M) (K := K) h k)
  have BO : Hid (coversA v A L u B M = true → coversA u B M v A L = true → decide (v = u ∧ A = B ∧ L = M) = true) := Lib.hid (fun h k => decide_eq_true (covers_both hA hB h k))
  have AH := Lib.hid (fun h => covers_ahead (v := v) (u := u) (A := A) (B := B) (L := L) (M := M) h)
  have Z1 := Lib.hid (Tryd.sizeP (v := v) (L := L) hA.1)
  have Z2 := Lib.hid (Tryd.sizeP (v := u) (L := M) hB.1)
  have Z3 := Lib.hid (Tryd.sizeP (v := t) (L := K) hC.1)
  have Hhx := Lib.hid hx
  have Hhy := Lib.hid hy
  have Hhz := Lib.hid hz
  clear bx by' bz bw ht hA hB hC hx hy hz
  go_enter Tryd.func6, Tryd.ntmps6
  generalize hw2 : ((w.alloc (.cells (pcells v A L) 24)).alloc (.cells (pcells u B M) 24)).alloc (.cells (pcells t C K) 24) = w2 at *
  generalize pcells v A L = P at *
  generalize pcells u B M = R at *
  generalize pcells t C K = S at *
  generalize coversA v A L u B M = x at *
  generalize coversA u B M t C K = y at *
  generalize coversA u B M v A L = z at *
  generalize coversA v A L t C K = g at *
  generalize cmpA v A L u B M = c at *
  generalize rightA v A L = k at *
  generalize decide (v = u ∧ A = B ∧ L = M) = q at *
  have hk : (k == k) = true := beq_self_eq_true k
  go_wp2_with fail
  refine AW.out.mono ?_
  rintro r w3 ⟨rfl, hb3⟩
  have B3 := Lib.hid (Below.step BW.out hb3)
  have X3 := Lib.hid (Blk.below BX.out hb3 BX.out.lt)
  have Y3 := Lib.hid (Blk.below BY.out hb3 BY.out.lt)
  have V3 := Lib.hid (Blk.below BZ.out hb3 BZ.out.lt)
  clear hb3 AW BW BX BY BZ hw2
  go_upto_region 3 with (first
    | (refine wpList_load_row rfl 24 (.tmp 3) rfl w.heap.size rfl 24 P (0, 0) _ X3.out Tryd.underlying24 rfl Z1.out ?_)
    | (refine wpList_load_row rfl 24 (.tmp 4) rfl (w.heap.size + 1) rfl 24 R (0, 0) _ Y3.out Tryd.underlying24 rfl Z2.out ?_)
    | (go_at_call 16; refine (C1.out _).mono ?_; rintro r w4 ⟨rfl, hb4⟩; replace B3 := Lib.hid (Below.step B3.out hb4); replace X3 := Lib.hid (Blk.below X3.out hb4 X3.out.lt); replace Y3 := Lib.hid (Blk.below Y3.out hb4 Y3.out.lt); replace V3 := Lib.hid (Blk.below V3.out hb4 V3.out.lt); clear hb4 C1))
  go_upto_region 4 with (first
    | (refine wpList_load_row rfl 24 (.tmp 4) rfl (w.heap.size + 1) rfl 24 R (0, 0) _ Y3.out Tryd.underlying24 rfl Z2.out ?_)
    | (refine wpList_load_row rfl 24 (.tmp 5) rfl (w.heap.size + 2) rfl 24 S (0, 0) _ V3.out Tryd.underlying24 rfl Z3.out ?_)
    | (go_at_call 16; refine (C2.out _).mono ?_; rintro r w5 ⟨rfl, hb5⟩; replace B3 := Lib.hid (Below.step B3.out hb5); replace X3 := Lib.hid (Blk.below X3.out hb5 X3.out.lt); replace Y3 := Lib.hid (Blk.below Y3.out hb5 Y3.out.lt); replace V3 := Lib.hid (Blk.below V3.out hb5 V3.out.lt); clear hb5 C2))
  go_upto_region 5 with (first
    | (refine wpList_load_row rfl 24 (.tmp 3) rfl w.heap.size rfl 24 P (0, 0) _ X3.out Tryd.underlying24 rfl Z1.out ?_)
    | (refine wpList_load_row rfl 24 (.tmp 4) rfl (w.heap.size + 1) rfl 24 R (0, 0) _ Y3.out Tryd.underlying24 rfl Z2.out ?_)
    | (go_at_call 16; refine (C3.out _).mono ?_; rintro r w6 ⟨rfl, hb5⟩; replace B3 := Lib.hid (Below.step B3.out hb5); replace X3 := Lib.hid (Blk.below X3.out hb5 X3.out.lt); replace Y3 := Lib.hid (Blk.below Y3.out hb5 Y3.out.lt); replace V3 := Lib.hid (Blk.below V3.out hb5 V3.out.lt); clear hb5 C3))
  obtain rfl := Hhx.out
  clear Hhx
  obtain rfl := Hhy.out
  clear Hhy
  obtain rfl := Hhz.out
  clear Hhz
  try obtain rfl := GO.out rfl rfl
  try obtain rfl := BO.out rfl rfl
  try have hc := decide_eq_true (AH.out rfl)
  clear GO BO AH
  go_wp2_with fail
  refine wp_region_ord Ext Ext.refl (fun _ _ _ => Ext.trans) ((0, false) :: (1, false) :: (2, false) :: (3, false) :: (5, false) :: (4, true) :: (6, true) :: (7, false) :: (8, false) :: (9, false) :: (10, false) :: (11, false) :: (12, false) :: (13, false) :: (14, false) :: (15, false) :: (16, false) :: (17, false) :: (18, false) :: (19, true) :: (20, false) :: (21, false) :: (22, false) :: (23, false) :: (24, false) :: (25, false) :: (26, false) :: (27, false) :: (28, false) :: (29, false) :: (30, false) :: (31, false) :: (32, false) :: (33, false) :: (34, false) :: (35, false) :: (36, false) :: (37, false) :: (38, false) :: (39, false) :: (40, false) :: (41, true) :: (42, false) :: (43, false) :: (44, false) :: (45, false) :: []) (by kernel_rfl) (by kernel_rfl) rfl (by kernel_rfl) (fun _ _ _ _ _ h => h) ?_
  have B4 : Hid (Below w.heap.size w w6.drew) := Lib.hid (Below.step B3.out (drewN_below w6 1))
  have X4 : Hid (Blk w6.drew w.heap.size 24 P) := Lib.hid (show Blk w6 w.heap.size 24 P from X3.out)
  have Y4 : Hid (Blk w6.drew (w.heap.size + 1) 24 R) := Lib.hid (show Blk w6 (w.heap.size + 1) 24 R from Y3.out)
  have V4 : Hid (Blk w6.drew (w.heap.size + 2) 24 S) := Lib.hid (show Blk w6 (w.heap.size + 2) 24 S from V3.out)
  clear B3 X3 Y3 V3
  generalize w6.drew = w7 at *
  repeat (first
    | (refine ord_skip rfl (by rfl) ?_; simp only [Act.put, List.setIfInBounds_toArray, List.set_cons_zero, List.set_cons_succ])
    | (refine ord_take _ rfl (by rfl) (fun W hW => yields_row 24 (.tmp 3) rfl w.heap.size 24 P _ rfl (Blk.below X4.out hW X4.out.lt) Tryd.underlying24 rfl Z1.out) ?_; simp only [Act.put, List.setIfInBounds_toArray, List.set_cons_zero, List.set_cons_succ])
    | (refine ord_take _ rfl (by rfl) (fun W hW => yields_row 24 (.tmp 4) rfl (w.heap.size + 1) 24 R _ rfl (Blk.below Y4.out hW Y4.out.lt) Tryd.underlying24 rfl Z2.out) ?_; simp only [Act.put, List.setIfInBounds_toArray, List.set_cons_zero, List.set_cons_succ])
    | (refine ord_take _ rfl (by rfl) (fun W hW => yields_row 24 (.tmp 5) rfl (w.heap.size + 2) 24 S _ rfl (Blk.below V4.out hW V4.out.lt) Tryd.underlying24 rfl Z3.out) ?_; simp only [Act.put, List.setIfInBounds_toArray, List.set_cons_zero, List.set_cons_succ])
    | (refine ord_take _ rfl (by rfl) (fun W hW => by go_simp; first | done | rfl) ?_; simp only [Act.put, List.setIfInBounds_toArray, List.set_cons_zero, List.set_cons_succ])
    | (refine ord_sole rfl (by rfl) (fun K1 hK1 => ?_)
       go_simp
       first
         | (refine (C5.out _).mono ?_; clear C5)
         | refine (C6.out _).mono ?_
         | refine (C7.out _).mono ?_
         | refine (C8.out _).mono ?_
       rintro r w8 ⟨rfl, hb8⟩
       refine hK1 _ _ hb8 ?_
       clear hK1 K1
       replace B4 := Lib.hid (Below.step B4.out hb8)
       replace X4 := Lib.hid (Blk.below X4.out hb8 X4.out.lt)
       replace Y4 := Lib.hid (Blk.below Y4.out hb8 Y4.out.lt)
       replace V4 := Lib.hid (Blk.below V4.out hb8 V4.out.lt)
       clear hb8))
  refine ord_end ?_
  go_wp2_with fail
  go_ret
  exact ⟨rfl, B4.out⟩

end Go.Proofs.YtpekpgmdjpcpiaaDoor

namespace Go.Proofs.YtpekpgmdjpcpiaaDoor
open Go.RowKit
set_option linter.unusedVariables false

set_option maxHeartbeats 4000000 in
set_option maxRecDepth 100000 in
theorem covers_walkTF (v : Bool) (A : List Int) (L : Int) (u : Bool) (B : List Int) (M : Int) (t : Bool) (C : List Int) (K : Int) (w : World) (ht : Std w) (hp : Sixteen A ∧ -9223372036854775808 ≤ L ∧ L ≤ 9223372036854775807) (hq : Sixteen B ∧ -9223372036854775808 ≤ M ∧ M ≤ 9223372036854775807) (hr : Sixteen C ∧ -9223372036854775808 ≤ K ∧ K ≤ 9223372036854775807) (hx : coversA v A L u B M = true) (hy : coversA u B M t C K = true) (hz : coversA u B M v A L = false) :
    Calls Tryd.prog 6 #[.agg (pcells v A L), .agg (pcells u B M), .agg (pcells t C K)] w fun e w' => e = .returned (.bool true) ∧ Below w.heap.size w w' := by
  obtain ⟨bx, by', bz, bw⟩ := three_boxes w v A L u B M t C K
  have BX := Lib.hid bx
  have BY := Lib.hid by'
  have BZ := Lib.hid bz
  have BW := Lib.hid bw
  have AW := Lib.hid (awake_any _ (ht.later bw))
  obtain ⟨hA, l0, l1⟩ := hp
  obtain ⟨hB, m0, m1⟩ := hq
  obtain ⟨hC, k0, k1⟩ := hr
  have C1 := Lib.hid (fun W => covers_any v A L u B M W hA l0 l1 hB m0 m1)
  have C2 := Lib.hid (fun W => covers_any u B M t C K W hB m0 m1 hC k0 k1)
  have C3 := Lib.hid (fun W => covers_any u B M v A L W hB m0 m1 hA l0 l1)
  have C5 := Lib.hid (fun W => covers_any v A L v A L W hA l0 l1 hA l0 l1)
  rw [covers_self] at C5
  have C6 := Lib.hid (fun W => right_any v A L W hA l0 l1)
  have C7 := Lib.hid (fun W => covers_any v A L t C K W hA l0 l1 hC k0 k1)
  have C8 := Lib.hid (fun W => pcmp_any v A L u B M W hA hB)
  have EQ := fun W => two_prefix v u A B L M hA.1 hB.1 W
  have GO := Lib.hid (fun h k => covers_goes (v := v) (u := u) (t := t) (A := A) (B := B) (C := C) (L := L) (M := M) (K := K) h k)
  have BO : Hid (coversA v A L u B M = true → coversA u B M v A L = true → decide (v = u ∧ A = B ∧ L = M) = true) := Lib.hid (fun h k => decide_eq_true (covers_both hA hB h k))
  have AH := Lib.hid (fun h => covers_ahead (v := v) (u := u) (A := A) (B := B) (L := L) (M := M) h)
  have Z1 := Lib.hid (Tryd.sizeP (v := v) (L := L) hA.1)
  have Z2 := Lib.hid (Tryd.sizeP (v := u) (L := M) hB.1)
  have Z3 := Lib.hid (Tryd.sizeP (v := t) (L := K) hC.1)
  have Hhx := Lib.hid hx
  have Hhy := Lib.hid hy
  have Hhz := Lib.hid hz
  clear bx by' bz bw ht hA hB hC hx hy hz
  go_enter Tryd.func6, Tryd.ntmps6
  generalize hw2 : ((w.alloc (.cells (pcells v A L) 24)).alloc (.cells (pcells u B M) 24)).alloc (.cells (pcells t C K) 24) = w2 at *
  generalize pcells v A L = P at *
  generalize pcells u B M = R at *
  generalize pcells t C K = S at *
  generalize coversA v A L u B M = x at *
  generalize coversA u B M t C K = y at *
  generalize coversA u B M v A L = z at *
  generalize coversA v A L t C K = g at *
  generalize cmpA v A L u B M = c at *
  generalize rightA v A L = k at *
  generalize decide (v = u ∧ A = B ∧ L = M) = q at *
  have hk : (k == k) = true := beq_self_eq_true k
  go_wp2_with fail
  refine AW.out.mono ?_
  rintro r w3 ⟨rfl, hb3⟩
  have B3 := Lib.hid (Below.step BW.out hb3)
  have X3 := Lib.hid (Blk.below BX.out hb3 BX.out.lt)
  have Y3 := Lib.hid (Blk.below BY.out hb3 BY.out.lt)
  have V3 := Lib.hid (Blk.below BZ.out hb3 BZ.out.lt)
  clear hb3 AW BW BX BY BZ hw2
  go_upto_region 3 with (first
    | (refine wpList_load_row rfl 24 (.tmp 3) rfl w.heap.size rfl 24 P (0, 0) _ X3.out Tryd.underlying24 rfl Z1.out ?_)
    | (refine wpList_load_row rfl 24 (.tmp 4) rfl (w.heap.size + 1) rfl 24 R (0, 0) _ Y3.out Tryd.underlying24 rfl Z2.out ?_)
    | (go_at_call 16; refine (C1.out _).mono ?_; rintro r w4 ⟨rfl, hb4⟩; replace B3 := Lib.hid (Below.step B3.out hb4); replace X3 := Lib.hid (Blk.below X3.out hb4 X3.out.lt); replace Y3 := Lib.hid (Blk.below Y3.out hb4 Y3.out.lt); replace V3 := Lib.hid (Blk.below V3.out hb4 V3.out.lt); clear hb4 C1))
  go_upto_region 4 with (first
    | (refine wpList_load_row rfl 24 (.tmp 4) rfl (w.heap.size + 1) rfl 24 R (0, 0) _ Y3.out Tryd.underlying24 rfl Z2.out ?_)
    | (refine wpList_load_row rfl 24 (.tmp 5) rfl (w.heap.size + 2) rfl 24 S (0, 0) _ V3.out Tryd.underlying24 rfl Z3.out ?_)
    | (go_at_call 16; refine (C2.out _).mono ?_; rintro r w5 ⟨rfl, hb5⟩; replace B3 := Lib.hid (Below.step B3.out hb5); replace X3 := Lib.hid (Blk.below X3.out hb5 X3.out.lt); replace Y3 := Lib.hid (Blk.below Y3.out hb5 Y3.out.lt); replace V3 := Lib.hid (Blk.below V3.out hb5 V3.out.lt); clear hb5 C2))
  go_upto_region 5 with (first
    | (refine wpList_load_row rfl 24 (.tmp 3) rfl w.heap.size rfl 24 P (0, 0) _ X3.out Tryd.underlying24 rfl Z1.out ?_)
    | (refine wpList_load_row rfl 24 (.tmp 4) rfl (w.heap.size + 1) rfl 24 R (0, 0) _ Y3.out Tryd.underlying24 rfl Z2.out ?_)
    | (go_at_call 16; refine (C3.out _).mono ?_; rintro r w6 ⟨rfl, hb5⟩; replace B3 := Lib.hid (Below.step B3.out hb5); replace X3 := Lib.hid (Blk.below X3.out hb5 X3.out.lt); replace Y3 := Lib.hid (Blk.below Y3.out hb5 Y3.out.lt); replace V3 := Lib.hid (Blk.below V3.out hb5 V3.out.lt); clear hb5 C3))
  obtain rfl := Hhx.out
  clear Hhx
  obtain rfl := Hhy.out
  clear Hhy
  obtain rfl := Hhz.out
  clear Hhz
  try obtain rfl := GO.out rfl rfl
  try obtain rfl := BO.out rfl rfl
  try have hc := decide_eq_true (AH.out rfl)
  clear GO BO AH
  go_wp2_with fail
  refine wp_region_ord Ext Ext.refl (fun _ _ _ => Ext.trans) ((0, false) :: (1, false) :: (2, false) :: (3, false) :: (5, false) :: (4, true) :: (6, true) :: (7, false) :: (8, false) :: (9, false) :: (10, false) :: (11, false) :: (12, false) :: (13, false) :: (14, false) :: (15, false) :: (16, false) :: (17, false) :: (18, false) :: (19, true) :: (20, false) :: (21, false) :: (22, false) :: (23, false) :: (24, false) :: (25, false) :: (26, false) :: (27, false) :: (28, false) :: (29, false) :: (30, false) :: (31, false) :: (32, false) :: (33, false) :: (34, false) :: (35, false) :: (36, false) :: (37, false) :: (38, false) :: (39, false) :: (40, false) :: (41, true) :: (42, false) :: (43, false) :: (44, false) :: (45, false) :: []) (by kernel_rfl) (by kernel_rfl) rfl (by kernel_rfl) (fun _ _ _ _ _ h => h) ?_
  have B4 : Hid (Below w.heap.size w w6.drew) := Lib.hid (Below.step B3.out (drewN_below w6 1))
  have X4 : Hid (Blk w6.drew w.heap.size 24 P) := Lib.hid (show Blk w6 w.heap.size 24 P from X3.out)
  have Y4 : Hid (Blk w6.drew (w.heap.size + 1) 24 R) := Lib.hid (show Blk w6 (w.heap.size + 1) 24 R from Y3.out)
  have V4 : Hid (Blk w6.drew (w.heap.size + 2) 24 S) := Lib.hid (show Blk w6 (w.heap.size + 2) 24 S from V3.out)
  clear B3 X3 Y3 V3
  generalize w6.drew = w7 at *
  repeat (first
    | (refine ord_skip rfl (by rfl) ?_; simp only [Act.put, List.setIfInBounds_toArray, List.set_cons_zero, List.set_cons_succ])
    | (refine ord_take _ rfl (by rfl) (fun W hW => yields_row 24 (.tmp 3) rfl w.heap.size 24 P _ rfl (Blk.below X4.out hW X4.out.lt) Tryd.underlying24 rfl Z1.out) ?_; simp only [Act.put, List.setIfInBounds_toArray, List.set_cons_zero, List.set_cons_succ])
    | (refine ord_take _ rfl (by rfl) (fun W hW => yields_row 24 (.tmp 4) rfl (w.heap.size + 1) 24 R _ rfl (Blk.below Y4.out hW Y4.out.lt) Tryd.underlying24 rfl Z2.out) ?_; simp only [Act.put, List.setIfInBounds_toArray, List.set_cons_zero, List.set_cons_succ])
    | (refine ord_take _ rfl (by rfl) (fun W hW => yields_row 24 (.tmp 5) rfl (w.heap.size + 2) 24 S _ rfl (Blk.below V4.out hW V4.out.lt) Tryd.underlying24 rfl Z3.out) ?_; simp only [Act.put, List.setIfInBounds_toArray, List.set_cons_zero, List.set_cons_succ])
    | (refine ord_take _ rfl (by rfl) (fun W hW => by go_simp; first | done | rfl) ?_; simp only [Act.put, List.setIfInBounds_toArray, List.set_cons_zero, List.set_cons_succ])
    | (refine ord_sole rfl (by rfl) (fun K1 hK1 => ?_)
       go_simp
       first
         | (refine (C5.out _).mono ?_; clear C5)
         | refine (C6.out _).mono ?_
         | refine (C7.out _).mono ?_
         | refine (C8.out _).mono ?_
       rintro r w8 ⟨rfl, hb8⟩
       refine hK1 _ _ hb8 ?_
       clear hK1 K1
       replace B4 := Lib.hid (Below.step B4.out hb8)
       replace X4 := Lib.hid (Blk.below X4.out hb8 X4.out.lt)
       replace Y4 := Lib.hid (Blk.below Y4.out hb8 Y4.out.lt)
       replace V4 := Lib.hid (Blk.below V4.out hb8 V4.out.lt)
       clear hb8))
  refine ord_end ?_
  go_wp2_with fail
  go_ret
  exact ⟨rfl, B4.out⟩

end Go.Proofs.YtpekpgmdjpcpiaaDoor

namespace Go.Proofs.YtpekpgmdjpcpiaaDoor
open Go.RowKit
set_option linter.unusedVariables false

set_option maxHeartbeats 4000000 in
set_option maxRecDepth 100000 in
theorem covers_walkTT (v : Bool) (A : List Int) (L : Int) (u : Bool) (B : List Int) (M : Int) (t : Bool) (C : List Int) (K : Int) (w : World) (ht : Std w) (hp : Sixteen A ∧ -9223372036854775808 ≤ L ∧ L ≤ 9223372036854775807) (hq : Sixteen B ∧ -9223372036854775808 ≤ M ∧ M ≤ 9223372036854775807) (hr : Sixteen C ∧ -9223372036854775808 ≤ K ∧ K ≤ 9223372036854775807) (hx : coversA v A L u B M = true) (hy : coversA u B M t C K = true) (hz : coversA u B M v A L = true) :
    Calls Tryd.prog 6 #[.agg (pcells v A L), .agg (pcells u B M), .agg (pcells t C K)] w fun e w' => e = .returned (.bool true) ∧ Below w.heap.size w w' := by
  obtain ⟨bx, by', bz, bw⟩ := three_boxes w v A L u B M t C K
  have BX := Lib.hid bx
  have BY := Lib.hid by'
  have BZ := Lib.hid bz
  have BW := Lib.hid bw
  have AW := Lib.hid (awake_any _ (ht.later bw))
  obtain ⟨hA, l0, l1⟩ := hp
  obtain ⟨hB, m0, m1⟩ := hq
  obtain ⟨hC, k0, k1⟩ := hr
  have C1 := Lib.hid (fun W => covers_any v A L u B M W hA l0 l1 hB m0 m1)
  have C2 := Lib.hid (fun W => covers_any u B M t C K W hB m0 m1 hC k0 k1)
  have C3 := Lib.hid (fun W => covers_any u B M v A L W hB m0 m1 hA l0 l1)
  have C5 := Lib.hid (fun W => covers_any v A L v A L W hA l0 l1 hA l0 l1)
  rw [covers_self] at C5
  have C6 := Lib.hid (fun W => right_any v A L W hA l0 l1)
  have C7 := Lib.hid (fun W => covers_any v A L t C K W hA l0 l1 hC k0 k1)
  have C8 := Lib.hid (fun W => pcmp_any v A L u B M W hA hB)
  have EQ := fun W => two_prefix v u A B L M hA.1 hB.1 W
  have GO := Lib.hid (fun h k => covers_goes (v := v) (u := u) (t := t) (A := A) (B := B) (C := C) (L := L) (M := M) (K := K) h k)
  have BO : Hid (coversA v A L u B M = true → coversA u B M v A L = true → decide (v = u ∧ A = B ∧ L = M) = true) := Lib.hid (fun h k => decide_eq_true (covers_both hA hB h k))
  have AH := Lib.hid (fun h => covers_ahead (v := v) (u := u) (A := A) (B := B) (L := L) (M := M) h)
  have Z1 := Lib.hid (Tryd.sizeP (v := v) (L := L) hA.1)
  have Z2 := Lib.hid (Tryd.sizeP (v := u) (L := M) hB.1)
  have Z3 := Lib.hid (Tryd.sizeP (v := t) (L := K) hC.1)
  have Hhx := Lib.hid hx
  have Hhy := Lib.hid hy
  have Hhz := Lib.hid hz
  clear bx by' bz bw ht hA hB hC hx hy hz
  go_enter Tryd.func6, Tryd.ntmps6
  generalize hw2 : ((w.alloc (.cells (pcells v A L) 24)).alloc (.cells (pcells u B M) 24)).alloc (.cells (pcells t C K) 24) = w2 at *
  generalize pcells v A L = P at *
  generalize pcells u B M = R at *
  generalize pcells t C K = S at *
  generalize coversA v A L u B M = x at *
  generalize coversA u B M t C K = y at *
  generalize coversA u B M v A L = z at *
  generalize coversA v A L t C K = g at *
  generalize cmpA v A L u B M = c at *
  generalize rightA v A L = k at *
  generalize decide (v = u ∧ A = B ∧ L = M) = q at *
  have hk : (k == k) = true := beq_self_eq_true k
  go_wp2_with fail
  refine AW.out.mono ?_
  rintro r w3 ⟨rfl, hb3⟩
  have B3 := Lib.hid (Below.step BW.out hb3)
  have X3 := Lib.hid (Blk.below BX.out hb3 BX.out.lt)
  have Y3 := Lib.hid (Blk.below BY.out hb3 BY.out.lt)
  have V3 := Lib.hid (Blk.below BZ.out hb3 BZ.out.lt)
  clear hb3 AW BW BX BY BZ hw2
  go_upto_region 3 with (first
    | (refine wpList_load_row rfl 24 (.tmp 3) rfl w.heap.size rfl 24 P (0, 0) _ X3.out Tryd.underlying24 rfl Z1.out ?_)
    | (refine wpList_load_row rfl 24 (.tmp 4) rfl (w.heap.size + 1) rfl 24 R (0, 0) _ Y3.out Tryd.underlying24 rfl Z2.out ?_)
    | (go_at_call 16; refine (C1.out _).mono ?_; rintro r w4 ⟨rfl, hb4⟩; replace B3 := Lib.hid (Below.step B3.out hb4); replace X3 := Lib.hid (Blk.below X3.out hb4 X3.out.lt); replace Y3 := Lib.hid (Blk.below Y3.out hb4 Y3.out.lt); replace V3 := Lib.hid (Blk.below V3.out hb4 V3.out.lt); clear hb4 C1))
  go_upto_region 4 with (first
    | (refine wpList_load_row rfl 24 (.tmp 4) rfl (w.heap.size + 1) rfl 24 R (0, 0) _ Y3.out Tryd.underlying24 rfl Z2.out ?_)
    | (refine wpList_load_row rfl 24 (.tmp 5) rfl (w.heap.size + 2) rfl 24 S (0, 0) _ V3.out Tryd.underlying24 rfl Z3.out ?_)
    | (go_at_call 16; refine (C2.out _).mono ?_; rintro r w5 ⟨rfl, hb5⟩; replace B3 := Lib.hid (Below.step B3.out hb5); replace X3 := Lib.hid (Blk.below X3.out hb5 X3.out.lt); replace Y3 := Lib.hid (Blk.below Y3.out hb5 Y3.out.lt); replace V3 := Lib.hid (Blk.below V3.out hb5 V3.out.lt); clear hb5 C2))
  go_upto_region 5 with (first
    | (refine wpList_load_row rfl 24 (.tmp 3) rfl w.heap.size rfl 24 P (0, 0) _ X3.out Tryd.underlying24 rfl Z1.out ?_)
    | (refine wpList_load_row rfl 24 (.tmp 4) rfl (w.heap.size + 1) rfl 24 R (0, 0) _ Y3.out Tryd.underlying24 rfl Z2.out ?_)
    | (go_at_call 16; refine (C3.out _).mono ?_; rintro r w6 ⟨rfl, hb5⟩; replace B3 := Lib.hid (Below.step B3.out hb5); replace X3 := Lib.hid (Blk.below X3.out hb5 X3.out.lt); replace Y3 := Lib.hid (Blk.below Y3.out hb5 Y3.out.lt); replace V3 := Lib.hid (Blk.below V3.out hb5 V3.out.lt); clear hb5 C3))
  obtain rfl := Hhx.out
  clear Hhx
  obtain rfl := Hhy.out
  clear Hhy
  obtain rfl := Hhz.out
  clear Hhz
  try obtain rfl := GO.out rfl rfl
  try obtain rfl := BO.out rfl rfl
  try have hc := decide_eq_true (AH.out rfl)
  clear GO BO AH
  go_wp2_with fail
  refine wp_region_ord Ext Ext.refl (fun _ _ _ => Ext.trans) ((0, false) :: (1, false) :: (2, false) :: (3, false) :: (5, false) :: (4, true) :: (6, true) :: (7, false) :: (8, false) :: (9, false) :: (10, false) :: (11, false) :: (12, false) :: (13, false) :: (14, false) :: (15, false) :: (16, false) :: (17, false) :: (18, false) :: (19, true) :: (20, false) :: (21, false) :: (22, false) :: (23, false) :: (24, false) :: (25, false) :: (26, false) :: (27, false) :: (28, false) :: (29, false) :: (30, false) :: (31, false) :: (32, false) :: (33, false) :: (34, false) :: (35, false) :: (36, false) :: (37, false) :: (38, false) :: (39, false) :: (40, false) :: (41, true) :: (42, false) :: (43, false) :: (44, false) :: (45, false) :: []) (by kernel_rfl) (by kernel_rfl) rfl (by kernel_rfl) (fun _ _ _ _ _ h => h) ?_
  have B4 : Hid (Below w.heap.size w w6.drew) := Lib.hid (Below.step B3.out (drewN_below w6 1))
  have X4 : Hid (Blk w6.drew w.heap.size 24 P) := Lib.hid (show Blk w6 w.heap.size 24 P from X3.out)
  have Y4 : Hid (Blk w6.drew (w.heap.size + 1) 24 R) := Lib.hid (show Blk w6 (w.heap.size + 1) 24 R from Y3.out)
  have V4 : Hid (Blk w6.drew (w.heap.size + 2) 24 S) := Lib.hid (show Blk w6 (w.heap.size + 2) 24 S from V3.out)
  clear B3 X3 Y3 V3
  generalize w6.drew = w7 at *
  repeat (first
    | (refine ord_skip rfl (by rfl) ?_; simp only [Act.put, List.setIfInBounds_toArray, List.set_cons_zero, List.set_cons_succ])
    | (refine ord_take _ rfl (by rfl) (fun W hW => yields_row 24 (.tmp 3) rfl w.heap.size 24 P _ rfl (Blk.below X4.out hW X4.out.lt) Tryd.underlying24 rfl Z1.out) ?_; simp only [Act.put, List.setIfInBounds_toArray, List.set_cons_zero, List.set_cons_succ])
    | (refine ord_take _ rfl (by rfl) (fun W hW => yields_row 24 (.tmp 4) rfl (w.heap.size + 1) 24 R _ rfl (Blk.below Y4.out hW Y4.out.lt) Tryd.underlying24 rfl Z2.out) ?_; simp only [Act.put, List.setIfInBounds_toArray, List.set_cons_zero, List.set_cons_succ])
    | (refine ord_take _ rfl (by rfl) (fun W hW => yields_row 24 (.tmp 5) rfl (w.heap.size + 2) 24 S _ rfl (Blk.below V4.out hW V4.out.lt) Tryd.underlying24 rfl Z3.out) ?_; simp only [Act.put, List.setIfInBounds_toArray, List.set_cons_zero, List.set_cons_succ])
    | (refine ord_take _ rfl (by rfl) (fun W hW => by go_simp; first | done | rfl) ?_; simp only [Act.put, List.setIfInBounds_toArray, List.set_cons_zero, List.set_cons_succ])
    | (refine ord_sole rfl (by rfl) (fun K1 hK1 => ?_)
       go_simp
       first
         | (refine (C5.out _).mono ?_; clear C5)
         | refine (C6.out _).mono ?_
         | refine (C7.out _).mono ?_
         | refine (C8.out _).mono ?_
       rintro r w8 ⟨rfl, hb8⟩
       refine hK1 _ _ hb8 ?_
       clear hK1 K1
       replace B4 := Lib.hid (Below.step B4.out hb8)
       replace X4 := Lib.hid (Blk.below X4.out hb8 X4.out.lt)
       replace Y4 := Lib.hid (Blk.below Y4.out hb8 Y4.out.lt)
       replace V4 := Lib.hid (Blk.below V4.out hb8 V4.out.lt)
       clear hb8))
  refine ord_end ?_
  go_wp2_with fail
  go_ret
  exact ⟨rfl, B4.out⟩

end Go.Proofs.YtpekpgmdjpcpiaaDoor

namespace Go.Proofs.YtpekpgmdjpcpiaaDoor
open Go.RowKit
set_option linter.unusedVariables false

theorem covers_walk (v : Bool) (A : List Int) (L : Int) (u : Bool) (B : List Int) (M : Int) (t : Bool) (C : List Int) (K : Int) (w : World) (ht : Std w) (hp : Sixteen A ∧ -9223372036854775808 ≤ L ∧ L ≤ 9223372036854775807) (hq : Sixteen B ∧ -9223372036854775808 ≤ M ∧ M ≤ 9223372036854775807) (hr : Sixteen C ∧ -9223372036854775808 ≤ K ∧ K ≤ 9223372036854775807) :
    Calls Tryd.prog 6 #[.agg (pcells v A L), .agg (pcells u B M), .agg (pcells t C K)] w fun e w' => e = .returned (.bool true) ∧ Below w.heap.size w w' := by
  cases hx : coversA v A L u B M
  · exact covers_walkF v A L u B M t C K w ht hp hq hr hx
  · cases hy : coversA u B M t C K
    · cases hz : coversA u B M v A L
      · exact covers_walkFF v A L u B M t C K w ht hp hq hr hx hy hz
      · exact covers_walkFT v A L u B M t C K w ht hp hq hr hx hy hz
    · cases hz : coversA u B M v A L
      · exact covers_walkTF v A L u B M t C K w ht hp hq hr hx hy hz
      · exact covers_walkTT v A L u B M t C K w ht hp hq hr hx hy hz

end Go.Proofs.YtpekpgmdjpcpiaaDoor
