/-
  Merged texts: AgD.
-/
import Derived.Test.YtpekpgmdjpcpiaaDoorGrH
namespace Go.Proofs.YtpekpgmdjpcpiaaDoor
open Go.RowKit
set_option linter.unusedVariables false

set_option maxHeartbeats 4000000 in
set_option maxRecDepth 100000 in
theorem cuts_walk (v : Bool) (A : List Int) (L : Int) (n : Int) (w : World) (ht : Std w) (hp : Sixteen A ∧ -9223372036854775808 ≤ L ∧ L ≤ 9223372036854775807) (n0 : -9223372036854775808 ≤ n) (n1 : n ≤ 9223372036854775807) :
    Calls Tryd.prog 7 #[.agg (pcells v A L), .int .i64 n] w fun e w' => e = .returned (.bool true) ∧ Below w.heap.size w w' := by
  have BX : Hid (Blk _ _ 24 (pcells v A L)) := Lib.hid (pbox w v A L)
  have BW := Lib.hid (box_below w (.cells (pcells v A L) 24))
  have AW := Lib.hid (awake_any _ (ht.later BW.out))
  obtain ⟨hA, l0, l1⟩ := hp
  have hC := cutA_ok v A L
  have hD := cutA_ok v (cutA v A L) n
  have bc := cutL_ok v L
  have bd := cutL_ok v n
  have ML := most_le v
  have C1 := Lib.hid (fun W => cut_any v A L W hA l0 l1)
  have C2 := Lib.hid (fun W => cut_any v (cutA v A L) n W hC n0 n1)
  have C3 := Lib.hid (fun W => right_any v (cutA v A L) (cutL v L) W hC (by omega) (by omega))
  rw [cut_right v hA L] at C3
  have C4 := Lib.hid (fun W => right_any v (cutA v (cutA v A L) n) (cutL v n) W hD (by omega) (by omega))
  rw [cut_right v hC n] at C4
  have C5 := Lib.hid (fun W => cut_any v (cutA v A L) (cutL v L) W hC (by omega) (by omega))
  rw [(cut_twice v hA L).1, (cut_twice v hA L).2] at C5
  have C6 := Lib.hid (fun W => covers_any v (cutA v (cutA v A L) n) (cutL v n) v (cutA v A L) (cutL v L) W hD (by omega) (by omega) hC (by omega) (by omega))
  have C7 := Lib.hid (fun W => right_any v A L W hA l0 l1)
  have EQ1 := fun W => two_prefix v v (cutA v A L) (cutA v A L) (cutL v L) (cutL v L) hC.1 hC.1 W
  rw [decide_eq_true ⟨rfl, rfl, rfl⟩] at EQ1
  have EQ2 := fun W => two_prefix v v (cutA v A L) A (cutL v L) L hC.1 hA.1 W
  have CO := Lib.hid (fun h => cut_covers (v := v) (L := cutL v L) (n := n) hC (cut_right v hA L) h)
  have SA : Hid (rightA v A L = true → decide (v = v ∧ cutA v A L = A ∧ cutL v L = L) = true) := Lib.hid (fun h => decide_eq_true ⟨rfl, (cut_same hA h).2, (cut_same hA h).1⟩)
  have Z1 := Lib.hid (Tryd.sizeP (v := v) (L := L) hA.1)
  have Z2 := Lib.hid (Tryd.sizeP (v := v) (L := cutL v L) hC.1)
  have Z3 := Lib.hid (Tryd.sizeP (v := v) (L := n) hC.1)
  have Z4 := Lib.hid (Tryd.sizeP (v := v) (L := cutL v n) hD.1)
  have P2 := Lib.hid (pcells_one v (cutA v A L) (cutL v L))
  have P4 := Lib.hid (pcells_one v (cutA v (cutA v A L) n) (cutL v n))
  have E2 : Hid (ZP.size = (pcells v (cutA v A L) (cutL v L)).size) := Lib.hid (by rw [pcells_size hC.1]; rfl)
  have E4 : Hid (ZP.size = (pcells v (cutA v (cutA v A L) n) (cutL v n)).size) := Lib.hid (by rw [pcells_size hD.1]; rfl)
  have L2 := Lib.hid (pcells_l (v := v) (L := cutL v L) hC.1)
  have L4 := Lib.hid (pcells_l (v := v) (L := cutL v n) hD.1)
  have ST : Hid ((pcells v (cutA v A L) (cutL v L)).setIfInBounds 17 (.int .i64 n) = pcells v (cutA v A L) n) := Lib.hid (pcells_setL hC.1)
  clear ht hA hC hD
  go_enter Tryd.func7, Tryd.ntmps7
  generalize hw2 : (w.alloc (.cells (pcells v A L) 24)) = w2 at *
  generalize pcells v A L = P at *
  generalize pcells v (cutA v A L) (cutL v L) = D at *
  generalize pcells v (cutA v A L) n = S at *
  generalize pcells v (cutA v (cutA v A L) n) (cutL v n) = E at *
  generalize coversA v (cutA v (cutA v A L) n) (cutL v n) v (cutA v A L) (cutL v L) = x at *
  generalize rightA v A L = k at *
  generalize decide (v = v ∧ cutA v A L = A ∧ cutL v L = L) = q at *
  generalize cutL v L = lc at *
  generalize cutL v n = ld at *
  clear bc bd ML
  go_wp2_with fail
  refine AW.out.mono ?_
  rintro r w3 ⟨rfl, hb3⟩
  have B3 := Lib.hid (Below.step BW.out hb3)
  have X3 := Lib.hid (Blk.below BX.out hb3 BX.out.lt)
  clear hb3 AW BW BX hw2
  go_upto_region 3 with (first
    | (refine wpList_load_row rfl 24 (.tmp 2) rfl w.heap.size rfl 24 P (0, 0) _ X3.out Tryd.underlying24 rfl Z1.out ?_)
    | (go_at_call 20; refine (C1.out _).mono ?_; rintro r w4 ⟨rfl, hb4⟩; have B4 := Lib.hid (Below.step B3.out hb4); have X4 := Lib.hid (Blk.below X3.out hb4 X3.out.lt); have S4 := Lib.hid (Blk.new w4 24 ZP); clear hb4 C1)
    | (refine Great.wpList_allocTo rfl (some 6) rfl (.pointer (some ⟨w4.heap.size, 0, none⟩)) (.cells ZP 24) rfl ?_)
    | (refine wpList_store_rowTo rfl 24 (.tmp 6) (.tmp 11) rfl rfl w4.heap.size D rfl rfl 24 ZP S4.out Z2.out E2.out P2.out ?_))
  try simp only [Act.put, List.setIfInBounds_toArray, List.set_cons_zero, List.set_cons_succ]
  have D5 : Hid (Blk ((w4.alloc (.cells ZP 24)).setRow w4.heap.size D) w4.heap.size 24 D) := Lib.hid (setRow_heap _ _ _ _ _ _ S4.out)
  have b5 : Below w4.heap.size w4 ((w4.alloc (.cells ZP 24)).setRow w4.heap.size D) := below_setRow (box_below w4 (.cells ZP 24)) (Nat.le_refl _) _
  have B5 := Lib.hid (Below.step B4.out b5)
  have X5 := Lib.hid (Blk.below X4.out b5 X4.out.lt)
  clear b5 B3 X3 B4 X4 S4
  generalize (w4.alloc (.cells ZP 24)).setRow w4.heap.size D = w5 at *
  generalize w4.heap.size = g5 at *
  have S5 := Lib.hid (Blk.new w5 24 ZP)
  go_upto_region 4 with (first
    | (refine wpList_load_row rfl 24 (.tmp 6) rfl g5 rfl 24 D (0, 0) _ D5.out Tryd.underlying24 rfl Z2.out ?_)
    | (refine Great.wpList_allocTo rfl (some 7) rfl (.pointer (some ⟨w5.heap.size, 0, none⟩)) (.cells ZP 24) rfl ?_)
    | (refine wpList_store_rowTo rfl 24 (.tmp 7) (.tmp 12) rfl rfl w5.heap.size D rfl rfl 24 ZP S5.out Z2.out E2.out P2.out ?_))
  try simp only [Act.put, List.setIfInBounds_toArray, List.set_cons_zero, List.set_cons_succ]
  have F6 : Hid (Blk ((w5.alloc (.cells ZP 24)).setRow w5.heap.size D) w5.heap.size 24 D) := Lib.hid (setRow_heap _ _ _ _ _ _ S5.out)
  have b6 : Below w5.heap.size w5 ((w5.alloc (.cells ZP 24)).setRow w5.heap.size D) := below_setRow (box_below w5 (.cells ZP 24)) (Nat.le_refl _) _
  have B6 := Lib.hid (Below.step B5.out b6)
  have X6 := Lib.hid (Blk.below X5.out b6 X5.out.lt)
  have D6 := Lib.hid (Blk.below D5.out b6 D5.out.lt)
  have H56 : Hid (g5 < w5.heap.size ∧ w.heap.size < w5.heap.size) := Lib.hid ⟨D5.out.lt, X5.out.lt⟩
  clear b6 B5 X5 D5 S5
  generalize (w5.alloc (.cells ZP 24)).setRow w5.heap.size D = w6 at *
  generalize w5.heap.size = g6 at *
  have cl := (Blk.cell F6.out 17).trans L2.out
  have fl := Blk.free F6.out 17
  have B7 : Hid (Below w.heap.size w (w6.setCell ⟨g6, 17, none⟩ (.int .i64 n))) := Lib.hid (Below.setCell B6.out (p := ⟨g6, 17, none⟩) (Nat.le_of_lt H56.out.2) _)
  have X7 : Hid (Blk (w6.setCell ⟨g6, 17, none⟩ (.int .i64 n)) w.heap.size 24 P) := Lib.hid (Blk.far X6.out (Nat.ne_of_lt H56.out.2) 17 _)
  have D7 : Hid (Blk (w6.setCell ⟨g6, 17, none⟩ (.int .i64 n)) g5 24 D) := Lib.hid (Blk.far D6.out (Nat.ne_of_lt H56.out.1) 17 _)
  have F7 : Hid (Blk (w6.setCell ⟨g6, 17, none⟩ (.int .i64 n)) g6 24 S) := Lib.hid (by have h := Blk.set F6.out 17 (.int .i64 n); rwa [ST.out] at h)
  go_upto_region 5 with fail
  clear cl fl B6 X6 D6 F6 H56 ST
  generalize w6.setCell ⟨g6, 17, none⟩ (.int .i64 n) = w7 at *
  go_upto_region 6 with (first
    | (refine wpList_load_row rfl 24 (.tmp 7) rfl g6 rfl 24 S (0, 0) _ F7.out Tryd.underlying24 rfl Z3.out ?_)
    | (go_at_call 20; refine (C2.out _).mono ?_; rintro r w8 ⟨rfl, hb8⟩; have B8 := Lib.hid (Below.step B7.out hb8); have X8 := Lib.hid (Blk.below X7.out hb8 X7.out.lt); have D8 := Lib.hid (Blk.below D7.out hb8 D7.out.lt); have S8 := Lib.hid (Blk.new w8 24 ZP); clear hb8 C2)
    | (refine Great.wpList_allocTo rfl (some 8) rfl (.pointer (some ⟨w8.heap.size, 0, none⟩)) (.cells ZP 24) rfl ?_)
    | (refine wpList_store_rowTo rfl 24 (.tmp 8) (.tmp 16) rfl rfl w8.heap.size E rfl rfl 24 ZP S8.out Z4.out E4.out P4.out ?_))
  try simp only [Act.put, List.setIfInBounds_toArray, List.set_cons_zero, List.set_cons_succ]
  have E9 : Hid (Blk ((w8.alloc (.cells ZP 24)).setRow w8.heap.size E) w8.heap.size 24 E) := Lib.hid (setRow_heap _ _ _ _ _ _ S8.out)
  have b9 : Below w8.heap.size w8 ((w8.alloc (.cells ZP 24)).setRow w8.heap.size E) := below_setRow (box_below w8 (.cells ZP 24)) (Nat.le_refl _) _
  have B9 := Lib.hid (Below.step B8.out b9)
  have X9 := Lib.hid (Blk.below X8.out b9 X8.out.lt)
  have D9 := Lib.hid (Blk.below D8.out b9 D8.out.lt)
  clear b9 B7 X7 D7 F7 B8 X8 D8 S8
  generalize (w8.alloc (.cells ZP 24)).setRow w8.heap.size E = w9 at *
  generalize w8.heap.size = g8 at *
  by_cases hd : lc < ld
  all_goals
    first
      | have td : decide (lc < ld) = true := decide_eq_true hd
      | (have td : decide (lc < ld) = false := decide_eq_false hd
         obtain rfl := CO.out (by omega))
    cases k
  all_goals
    try obtain rfl := SA.out rfl
    clear CO SA
    go_wp2_with fail
    refine wp_region_ord Ext Ext.refl (fun _ _ _ => Ext.trans) ((0, false) :: (1, false) :: (2, false) :: (3, true) :: (4, false) :: (5, false) :: (6, false) :: (7, true) :: (8, false) :: (9, false) :: (10, false) :: (12, false) :: (11, true) :: (13, false) :: (14, false) :: (15, false) :: (16, false) :: (17, false) :: (18, false) :: (19, false) :: (20, false) :: (21, false) :: (22, false) :: (23, false) :: (24, true) :: (25, false) :: (26, false) :: (27, false) :: (28, false) :: (29, true) :: (30, false) :: (31, false) :: (32, false) :: (33, false) :: (34, false) :: (35, false) :: (36, false) :: (37, false) :: []) (by kernel_rfl) (by kernel_rfl) rfl (by kernel_rfl) (fun _ _ _ _ _ h => h) ?_
    have B4 : Hid (Below w.heap.size w w9.drew) := Lib.hid (Below.step B9.out (drewN_below w9 1))
    have X4 : Hid (Blk w9.drew w.heap.size 24 P) := Lib.hid (show Blk w9 w.heap.size 24 P from X9.out)
    have D4 : Hid (Blk w9.drew g5 24 D) := Lib.hid (show Blk w9 g5 24 D from D9.out)
    have G4 : Hid (Blk w9.drew g8 24 E) := Lib.hid (show Blk w9 g8 24 E from E9.out)
    clear B9 X9 D9 E9
    generalize w9.drew = wa at *
    repeat (first
      | (refine ord_skip rfl (by rfl) ?_; simp only [Act.put, List.setIfInBounds_toArray, List.set_cons_zero, List.set_cons_succ])
      | (refine ord_take _ rfl (by rfl) (fun W hW => yields_row 24 (.tmp 2) rfl w.heap.size 24 P _ rfl (Blk.below X4.out hW X4.out.lt) Tryd.underlying24 rfl Z1.out) ?_; simp only [Act.put, List.setIfInBounds_toArray, List.set_cons_zero, List.set_cons_succ])
      | (refine ord_take _ rfl (by rfl) (fun W hW => yields_row 24 (.tmp 6) rfl g5 24 D _ rfl (Blk.below D4.out hW D4.out.lt) Tryd.underlying24 rfl Z2.out) ?_; simp only [Act.put, List.setIfInBounds_toArray, List.set_cons_zero, List.set_cons_succ])
      | (refine ord_take _ rfl (by rfl) (fun W hW => yields_row 24 (.tmp 8) rfl g8 24 E _ rfl (Blk.below G4.out hW G4.out.lt) Tryd.underlying24 rfl Z4.out) ?_; simp only [Act.put, List.setIfInBounds_toArray, List.set_cons_zero, List.set_cons_succ])
      | (refine ord_take _ rfl (by rfl) (fun W hW => by
          have c2 := (Blk.cell (Blk.below D4.out hW D4.out.lt) 17).trans L2.out
          have c4 := (Blk.cell (Blk.below G4.out hW G4.out.lt) 17).trans L4.out
          go_simp; first | done | rfl) ?_; simp only [Act.put, List.setIfInBounds_toArray, List.set_cons_zero, List.set_cons_succ])
      | (refine ord_sole rfl (by rfl) (fun K1 hK1 => ?_)
         go_simp
         first
           | refine (C3.out _).mono ?_
           | refine (C4.out _).mono ?_
           | refine (C5.out _).mono ?_
           | refine (C6.out _).mono ?_
           | refine (C7.out _).mono ?_
         rintro r wb ⟨rfl, hbb⟩
         refine hK1 _ _ hbb ?_
         clear hK1 K1
         replace B4 := Lib.hid (Below.step B4.out hbb)
         replace X4 := Lib.hid (Blk.below X4.out hbb X4.out.lt)
         replace D4 := Lib.hid (Blk.below D4.out hbb D4.out.lt)
         replace G4 := Lib.hid (Blk.below G4.out hbb G4.out.lt)
         clear hbb))
    refine ord_end ?_
    go_wp2_with fail
    go_ret
    exact ⟨rfl, B4.out⟩

end Go.Proofs.YtpekpgmdjpcpiaaDoor
