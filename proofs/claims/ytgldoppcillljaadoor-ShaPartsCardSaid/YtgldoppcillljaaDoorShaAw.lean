/-
  What awake answers, for stage 6 (sha).
-/
import Derived.Test.YtgldoppcillljaaDoorShaN
import Derived.Lib.SlBytesConst
namespace Go.Proofs.YtgldoppcillljaaDoor
open Go.RowKit
set_option linter.unusedVariables false

/-- A load of a whole block yields it in every world in which the block is that. -/
theorem yields_row {P : Program} {o : Oper} {a : Act} {W : World} (ty : TypeId) (x : Operand) (ho : o.op = .load ty x) (g : Nat) (t : TypeId) (cs : Array Value) (d : TypeDesc) (hx : a.eval x = .pointer (some ⟨g, 0, none⟩)) (hg : Blk W g t cs)
    (hu : P.underlying ty = some d) (hd : (match d with | .struct _ | .array _ _ => true | _ => false) = true) (hi : (P.info? ty).map (·.size) = some cs.size) : (execOp a.eval o).run P W = .ok (.value (.agg cs)) W := by
  unfold execOp
  simp only [ho, hx, Instr.loadAt, Instr.sureAddr, Sem.run_bind, Sem.run_pure, Result.andThen_ok, run_loadVar_row W g t ty cs (0, 0) d hg hu hd hi]

/-- A world goes on from another one but for what is newer than B. -/
def ExtB (B : Nat) (a b : World) : Prop := Below B a b
theorem ExtB.refl (B : Nat) (w : World) : ExtB B w w := Below.refl _ _
theorem ExtB.trans {B : Nat} (a b c : World) (h : ExtB B a b) (k : ExtB B b c) : ExtB B a c := Below.trans h k
theorem ExtB.both {B : Nat} {a b : World} (h : Below B a b) : ExtB B a.drew b.drew := ⟨h.os, h.tape, h.output, h.size, h.block⟩
theorem alloc_both (w : World) (o o' : Obj) : Below w.heap.size (w.alloc o) (w.alloc o') := ⟨rfl, rfl, rfl, by simp, fun g hg => (Below.heap_alloc w o' g hg).trans (Below.heap_alloc w o g hg).symm⟩
theorem cell_laterB {wr : World} {b o : Nat} {v : Value} (h : wr.cell? ⟨b, o, none⟩ = some v) : ∀ W, ExtB wr.heap.size wr.drew W → W.cell? ⟨b, o, none⟩ = some v := by
  intro W hW
  have hb : b < wr.heap.size := by
    rcases Nat.lt_or_ge b wr.heap.size with h' | h'
    · exact h'
    · simp [World.cell?, Array.getElem?_eq_none h'] at h
  exact (Below.cell hW (p := ⟨b, o, none⟩) hb).trans h
set_option maxHeartbeats 1000000 in
set_option maxRecDepth 100000 in
theorem awake_any (w : World) (ht : Tab w) : Calls Tryd.prog 7 #[] w fun e w' => e = .returned (.bool true) ∧ Below w.heap.size w w' := by
  have h2 := ht.1
  have TA := Lib.hid ht
  have CN := Lib.hid (new_any w ht)
  clear ht
  have kb := fun (w : World) (C : Array Value) (n c : Nat) => Lib.run_convert_bytes_const (P := Tryd.prog) w 22 5 C n c Tryd.underlying22 Tryd.underlying5
  go_enter Tryd.func7, Tryd.ntmps7
  go_wp2_with fail
  refine CN.out.mono ?_
  rintro e w1 ⟨rfl, hw1⟩
  have B1 : Hid (Below w.heap.size w w1) := by rw [hw1]; exact Lib.hid ((Below.refl _ _).alloc (Nat.le_refl _) _)
  have H1 : Hid (Holds w1 w.heap.size []) := by rw [hw1]; exact Lib.hid (new_holds w)
  clear hw1 CN
  go_wp2_with fail
  -- 'a'
  have R2 : Hid (Row (w1.alloc (.cells #[.int .u8 97] 5 (1, 2))) (some ⟨w1.heap.size, 0, none⟩) 1 [97]) := Lib.hid (row_const w1 [97] (1, 2) (by intro y hy; simp at hy; omega))
  have B2 : Hid (Below w1.heap.size w1 (w1.alloc (.cells #[.int .u8 97] 5 (1, 2)))) := Lib.hid ((Below.refl _ _).alloc (Nat.le_refl _) _)
  have lt1 := H1.out.lt
  generalize w1.alloc (.cells #[.int .u8 97] 5 (1, 2)) = w2 at *
  have BW2 := Lib.hid (Below.step B1.out B2.out)
  refine (write_any w.heap.size [] (some ⟨w1.heap.size, 0, none⟩) 1 1 [97] w2 (H1.out.below B2.out) h2 ⟨R2.out, fun _ => ⟨w1.heap.size, 0, rfl, by omega⟩⟩ (Nat.le_refl _) (TA.out.below BW2.out) (by simp)).mono ?_
  rintro e w3 ⟨rfl, hh3, hg3⟩
  rw [List.nil_append] at hh3
  have H3 := Lib.hid hh3
  have B3 := Lib.hid (BW2.out.grown hg3 BW2.out.size (fun k e => by simp at e; omega))
  clear hh3 hg3 H1 R2 B2 BW2 B1
  go_wp2_with fail
  have R4 : Hid (Row (w3.alloc (.cells #[.int .u8 98, .int .u8 99] 5 (2, 3))) (some ⟨w3.heap.size, 0, none⟩) 2 [98, 99]) := Lib.hid (row_const w3 [98, 99] (2, 3) (by intro y hy; simp at hy; omega))
  have B4 : Hid (Below w3.heap.size w3 (w3.alloc (.cells #[.int .u8 98, .int .u8 99] 5 (2, 3)))) := Lib.hid ((Below.refl _ _).alloc (Nat.le_refl _) _)
  have lt3 := H3.out.lt
  generalize w3.alloc (.cells #[.int .u8 98, .int .u8 99] 5 (2, 3)) = w4 at *
  have BW4 := Lib.hid (Below.step B3.out B4.out)
  refine (write_any w.heap.size [97] (some ⟨w3.heap.size, 0, none⟩) 2 2 [98, 99] w4 (H3.out.below B4.out) h2 ⟨R4.out, fun _ => ⟨w3.heap.size, 0, rfl, by omega⟩⟩ (Nat.le_refl _) (TA.out.below BW4.out) (by simp)).mono ?_
  rintro e w5 ⟨rfl, hh5, hg5⟩
  have H5 : Hid (Holds w5 w.heap.size [97, 98, 99]) := Lib.hid hh5
  have B5 := Lib.hid (BW4.out.grown hg5 BW4.out.size (fun k e => by simp at e; omega))
  clear hh5 hg5 H3 R4 B4 BW4 B3
  go_wp2_with fail
  refine (sum_any w.heap.size [97, 98, 99] w5 H5.out (TA.out.below B5.out) (by simp)).mono ?_
  rintro e w6 ⟨rfl, hb6⟩
  have HA : Hid (hashZ [97, 98, 99] = [0xba, 0x78, 0x16, 0xbf, 0x8f, 0x01, 0xcf, 0xea, 0x41, 0x41, 0x40, 0xde, 0x5d, 0xae, 0x22, 0x23, 0xb0, 0x03, 0x61, 0xa3, 0x96, 0x17, 0x7a, 0x9c, 0xb4, 0x10, 0xff, 0x61, 0xf2, 0x00, 0x15, 0xad]) := Lib.hid hash_abc
  have L32 : (hashZ [97, 98, 99]).length ≤ 32 := by rw [hash_len]; omega
  have CO := Lib.hid (fun a W (hr : Row W a 3 [97, 98, 99]) (ht : Tab W) => of_any a 3 3 [97, 98, 99] W hr (Nat.le_refl _) (by omega) ht)
  generalize hashZ [97, 98, 99] = hz at *
  have S6 := Lib.hid (Blk.new w6 24 Z32)
  have B6 := Lib.hid (Below.step B5.out hb6)
  have B7 := Lib.hid (below_setRow (B6.out.alloc B6.out.size (.cells Z32 24)) B6.out.size (bcells hz))
  have K7 : Hid (Blk ((w6.alloc (.cells Z32 24)).setRow w6.heap.size (bcells hz)) w6.heap.size 24 (bcells hz)) := Lib.hid (setRow_heap _ _ _ _ _ _ S6.out)
  clear hb6 H5 B5 B6
  go_wp2_with (first
    | (refine Great.wpList_allocTo rfl (some 2) rfl (.pointer (some ⟨w6.heap.size, 0, none⟩)) (.cells Z32 24) rfl ?_)
    | (refine wpList_store_rowTo rfl 24 (.tmp 2) (.tmp 15) rfl rfl w6.heap.size (bcells hz) rfl rfl 24 Z32 S6.out (Tryd.size24 hz L32) (by rw [bcells_size hz L32]; rfl) (bcells_one hz) ?_))
  generalize (w6.alloc (.cells Z32 24)).setRow w6.heap.size (bcells hz) = w7 at *
  generalize w6.heap.size = S at *
  clear S6
  have c0 : w7.cell? ⟨S, 0, none⟩ = some (.int .u8 186) := (K7.out.cell 0).trans (by rw [HA.out]; rfl)
  have c31 : w7.cell? ⟨S, 31, none⟩ = some (.int .u8 173) := (K7.out.cell 31).trans (by rw [HA.out]; rfl)
  have m0 := cell_laterB c0
  have m31 := cell_laterB c31
  have hS := K7.out.lt
  have kd : (convert 22 22 (.slice (some ⟨w7.heap.size, 0, none⟩) 3 3)).run Tryd.prog (w7.alloc (.cells #[.int .u8 97, .int .u8 98, .int .u8 99] 5)).drew = .ok (.slice (some ⟨w7.heap.size, 0, none⟩) 3 3) (w7.alloc (.cells #[.int .u8 97, .int .u8 98, .int .u8 99] 5 (3, 4))).drew :=
    Lib.run_convert_bytes_const (P := Tryd.prog) w7.drew 22 5 #[.int .u8 97, .int .u8 98, .int .u8 99] 3 3 Tryd.underlying22 Tryd.underlying5
  have EQ : ∀ W : World, (Op.equalIn 10000 24 (.agg (bcells hz)) (.agg (bcells hz))).run Tryd.prog W = .ok true W := fun W => same_hash hz W
  refine wp_region_ord (ExtB w7.heap.size) (ExtB.refl _) ExtB.trans ((0, false) :: (1, true) :: (2, true) :: (3, true) :: (4, false) :: (5, false) :: (6, false) :: (7, false) :: (8, false) :: (9, false) :: (10, false) :: (11, false) :: (12, false) :: (13, false) :: (14, false) :: (15, false) :: []) (by kernel_rfl) (by kernel_rfl) rfl (by kernel_rfl) (fun _ _ _ _ _ h => h) ?_
  refine ord_take (.agg (bcells hz)) rfl (by rfl) (fun W hW => yields_row 24 (.tmp 2) rfl S 24 (bcells hz) (.array 32 5) rfl (K7.out.below (show Below w7.heap.size w7 W from ⟨hW.os, hW.tape, hW.output, hW.size, hW.block⟩) hS) Tryd.underlying24 rfl (Tryd.size24 hz L32)) ?_
  simp only [Act.put, List.setIfInBounds_toArray, List.set_cons_zero, List.set_cons_succ]
  refine ord_sole rfl (by rfl) (fun K1 hK1 => ?_)
  go_simp
  refine hK1 _ _ (ExtB.both ((Below.refl _ _).alloc (Nat.le_refl _) _)) ?_
  clear hK1 K1
  refine ord_sole rfl (by rfl) (fun K1 hK1 => ?_)
  go_simp
  refine hK1 _ _ (ExtB.both (alloc_both _ _ _)) ?_
  clear hK1 K1 kd kb
  have R8 : Hid (Row (w7.alloc (.cells #[.int .u8 97, .int .u8 98, .int .u8 99] 5 (3, 4))).drew (some ⟨w7.heap.size, 0, none⟩) 3 [97, 98, 99]) := Lib.hid ((row_const w7 [97, 98, 99] (3, 4) (by intro y hy; simp at hy; omega)).drewN 1)
  have B8 : Hid (Below w7.heap.size w7 (w7.alloc (.cells #[.int .u8 97, .int .u8 98, .int .u8 99] 5 (3, 4))).drew) := Lib.hid (((Below.refl _ _).alloc (Nat.le_refl _) _).drew)
  generalize (w7.alloc (.cells #[.int .u8 97, .int .u8 98, .int .u8 99] 5 (3, 4))).drew = w8 at *
  refine ord_sole rfl (by rfl) (fun K1 hK1 => ?_)
  go_simp
  refine (CO.out (some ⟨w7.heap.size, 0, none⟩) w8 R8.out (TA.out.below (Below.step B7.out B8.out))).mono ?_
  rintro e w9 ⟨rfl, hb9⟩
  refine hK1 _ _ (hb9.mono B8.out.size) ?_
  have B9 := Lib.hid (Below.step B7.out (Below.step B8.out hb9))
  have c0' : ∀ W, ExtB w7.heap.size w9 W → W.cell? ⟨S, 0, none⟩ = some (.int .u8 186) := fun W hW => (Below.cell hW (p := ⟨S, 0, none⟩) hS).trans (((Below.step B8.out hb9).cell (p := ⟨S, 0, none⟩) hS).trans c0)
  have c31' : ∀ W, ExtB w7.heap.size w9 W → W.cell? ⟨S, 31, none⟩ = some (.int .u8 173) := fun W hW => (Below.cell hW (p := ⟨S, 31, none⟩) hS).trans (((Below.step B8.out hb9).cell (p := ⟨S, 31, none⟩) hS).trans c31)
  clear hK1 K1 hb9 m0 m31 R8 B8 CO
  repeat (refine ord_take _ rfl (by rfl) (fun W hW => by go_simp; first | done | rfl) ?_; simp only [Act.put, List.setIfInBounds_toArray, List.set_cons_zero, List.set_cons_succ])
  trace_state
  refine ord_end ?_
  go_wp2_with fail
  go_ret
  exact ⟨rfl, B9.out⟩

end Go.Proofs.YtgldoppcillljaaDoor
