/-
  Hashes compared; what both Name's answer, for stage 6 (sha).
-/
import Derived.Test.YtgldoppcillljaaDoorShaOf
import Derived.Test.YtgldoppcillljaaDoorShaRf
import Derived.Test.YtgldoppcillljaaDoorHexC
import Derived.Test.YtgldoppcillljaaDoorRhexC
import Derived.ChangeKeysEq
namespace Go.Proofs.YtgldoppcillljaaDoor
open Go.RowKit
set_option linter.unusedVariables false

theorem Tryd.info5s : (Tryd.prog.info? 5).isSome = true := by kernel_rfl
theorem Tryd.cells5 : Tryd.prog.cellsOf 5 = 1 := by kernel_rfl
theorem part5 (xs : Array Value) (j : Nat) (v : Int) (h : xs[j]? = some (.int .u8 v)) (w : World) : (part 5 xs j).run Tryd.prog w = .ok (.int .u8 v) w := by
  simp [part, h, go_sem]
theorem eq_items (zs : List Int) (w : World) : ∀ js : List Nat, (∀ j ∈ js, j < 32) → (Op.eqItems 9999 5 1 (bcells zs) (bcells zs) js).run Tryd.prog w = .ok true w := by
  intro js
  induction js with
  | nil => intro _; simp [Op.eqItems]
  | cons j js ih =>
    intro h
    have hj := bcells_get zs j (h j (by simp))
    have q : ∀ (a b : Int) (w : World), (Op.equalIn 9999 5 (.int .u8 a) (.int .u8 b)).run Tryd.prog w = .ok (a == b) w := fun a b w => run_equalIn_int w 9998 5 .u8 .u8 a b Tryd.underlying5
    simp only [Op.eqItems, Sem.run_bind, Nat.mul_one, part5 _ j _ hj, q, Result.andThen_ok]
    simpa using ih (fun i hi => h i (by simp [hi]))
theorem same_hash (zs : List Int) (w : World) : (Op.equalIn 10000 24 (.agg (bcells zs)) (.agg (bcells zs))).run Tryd.prog w = .ok true w := by
  obtain ⟨i0, hi⟩ := Option.isSome_iff_exists.1 Tryd.info5s
  rw [run_equalIn_array w 9999 _ _ Tryd.underlying24 hi, Tryd.cells5]
  exact eq_items zs w _ (fun j hj => List.mem_range.1 hj)

theorem hash_row {w : World} {S : Nat} {hz : List Int} (h : Blk w S 24 (bcells hz)) (hl : hz.length = 32) (hb : ∀ x ∈ hz, 0 ≤ x ∧ x ≤ 255) : Row w (some ⟨S, 0, none⟩) 32 hz :=
  ⟨hl, hb, fun _ => ⟨S, 0, rfl, h.lt, fun i hi => by rw [Nat.zero_add]; exact (h.cell i).trans (bcells_get hz i hi)⟩⟩

def GivesStr (zs : List Int) (w : World) (e : Ending) (w' : World) : Prop := e = .returned (.string (strOfNums zs)) ∧ Below w.heap.size w w'
set_option maxHeartbeats 500000 in
set_option maxRecDepth 100000 in
theorem name_any (a : Option Addr) (n ca : Nat) (zs : List Int) (w : World) (hr : Row w a n zs) (hca : n ≤ ca) (hn : n ≤ 100000) (ht : Tab w) :
    Calls Tryd.prog 10 #[.slice a n ca] w (GivesStr (hexZ ((hashZ zs).take 20)) w) := by
  have CO := Lib.hid (of_any a n ca zs w hr hca hn ht)
  have HL := hash_len zs
  have HB := Lib.hid (hash_byte zs)
  clear hr ht
  generalize hashZ zs = hz at *
  have L32 : hz.length ≤ 32 := by omega
  go_enter Tryd.func10, Tryd.ntmps10
  go_wp2_with fail
  refine CO.out.mono ?_
  rintro e w1 ⟨rfl, hb1⟩
  have S1 := Lib.hid (Blk.new w1 24 Z32)
  have B1 := Lib.hid (below_setRow (hb1.alloc hb1.size (.cells Z32 24)) hb1.size (bcells hz))
  have K1 : Hid (Blk ((w1.alloc (.cells Z32 24)).setRow w1.heap.size (bcells hz)) w1.heap.size 24 (bcells hz)) := Lib.hid (setRow_heap _ _ _ _ _ _ S1.out)
  clear hb1 CO
  go_wp2_with (first
    | (refine Great.wpList_allocTo rfl (some 3) rfl (.pointer (some ⟨w1.heap.size, 0, none⟩)) (.cells Z32 24) rfl ?_)
    | (refine wpList_store_rowTo rfl 24 (.tmp 3) (.tmp 5) rfl rfl w1.heap.size (bcells hz) rfl rfl 24 Z32 S1.out (Tryd.size24 hz L32) (by rw [bcells_size hz L32]; rfl) (bcells_one hz) ?_))
  generalize (w1.alloc (.cells Z32 24)).setRow w1.heap.size (bcells hz) = w2 at *
  refine (hex_any (some ⟨w1.heap.size, 0, none⟩) 20 32 (hz.take 20) w2 ((hash_row K1.out HL HB.out).first 20 (by omega)) (by omega)).mono ?_
  rintro e w3 ⟨rfl, hb3⟩
  have B3 := Lib.hid (Below.step B1.out hb3)
  clear hb3
  go_wp2_with fail
  go_ret
  exact ⟨rfl, B3.out⟩
set_option maxHeartbeats 500000 in
set_option maxRecDepth 100000 in
theorem rname_any (a : Option Addr) (n ca : Nat) (zs : List Int) (w : World) (hr : Row w a n zs) (hn : n ≤ 100000) (hnil : a = none → ca = 0) :
    Calls Tryd.prog 11 #[.slice a n ca] w (GivesStr (hexZ ((hashZ zs).take 20)) w) := by
  have CO := Lib.hid (rof_any a n ca zs w hr hn hnil)
  have HL := hash_len zs
  have HB := Lib.hid (hash_byte zs)
  clear hr hnil
  generalize hashZ zs = hz at *
  have L32 : hz.length ≤ 32 := by omega
  go_enter Tryd.func11, Tryd.ntmps11
  go_wp2_with fail
  refine CO.out.mono ?_
  rintro e w1 ⟨rfl, hb1⟩
  have S1 := Lib.hid (Blk.new w1 24 Z32)
  have B1 := Lib.hid (below_setRow (hb1.alloc hb1.size (.cells Z32 24)) hb1.size (bcells hz))
  have K1 : Hid (Blk ((w1.alloc (.cells Z32 24)).setRow w1.heap.size (bcells hz)) w1.heap.size 24 (bcells hz)) := Lib.hid (setRow_heap _ _ _ _ _ _ S1.out)
  clear hb1 CO
  go_wp2_with (first
    | (refine Great.wpList_allocTo rfl (some 3) rfl (.pointer (some ⟨w1.heap.size, 0, none⟩)) (.cells Z32 24) rfl ?_)
    | (refine wpList_store_rowTo rfl 24 (.tmp 3) (.tmp 5) rfl rfl w1.heap.size (bcells hz) rfl rfl 24 Z32 S1.out (Tryd.size24 hz L32) (by rw [bcells_size hz L32]; rfl) (bcells_one hz) ?_))
  generalize (w1.alloc (.cells Z32 24)).setRow w1.heap.size (bcells hz) = w2 at *
  refine (rhex_any (some ⟨w1.heap.size, 0, none⟩) 20 32 (hz.take 20) w2 ((hash_row K1.out HL HB.out).first 20 (by omega)) (by omega)).mono ?_
  rintro e w3 ⟨rfl, q, hw3⟩
  have B3 : Hid (Below w.heap.size w w3) := by rw [hw3]; exact Lib.hid (Below.step B1.out (drewN_below _ _))
  clear hw3
  go_wp2_with fail
  go_ret
  exact ⟨rfl, B3.out⟩

end Go.Proofs.YtgldoppcillljaaDoor
