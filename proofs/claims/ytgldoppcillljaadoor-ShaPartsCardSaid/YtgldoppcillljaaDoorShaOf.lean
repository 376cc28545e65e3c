/-
  What the package's Of answers, for stage 6 (sha).
-/
import Derived.Test.YtgldoppcillljaaDoorShaSu
namespace Go.Proofs.YtgldoppcillljaaDoor
open Go.RowKit
set_option linter.unusedVariables false

set_option maxHeartbeats 300000 in
set_option maxRecDepth 100000 in
theorem of_any (a : Option Addr) (n ca : Nat) (zs : List Int) (w : World) (hr : Row w a n zs) (hca : n ≤ ca) (hn : n ≤ 100000) (ht : Tab w) :
    Calls Tryd.prog 8 #[.slice a n ca] w (GivesHash (hashZ zs) w) := by
  have B1 : Hid (Below w.heap.size w (w.alloc (.cells Z32 24))) := Lib.hid ((Below.refl _ _).alloc (Nat.le_refl _) _)
  have A1 : Hid (Blk (w.alloc (.cells Z32 24)) w.heap.size 24 Z32) := Lib.hid (Blk.new _ _ _)
  have hs1 : (w.alloc (.cells Z32 24)).heap.size = w.heap.size + 1 := by simp
  have T1 := Lib.hid (ht.below B1.out)
  have HR := Lib.hid hr
  have hzn := hr.1
  have L32 : (hashZ zs).length ≤ 32 := by rw [hash_len]; omega
  have h2 := ht.1
  clear hr ht
  go_enter Tryd.func8, Tryd.ntmps8
  go_wp2_with (refine Great.wpList_allocTo rfl (some 2) rfl (.pointer (some ⟨w.heap.size, 0, none⟩)) (.cells Z32 24) rfl ?_)
  generalize w.alloc (.cells Z32 24) = w1 at *
  have HS1 := Lib.hid hs1
  clear hs1
  refine (new_any w1 T1.out).mono ?_
  rintro e w2 ⟨rfl, hw2⟩
  have H2 : Hid (Holds w2 w1.heap.size []) := by rw [hw2]; exact Lib.hid (new_holds w1)
  have B2 : Hid (Below w1.heap.size w1 w2) := by rw [hw2]; exact Lib.hid ((Below.refl _ _).alloc (Nat.le_refl _) _)
  clear hw2
  have T2 := Lib.hid (T1.out.below B2.out)
  have BW := Lib.hid (Below.step B1.out B2.out)
  have A2 := Lib.hid (A1.out.below B2.out A1.out.lt)
  have AP : Hid (Apart w2 w1.heap.size a n zs) := Lib.hid ⟨HR.out.below BW.out, fun h0 => by
    obtain ⟨b, off, e, hb, _⟩ := HR.out.2.2 h0
    exact ⟨b, off, e, by have := HS1.out; omega⟩⟩
  clear B2 T1 A1 HR
  go_wp2_with fail
  refine (write_any w1.heap.size [] a n ca zs w2 H2.out (by have := HS1.out; omega) AP.out hca T2.out (by simp; omega)).mono ?_
  rintro e w3 ⟨rfl, hh3, hg3⟩
  rw [List.nil_append] at hh3
  have H3 : Hid (Holds w3 w1.heap.size zs) := Lib.hid hh3
  have B3 : Hid (Below w.heap.size w w3) := Lib.hid (BW.out.grown hg3 BW.out.size (fun k e => by have := HS1.out; simp at e; omega))
  have A3 : Hid (Blk w3 w.heap.size 24 Z32) := Lib.hid ((hg3.block _ (Blk.lt A2.out) (by have := HS1.out; simp; omega)).trans A2.out)
  have T3 := Lib.hid (T2.out.grown hg3 (by have := HS1.out; omega))
  clear hh3 hg3 H2 AP T2 A2 BW
  go_wp2_with fail
  refine (sum_any w1.heap.size zs w3 H3.out T3.out (by omega)).mono ?_
  rintro e w4 ⟨rfl, hb4⟩
  have A4 := Lib.hid (A3.out.below hb4 A3.out.lt)
  have B4 := Lib.hid (Below.step B3.out hb4)
  clear hb4 A3 B3 H3 T3
  generalize hashZ zs = hz at *
  go_wp2_with (refine wpList_store_rowTo rfl 24 (.tmp 2) (.tmp 9) rfl rfl w.heap.size (bcells hz) rfl rfl 24 Z32 A4.out (Tryd.size24 hz L32) (by rw [bcells_size hz L32]; rfl) (bcells_one hz) ?_)
  exact bodyPost_ret (results_cell_row rfl _ _ w.heap.size 24 (bcells hz) (0, 0) (.array 32 5) rfl (setRow_heap _ _ _ _ 24 _ A4.out) Tryd.underlying24 rfl (Tryd.size24 hz L32)) rfl ⟨rfl, below_setRow B4.out (Nat.le_refl _) _⟩

end Go.Proofs.YtgldoppcillljaaDoor
