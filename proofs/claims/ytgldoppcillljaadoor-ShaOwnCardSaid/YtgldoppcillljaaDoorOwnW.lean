/-
  The walk of stage 6's third law (sha): what is handed in is not kept.
-/
import Derived.Test.YtgldoppcillljaaDoorShaAw
namespace Go.Proofs.YtgldoppcillljaaDoor
open Go.RowKit
set_option linter.unusedVariables false

theorem Holds.far {w : World} {g gc k : Nat} {L : List Int} {v : Value} (h : Holds w g L) (hne : g ≠ gc) : Holds (w.setCell ⟨gc, k, none⟩ v) g L := h.kept (heap_setCell_other w ⟨gc, k, none⟩ g v hne)

set_option maxHeartbeats 1000000 in
set_option maxRecDepth 100000 in
theorem own_walk (a : Option Addr) (n ca : Nat) (zs : List Int) (at' : Int) (w : World) (hr : Row w a n zs) (hca : n ≤ ca) (hnil : a = none → ca = 0) (hwf : (Lit.int .i64 at').wf = true) (ht : Tab w) :
    Calls Tryd.prog 5 #[.slice a n ca, .int .i64 at'] w fun e w' => e = .returned (.bool true) ∧ Below w.heap.size w w' := by
  have AW := Lib.hid (awake_any w ht)
  have HR := Lib.hid hr
  have TA := Lib.hid ht
  have NI := Lib.hid hnil
  have hzn := hr.1
  have h2 := ht.1
  have bnd := bounds_i64 hwf
  clear hr ht hnil hwf
  go_enter Tryd.func5, Tryd.ntmps5
  go_wp2_with fail
  refine AW.out.mono ?_
  rintro e w1 ⟨rfl, hb1⟩
  have B1 := Lib.hid hb1
  have T1 := Lib.hid (TA.out.below hb1)
  have lt1 : w.heap.size ≤ w1.heap.size := hb1.size
  clear hb1 AW
  go_wp2_with fail
  refine (new_any w1 T1.out).mono ?_
  rintro e w2 ⟨rfl, hw2⟩
  have H2 : Hid (Holds w2 w1.heap.size []) := by rw [hw2]; exact Lib.hid (new_holds w1)
  have B2 : Hid (Below w.heap.size w w2) := by rw [hw2]; exact Lib.hid (B1.out.alloc B1.out.size _)
  clear hw2
  have lt2 := H2.out.lt
  generalize hg : w1.heap.size = g at *
  have HG := Lib.hid hg
  clear hg B1 T1
  by_cases q0 : n = 0
  · have t0 : ((n : Int) == 0) = true := by simp; omega
    go_wp2_with fail
    go_ret
    exact ⟨rfl, B2.out⟩
  have t0 : ((n : Int) == 0) = false := by simp; omega
  by_cases q1 : 1000 < n
  · have t1 : decide ((1000 : Int) < (n : Int)) = true := by simp; omega
    go_wp2_with fail
    go_ret
    exact ⟨rfl, B2.out⟩
  have t1 : decide ((1000 : Int) < (n : Int)) = false := by simp; omega
  by_cases q2 : at' < 0
  · have t2 : decide (at' < 0) = true := by simpa using q2
    go_wp2_with fail
    go_ret
    exact ⟨rfl, B2.out⟩
  have t2 : decide (at' < 0) = false := by simpa using q2
  have T2 := Lib.hid (TA.out.below B2.out)
  have O2 := Lib.hid (out_zero w2)
  have R2 : Hid (Row (w2.alloc (.cells #[] 5)) a n zs) := Lib.hid ((HR.out.below B2.out).below ((Below.refl _ _).alloc (Nat.le_refl _) _))
  have HN : Hid (([] : List Int).length + n ≤ 1000000) := Lib.hid (by simp; omega)
  go_wp2_with (at_builtin; go_must (refine out_append (W0 := w2) (L := []) (zs := zs) rfl _ _ rfl rfl O2.out rfl R2.out NI.out HN.out ?_; intro V3 w3 ho3; have O3 := Lib.hid ho3; clear ho3))
  have ov := O3.out
  rw [List.nil_append] at ov
  obtain ⟨gc, cap, rfl, hgc⟩ := ov.form (by omega)
  have hcap := own_cap ov.1
  have OF : ∀ j, w3.frozen? ⟨gc, j, none⟩ = false := fun j => ov.1.frozenAt j
  have R3 : Row w3 (some ⟨gc, 0, none⟩) zs.length zs := Row.of_own ov.1 HR.out.2.1
  rw [hzn] at hcap R3
  rw [hzn]
  have H3 := Lib.hid (H2.out.below ov.2)
  have B3 := Lib.hid (Below.step B2.out ov.2)
  have AP := Lib.hid (show Apart w3 g (some ⟨gc, 0, none⟩) n zs from ⟨R3, fun _ => ⟨gc, 0, rfl, by omega⟩⟩)
  have hgg : ¬ gc = g := by omega
  have hgw : w.heap.size ≤ gc := by have := B2.out.size; omega
  have lgc : gc < w3.heap.size := by
    obtain ⟨_, _, e, hb, _⟩ := R3.2.2 (by omega)
    injection e with e
    injection e with e _
    omega
  clear ov O3 O2 R2 HN H2 T2 R3
  refine (write_any g [] (some ⟨gc, 0, none⟩) n cap zs w3 H3.out (by omega) AP.out hcap (TA.out.below B3.out) (by simp; omega)).mono ?_
  rintro e w4 ⟨rfl, hh4, hg4⟩
  rw [List.nil_append] at hh4
  have H4 := Lib.hid hh4
  have B4 : Hid (Below w.heap.size w w4) := Lib.hid (B3.out.grown hg4 B3.out.size (fun k e => by simp at e; omega))
  have A4 := Lib.hid (AP.out.grown hg4)
  have f4 : ∀ j, w4.frozen? ⟨gc, j, none⟩ = false := fun j => (World.grownBy.frozen_far hg4 ⟨gc, j, none⟩ lgc (by simp; omega)).trans (OF j)
  clear hh4 hg4 H3 AP B3 OF
  have n0 : (n : Int) ≠ 0 := by omega
  have am := Int.emod_nonneg at' n0
  have al := Int.emod_lt_of_pos at' (show (0 : Int) < (n : Int) by omega)
  obtain ⟨k, hk⟩ : ∃ k : Nat, (k : Int) = at' % (n : Int) := ⟨(at' % (n : Int)).toNat, by omega⟩
  have hkn : k < n := by omega
  have hkI : (k : Int) < (n : Int) := by omega
  have dm : at'.tmod (n : Int) = (k : Int) := by rw [Int.tmod_eq_emod_of_nonneg (by omega), hk]
  obtain ⟨_, _, hae, _, hac⟩ := A4.out.1.2.2 (by omega)
  injection hae with hae
  injection hae with hae1 hae2
  subst hae1 hae2
  have c4 := hac k hkn
  rw [Nat.zero_add] at c4
  have xr := HR.out.byte k
  have fk := f4 k
  generalize zs[k]?.getD 0 = x at *
  have H5 := Lib.hid (fun v => H4.out.far (gc := gc) (k := k) (v := v) (by omega))
  have B5 := Lib.hid (fun v => B4.out.setCell (p := ⟨gc, k, none⟩) hgw v)
  clear hac H4 B4 A4 f4 am al hk
  have EQ : ∀ W : World, (Op.equalIn 10000 24 (.agg (bcells (hashZ zs))) (.agg (bcells (hashZ zs)))).run Tryd.prog W = .ok true W := fun W => same_hash (hashZ zs) W
  have CS := Lib.hid (fun W (hh : Holds W g zs) (ht : Tab W) => sum_any g zs W hh ht (by omega))
  have CO := Lib.hid (fun W (hb : Below w.heap.size w W) => of_any a n ca zs W (HR.out.below hb) hca (by omega) (TA.out.below hb))
  generalize hashZ zs = hz at *
  go_wp2_with fail
  generalize hw5 : w4.setCell ⟨gc, k, none⟩ (.int .u8 (bits .xor .u8 x 1)) = w5 at *
  have H6 : Hid (Holds w5 g zs) := by rw [← hw5]; exact Lib.hid (H5.out _)
  have B6 : Hid (Below w.heap.size w w5) := by rw [← hw5]; exact Lib.hid (B5.out _)
  clear hw5 H5 B5
  refine (CS.out w5 H6.out (TA.out.below B6.out)).mono ?_
  rintro e w6 ⟨rfl, hb6⟩
  have B7 := Lib.hid (Below.step B6.out hb6)
  clear hb6 H6 B6 CS
  go_wp2_with fail
  refine (CO.out w6 B7.out).mono ?_
  rintro e w7 ⟨rfl, hb7⟩
  have B8 := Lib.hid (Below.step B7.out hb7)
  clear hb7 B7 CO
  go_wp2_with fail
  go_ret
  exact ⟨rfl, B8.out⟩

end Go.Proofs.YtgldoppcillljaaDoor
