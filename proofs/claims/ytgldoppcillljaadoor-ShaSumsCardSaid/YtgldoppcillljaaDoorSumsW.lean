/-
  The walk of stage 6's first law (sha): any bytes' hash, and the name that it gives.
-/
import Derived.Test.YtgldoppcillljaaDoorShaAw
namespace Go.Proofs.YtgldoppcillljaaDoor
open Go.RowKit
set_option linter.unusedVariables false

set_option maxHeartbeats 1000000 in
set_option maxRecDepth 100000 in
theorem sums_walk (a : Option Addr) (n ca : Nat) (zs : List Int) (w : World) (hr : Row w a n zs) (hca : n ≤ ca) (hnil : a = none → ca = 0) (ht : Tab w) :
    Calls Tryd.prog 3 #[.slice a n ca] w fun e w' => e = .returned (.bool true) ∧ Below w.heap.size w w' := by
  have AW := Lib.hid (awake_any w ht)
  have HR := Lib.hid hr
  have TA := Lib.hid ht
  have NI := Lib.hid hnil
  clear hr ht hnil
  go_enter Tryd.func3, Tryd.ntmps3
  go_wp2_with fail
  refine AW.out.mono ?_
  rintro e w1 ⟨rfl, hb1⟩
  have B1 := Lib.hid hb1
  clear hb1 AW
  by_cases h2 : 2000 < n
  · have t0 : decide ((2000 : Int) < (n : Int)) = true := by simp; omega
    go_wp2_with fail
    go_ret
    exact ⟨rfl, B1.out⟩
  · have t0 : decide ((2000 : Int) < (n : Int)) = false := by simp; omega
    have EQ : ∀ W : World, (Op.equalIn 10000 24 (.agg (bcells (hashZ zs))) (.agg (bcells (hashZ zs)))).run Tryd.prog W = .ok true W := fun W => same_hash (hashZ zs) W
    have C1 := Lib.hid (of_any a n ca zs w1 (HR.out.below B1.out) hca (by omega) (TA.out.below B1.out))
    have C2 := Lib.hid (fun W (hb : Below w.heap.size w W) => rof_any a n ca zs W (HR.out.below hb) (by omega) NI.out)
    have C3 := Lib.hid (fun W (hb : Below w.heap.size w W) => name_any a n ca zs W (HR.out.below hb) hca (by omega) (TA.out.below hb))
    have C4 := Lib.hid (fun W (hb : Below w.heap.size w W) => rname_any a n ca zs W (HR.out.below hb) (by omega) NI.out)
    generalize hexZ ((hashZ zs).take 20) = hx at *
    generalize hashZ zs = hz at *
    go_wp2_with fail
    refine C1.out.mono ?_
    rintro e w2 ⟨rfl, hb2⟩
    have B2 := Lib.hid (Below.step B1.out hb2)
    clear hb2 C1 B1
    go_wp2_with fail
    refine (C2.out _ B2.out).mono ?_
    rintro e w3 ⟨rfl, hb3⟩
    have B3 := Lib.hid (Below.step B2.out hb3)
    clear hb3 C2 B2
    go_wp2_with fail
    refine (C3.out _ B3.out).mono ?_
    rintro e w4 ⟨rfl, hb4⟩
    have B4 := Lib.hid (Below.step B3.out hb4)
    clear hb4 C3 B3
    go_wp2_with fail
    refine (C4.out _ B4.out).mono ?_
    rintro e w5 ⟨rfl, hb5⟩
    have B5 := Lib.hid (Below.step B4.out hb5)
    clear hb5 C4 B4
    go_wp2_with fail
    go_ret
    exact ⟨ret_bool (by simp), B5.out⟩

end Go.Proofs.YtgldoppcillljaaDoor
