/-
  Proved: for every two 64-bit numbers and every int the law OctetSame returns true. No condition. (The frame is the guide's; the walk is by hand.)
-/
import Derived.Test.YtloilhcpkffihaaRows
import Derived.Test.YtloilhcpkffihaaSame
import Derived.Test.YtloilhcpkffihaaOpen
import Derived.WalkKit
import Derived.ProofKit
import Derived.OpenShut
import Derived.ShutString
namespace Go.Proofs.Ytloilhcpkffihaa.octetSame
open Go.ChangeShapes Go.WideShapes Go.ChangeAt Go.RowKit
open Go.ChangeMaps (open_string shut_string)
set_option linter.unusedVariables false      -- a walk need not use every 'w<i>' (that an integer argument fits its kind)

theorem own : ownKnob Try.prog.godebug = none := by kernel_rfl

/-- What a call of Bytes leaves, whatever it answers. -/
def GivesSome (w : World) (e : Ending) (w' : World) : Prop := ∃ a n c ok, e = .returned (.tuple #[.slice a n c, .bool ok]) ∧ Below w.heap.size w w'
theorem bytes_some (n many : Int) (w : World) (h0 : 0 ≤ n) (h1 : n ≤ 18446744073709551615) : Calls Try.prog 15 #[.int .u64 n, .int .i64 many] w (GivesSome w) :=
  (bytes_any n many w h0 h1).mono fun _ _ ⟨a, c, he, _, hb⟩ => ⟨a, _, c, _, he, hb⟩

theorem three {w w1 w2 w3 : World} (h1 : Below w.heap.size w w1) (h2 : Below w1.heap.size w1 w2) (h3 : Below w2.heap.size w2 w3) : Below w.heap.size w w3 :=
  (h1.trans (h2.mono h1.size)).trans (h3.mono (Nat.le_trans h1.size h2.size))

set_option maxHeartbeats 1000000 in
theorem both (a0 a1 : Int) (m : Nat) (w : World) (u0 : 0 ≤ a0) (v0 : a0 ≤ 18446744073709551615) (u1 : 0 ≤ a1) (v1 : a1 ≤ 18446744073709551615) (hm : m ≤ 64) (z0 : a0 / 256 ^ m = 0) (z1 : a1 / 256 ^ m = 0) (r s : Int)
    (hr : ordZ a0 a1 = r) (hs : ordZ a1 a0 = s) (d1 : (decide (r < 0) == decide (a0 < a1)) = true) (d2 : ((r == 0) == (a0 == a1)) = true) (d3 : (s == wrap64 (-r)) = true) :
    Calls Try.prog 7 #[.int .u64 a0, .int .u64 a1, .int .i64 (m : Int)] w fun e w' => e = .returned (.bool true) ∧ Below w.heap.size w w' := by
  have Z0 := Lib.hid z0
  have Z1 := Lib.hid z1
  have HR := Lib.hid hr
  have HS := Lib.hid hs
  clear z0 z1 hr hs
  go_enter Try.func7, Try.ntmps7
  go_wp2_with fail
  refine (awake_any w).mono ?_
  rintro e w1 ⟨rfl, hb1⟩
  go_wp2_with fail
  refine (bytes_ok a0 _ m _ rfl u0 v0 (by omega) Z0.out).mono ?_
  rintro e w2 ⟨a, c, rfl, hx, hb2⟩
  have X := Lib.hid hx
  clear hx
  go_wp2_with fail
  refine (bytes_ok a1 _ m _ rfl u1 v1 (by omega) Z1.out).mono ?_
  rintro e w3 ⟨a', c', rfl, hy, hb3⟩
  have Y := Lib.hid hy
  clear hy
  go_wp2_with fail
  refine (cmp_be r a a' m c c' w3 hm (X.out.below hb3) Y.out Z0.out Z1.out HR.out).mono ?_
  rintro e w4 ⟨rfl, k, rfl⟩
  go_wp2_with fail
  refine (cmp_be s a' a m c' c (w3.drewN k) hm (Y.out.drewN k) ((X.out.below hb3).drewN k) Z1.out Z0.out HS.out).mono ?_
  rintro e w5 ⟨rfl, k', rfl⟩
  go_wp2
  go_ret
  exact ⟨rfl, keeps_drewN (three hb1 hb2 hb3) _⟩

/-! ### STEP 1: THE WALK: the Go text returns true. 'Grown w w'': the world has at most new blocks (Derived/RowKit3.lean). Part the cases AHEAD of 'go_enter' where a test parts the walk; take each callee by a contract of your own. -/
theorem walk (a0 : Int) (a1 : Int) (a2 : Int) (w0 : (Lit.int .u64 a0).wf = true) (w1 : (Lit.int .u64 a1).wf = true) (w2 : (Lit.int .i64 a2).wf = true) (w : World) :
    Calls Try.prog 7 #[.int .u64 a0, .int .u64 a1, .int .i64 a2] w fun e w' => e = .returned (.bool true) ∧ Below w.heap.size w w' := by
  obtain ⟨u0, v0⟩ := bounds_u64 w0
  obtain ⟨u1, v1⟩ := bounds_u64 w1
  clear w0 w1 w2
  by_cases hr : 0 ≤ a2 ∧ a2 ≤ 64
  · obtain ⟨m, rfl⟩ := Int.eq_ofNat_of_zero_le hr.1
    have hm : m ≤ 64 := by omega
    clear hr
    by_cases hz0 : a0 / 256 ^ m = 0
    · by_cases hz1 : a1 / 256 ^ m = 0
      · have Z0 := Lib.hid hz0
        have Z1 := Lib.hid hz1
        clear hz0 hz1
        rcases Int.lt_trichotomy a0 a1 with h | h | h
        · exact both a0 a1 m w u0 v0 u1 v1 hm Z0.out Z1.out (-1) 1 (by rw [ordZ, if_pos h]) (by rw [ordZ, if_neg (by omega), if_pos h]) (by simp; omega) (by simp; omega) (by rw [IntWalk.wrap64_in _ (by omega)]; decide)
        · exact both a0 a1 m w u0 v0 u1 v1 hm Z0.out Z1.out 0 0 (by rw [ordZ, if_neg (by omega), if_neg (by omega)]) (by rw [ordZ, if_neg (by omega), if_neg (by omega)]) (by simp; omega) (by simp; omega) (by rw [IntWalk.wrap64_in _ (by omega)]; decide)
        · exact both a0 a1 m w u0 v0 u1 v1 hm Z0.out Z1.out 1 (-1) (by rw [ordZ, if_neg (by omega), if_pos h]) (by rw [ordZ, if_pos h]) (by simp; omega) (by simp; omega) (by rw [IntWalk.wrap64_in _ (by omega)]; decide)
      · have B1 := Lib.hid (bytesZ_in a1 m hm)
        rw [if_neg hz1] at B1
        have Z0 := Lib.hid hz0
        clear hz0 hz1
        go_enter Try.func7, Try.ntmps7
        go_wp2_with fail
        refine (awake_any w).mono ?_
        rintro e w1 ⟨rfl, hb1⟩
        go_wp2_with fail
        refine (bytes_ok a0 _ m _ rfl u0 v0 (by omega) Z0.out).mono ?_
        rintro e w2 ⟨a, c, rfl, _, hb2⟩
        go_wp2_with fail
        refine (bytes_fail a1 _ _ u1 v1 B1.out).mono ?_
        rintro e w3 ⟨a', c', rfl, _, hb3⟩
        go_wp2
        go_ret
        exact ⟨rfl, three hb1 hb2 hb3⟩
    · have B0 := Lib.hid (bytesZ_in a0 m hm)
      rw [if_neg hz0] at B0
      clear hz0
      go_enter Try.func7, Try.ntmps7
      go_wp2_with fail
      refine (awake_any w).mono ?_
      rintro e w1 ⟨rfl, hb1⟩
      go_wp2_with fail
      refine (bytes_fail a0 _ _ u0 v0 B0.out).mono ?_
      rintro e w2 ⟨a, c, rfl, _, hb2⟩
      go_wp2_with fail
      refine (bytes_some a1 _ _ u1 v1).mono ?_
      rintro e w3 ⟨a', n', c', ok, rfl, hb3⟩
      go_wp2
      go_ret
      exact ⟨rfl, three hb1 hb2 hb3⟩
  · have B0 := Lib.hid (bytesZ_out (n := a0) (many := a2) (by omega))
    clear hr
    go_enter Try.func7, Try.ntmps7
    go_wp2_with fail
    refine (awake_any w).mono ?_
    rintro e w1 ⟨rfl, hb1⟩
    go_wp2_with fail
    refine (bytes_fail a0 _ _ u0 v0 B0.out).mono ?_
    rintro e w2 ⟨a, c, rfl, _, hb2⟩
    go_wp2_with fail
    refine (bytes_some a1 _ _ u1 v1).mono ?_
    rintro e w3 ⟨a', n', c', ok, rfl, hb3⟩
    go_wp2
    go_ret
    exact ⟨rfl, three hb1 hb2 hb3⟩

/-! ### THE ROW's STEP: WRITTEN OUT: LEAVE IT -/
set_option maxRecDepth 100000 in
theorem lifted (os : Os) (started : os.Started) (H : Type) (enc : TypeId × Value → H) :
    ReturnsInHanded {} Try.checked os 7 .any (Rows.octetSameSpec.pre6 enc Try.prog Try.f7 Rows.octetSameRow.domain false) (Rows.octetSameSpec.post enc Try.prog Try.f7 false true false false) := by
  refine returnsInHanded_of_change (C := Try.checked) own started (by kernel_rfl) Try.func7
    (ChangeSpec.witness6 (enc := enc) (C := Try.checked) false ⟨#[], #[.int .u64 0, .int .u64 0, .int .i64 0], []⟩ 8 (by kernel_rfl) (by kernel_rfl) (by kernel_rfl) (by kernel_rfl)) ?_
  intro W base args ds gs before hval0 hW hcnd _
  have hval : ∀ (j : Nat) t v, Try.f7.params[j]? = some t → args[j]? = some v → Value.okWide Try.prog W .any base t v := hval0
  have hW' := hW
  obtain ⟨p, q, hA0, hV, rfl, hfz, hnd⟩ := hW
  have hA : DataW.TrodAll enc Try.prog W 0 (fun _ => true) true Try.f7.params.toList args.toList ds p := hA0
  rw [Try.params7] at hA hval
  obtain ⟨v0, vs0, d0, ds0, p0, q0, hargs, rfl, rfl, h0, r0⟩ := trodAll_cons hA
  obtain ⟨v1, vs1, d1, ds1, p1, q1, rfl, rfl, rfl, h1, r1⟩ := trodAll_cons r0
  obtain ⟨v2, vs2, d2, ds2, p2, q2, rfl, rfl, rfl, h2, r2⟩ := trodAll_cons r1
  obtain ⟨rfl, rfl, rfl⟩ := trodAll_nil r2
  obtain rfl : args = #[v0, v1, v2] := by cases args; simp_all
  obtain ⟨rfl, rfl⟩ := trodVars_none hV
  obtain ⟨a0, rfl, rfl, rfl, w0⟩ := open_int Try.underlying28 (hval 0 28 v0 rfl rfl) h0
  obtain ⟨a1, rfl, rfl, rfl, w1⟩ := open_int Try.underlying28 (hval 1 28 v1 rfl rfl) h1
  obtain ⟨a2, rfl, rfl, rfl, w2⟩ := open_int Try.underlying3 (hval 2 3 v2 rfl rfl) h2
  clear hA0 hval0
  refine (walk a0 a1 a2 w0 w1 w2 W).mono fun e W' ⟨he, bel⟩ => ?_
  subst he
  exact ⟨_, rfl, _, _, _, [], _, [], hW', trodAll_mk1 (shut_bool Try.underlying4 _), (trodAll_cons_mk (shut_int Try.underlying28 w0) (trodAll_cons_mk (shut_int Try.underlying28 w1) (trodAll_cons_mk (shut_int Try.underlying3 w2) trodAll_mk0))), rfl, bel.frame _, fun h => by cases h⟩

theorem over : Rows.octetSameRow.holds Try.pinned (OpenSpec.ofChange Rows.octetSameSpec) :=
  OpenClaim.holds_of_wide 7 Try.f7 rfl rfl rfl rfl rfl rfl rfl ⟨rfl, rfl, rfl, rfl, rfl⟩ rfl rfl rfl rfl rfl (by kernel_rfl) Try.func7 (by kernel_rfl)
    (of_decide_eq_true (by kernel_rfl)) (by unfold Func.isWrapper; first | (rw [if_pos (by decide +kernel)]; kernel_rfl) | (rw [if_neg (by decide +kernel)]; exact ⟨rfl, rfl⟩))
    (fun os started H enc _ => lifted os started H enc)

/-- ████ THE STATEMENT ████ -/
theorem proved : Rows.OctetSameSaid :=
  over
#print axioms proved
end Go.Proofs.Ytloilhcpkffihaa.octetSame
