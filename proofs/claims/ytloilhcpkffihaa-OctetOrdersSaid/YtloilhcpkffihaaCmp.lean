/-
  What octet.Cmp and the document's Cmp answer, for stage 1 (octet): both give the same order of two rows of bytes, and change nothing.
-/
import Derived.Test.YtloilhcpkffihaaRows
import Derived.Test.YtloilhcpkffihaaMath
import Derived.WalkKit
import Derived.WalkSpells
import Derived.WalkLawsBesides
import Derived.Deep.QuietTactic
import Derived.BigQuiet
import Derived.Lib.Hide
namespace Go.Proofs.Ytloilhcpkffihaa
open Go.RowKit

def ordZ (a b : Int) : Int := if a < b then -1 else if b < a then 1 else 0

set_option maxHeartbeats 400000 in
theorem order_any (a b : Int) (w : World) :
    Calls Try.prog 25 #[.int .i64 a, .int .i64 b] w fun e w' => e = .returned (.int .i64 (ordZ a b)) ∧ w' = w := by
  by_cases h1 : a < b
  · go_enter Try.func25, Try.ntmps25
    go_wp2
    go_ret
    exact ⟨by simp [ordZ, h1], rfl⟩
  · by_cases h2 : b < a
    · go_enter Try.func25, Try.ntmps25
      go_wp2
      go_ret
      exact ⟨by simp [ordZ, h1, h2], rfl⟩
    · go_enter Try.func25, Try.ntmps25
      go_wp2
      go_ret
      rw [ordZ, if_neg (by omega), if_neg (by omega)]
      exact ⟨rfl, rfl⟩

/-- One round's way of 'Cmp', by the bytes there. -/
theorem cmp_step {xs ys : List Int} {k : Nat} (hk1 : k < xs.length) (hk2 : k < ys.length) (he : cmpZ (xs.drop k) (ys.drop k) = cmpZ xs ys) {x y : Int} (hx : x = xs[k]?.getD 0) (hy : y = ys[k]?.getD 0) :
    (¬ x = y → cmpZ xs ys = ordZ x y) ∧ (x = y → cmpZ (xs.drop (k + 1)) (ys.drop (k + 1)) = cmpZ xs ys) := by
  rw [cmpZ_drop hk1 hk2, ← hx, ← hy] at he
  refine ⟨fun hne => ?_, fun e => ?_⟩
  · rw [← he, ordZ]
    by_cases c : x < y
    · rw [if_pos c, if_pos c]
    · rw [if_neg c, if_neg c, if_pos (by omega), if_pos (by omega)]
  · rw [if_neg (by omega), if_neg (by omega)] at he
    exact he

theorem cmp_end {xs ys : List Int} {k : Nat} (h1 : k ≤ xs.length) (h2 : k ≤ ys.length) (h : k = xs.length ∨ k = ys.length) (he : cmpZ (xs.drop k) (ys.drop k) = cmpZ xs ys) :
    cmpZ xs ys = ordZ xs.length ys.length := by
  rw [← he, cmpZ_end h1 h2 h, ordZ]

set_option maxHeartbeats 1000000 in
theorem cmp_any (a b : Option Addr) (n m ca cb : Nat) (xs ys : List Int) (w : World) (hx : Row w a n xs) (hy : Row w b m ys) (hn : n ≤ 1000000) (hm : m ≤ 1000000) :
    Calls Try.prog 19 #[.slice a n ca, .slice b m cb] w fun e w' => e = .returned (.int .i64 (cmpZ xs ys)) ∧ ∃ q, w' = w.drewN q := by
  have HX := Lib.hid hx
  have HY := Lib.hid hy
  clear hx hy
  by_cases hle : n ≤ m
  all_goals
    go_enter Try.func19, Try.ntmps19
    go_wp2
    go_loopw [11] (fun i wr => ∃ k q : Nat, k ≤ n ∧ k ≤ m ∧ i = .int .i64 k ∧ wr = w.drewN q ∧ cmpZ (xs.drop k) (ys.drop k) = cmpZ xs ys) (fun i _ => n - (intOf i).toNat)
    case atStart => exact ⟨0, 0, Nat.zero_le _, Nat.zero_le _, rfl, rfl, rfl⟩
    case round =>
      obtain ⟨k, q, hk1, hk2, rfl, rfl, he⟩ := hrel
      have HE := Lib.hid he
      clear he
      by_cases hlt : k < n ∧ k < m
      · obtain ⟨h1, h2⟩ := hlt
        obtain ⟨b1, o1, rfl, hb1, hc1⟩ := HX.out.2.2 (by omega)
        obtain ⟨b2, o2, rfl, hb2, hc2⟩ := HY.out.2.2 (by omega)
        have c1 := hc1 k h1
        have c2 := hc2 k h2
        clear hc1 hc2
        have bx := HX.out.byte k
        have by_ := HY.out.byte k
        have ST := Lib.hid (cmp_step (by rw [HX.out.1]; exact h1) (by rw [HY.out.1]; exact h2) HE.out rfl rfl)
        generalize xs[k]?.getD 0 = x at c1 bx ST
        generalize ys[k]?.getD 0 = y at c2 by_ ST
        by_cases hxy : x = y
        · subst hxy
          go_wp2
          go_quiet (fail)
          go_wp2
          go_roundw
          case rel => exact ⟨k + 1, _, by omega, by omega, by go_num, rfl, ST.out.2 (by simp)⟩
          case measure => simp [intOf]; omega
        · have hne : (x != y) = true := by simpa using hxy
          go_wp2
          go_quiet (fail)
          go_wp2
          have wx : IntKind.i64.wrap x = x := IntWalk.i64_in _ (by omega)
          have wy : IntKind.i64.wrap y = y := IntWalk.i64_in _ (by omega)
          go_quiet ((go_at_call 25; exact calm_call (fun W => order_any _ _ W)))
          clear wx wy
          go_wp2
          go_ret
          exact ⟨same_int (ST.out.1 hxy).symm, _, by rw [World.drewN_drewN, World.drewN_drewN]⟩
      · first | (have hge : n ≤ k := by omega) | (have hge : m ≤ k := by omega)
        go_wp2_with (go_at_call 25; refine (order_any _ _ _).mono ?_; rintro e w' ⟨rfl, rfl⟩)
        go_ret
        exact ⟨same_int (by rw [cmp_end (by rw [HX.out.1]; exact hk1) (by rw [HY.out.1]; exact hk2) (by rw [HX.out.1, HY.out.1]; omega) HE.out, HX.out.1, HY.out.1]), _, rfl⟩

set_option maxHeartbeats 1000000 in
theorem rcmp_any (a b : Option Addr) (n m ca cb : Nat) (xs ys : List Int) (w : World) (hx : Row w a n xs) (hy : Row w b m ys) (hn : n ≤ 1000000) (hm : m ≤ 1000000) :
    Calls Try.prog 20 #[.slice a n ca, .slice b m cb] w fun e w' => e = .returned (.int .i64 (cmpZ xs ys)) ∧ ∃ q, w' = w.drewN q := by
  have HX := Lib.hid hx
  have HY := Lib.hid hy
  clear hx hy
  go_enter Try.func20, Try.ntmps20
  go_wp2
  go_loopw [5] (fun i wr => ∃ k q : Nat, k ≤ n ∧ k ≤ m ∧ i = .int .i64 k ∧ wr = w.drewN q ∧ cmpZ (xs.drop k) (ys.drop k) = cmpZ xs ys) (fun i _ => n - (intOf i).toNat)
  case atStart => exact ⟨0, 0, Nat.zero_le _, Nat.zero_le _, rfl, rfl, rfl⟩
  case round =>
    obtain ⟨k, q, hk1, hk2, rfl, rfl, he⟩ := hrel
    have HE := Lib.hid he
    clear he
    by_cases hlt : k < n ∧ k < m
    · obtain ⟨h1, h2⟩ := hlt
      obtain ⟨b1, o1, rfl, hb1, hc1⟩ := HX.out.2.2 (by omega)
      obtain ⟨b2, o2, rfl, hb2, hc2⟩ := HY.out.2.2 (by omega)
      have c1 := hc1 k h1
      have c2 := hc2 k h2
      clear hc1 hc2
      have bx := HX.out.byte k
      have by_ := HY.out.byte k
      have ST := Lib.hid (cmp_step (by rw [HX.out.1]; exact h1) (by rw [HY.out.1]; exact h2) HE.out rfl rfl)
      generalize xs[k]?.getD 0 = x at c1 bx ST
      generalize ys[k]?.getD 0 = y at c2 by_ ST
      by_cases hxy : x < y
      · go_wp2
        go_quiet (fail)
        go_wp2
        go_ret
        exact ⟨same_int (by rw [ST.out.1 (by omega), ordZ, if_pos hxy]), _, by rw [World.drewN_drewN]⟩
      · have hd1 : decide (x < y) = false := by simpa using hxy
        by_cases hyx : y < x
        · go_wp2
          go_quiet (fail)
          go_wp2
          go_quiet (fail)
          go_wp2
          go_ret
          exact ⟨same_int (by rw [ST.out.1 (by omega), ordZ, if_neg (by omega), if_pos hyx]), _, by rw [World.drewN_drewN, World.drewN_drewN]⟩
        · have hd2 : decide (y < x) = false := by simpa using hyx
          go_wp2
          go_quiet (fail)
          go_wp2
          go_quiet (fail)
          go_wp2
          go_roundw
          case rel => exact ⟨k + 1, _, by omega, by omega, by go_num, rfl, ST.out.2 (by omega)⟩
          case measure => simp [intOf]; omega
    · have hend := Lib.hid (cmp_end (by rw [HX.out.1]; exact hk1) (by rw [HY.out.1]; exact hk2) (by rw [HX.out.1, HY.out.1]; omega) HE.out)
      by_cases hk : k < n
      all_goals
        go_wp2
        all_goals go_ret
        all_goals exact ⟨same_int (by rw [hend.out, HX.out.1, HY.out.1, ordZ]; first | rw [if_pos (by omega)] | rw [if_neg (by omega), if_pos (by omega)] | rw [if_neg (by omega), if_neg (by omega)]), _, rfl⟩

end Go.Proofs.Ytloilhcpkffihaa
