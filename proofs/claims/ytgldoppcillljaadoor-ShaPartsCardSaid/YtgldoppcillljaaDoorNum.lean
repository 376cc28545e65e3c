/-
  What octet.Num and the document's Num answer, for stage 1 (octet): both give the same number of a row of bytes, and change nothing.
-/
import Derived.Test.YtgldoppcillljaaDoorRows
import Derived.Test.YtgldoppcillljaaDoorMath
import Derived.WalkKit
import Derived.WalkSpells
import Derived.WalkLawsBesides
import Derived.Deep.QuietTactic
import Derived.BigQuiet
import Derived.Lib.Hide
import Derived.Laws.BitsLemmas
namespace Go.Proofs.YtgldoppcillljaaDoor
open Go.RowKit

def B56 : Int := 72057594037927936

/-- Num's answer, from a number on. -/
def numZ : Int → List Int → Int × Bool
  | n, [] => (n, true)
  | n, x :: xs => if B56 ≤ n then (0, false) else numZ (n * 256 + x) xs

theorem numZ_drop {zs : List Int} {k : Nat} (s : Int) (h : k < zs.length) : numZ s (zs.drop k) = if B56 ≤ s then (0, false) else numZ (s * 256 + zs[k]?.getD 0) (zs.drop (k + 1)) := by
  rw [List.drop_eq_getElem_cons h, numZ]
  simp [List.getElem?_eq_getElem h]

theorem num_step {zs : List Int} {k : Nat} {s x : Int} (h : k < zs.length) (hx : x = zs[k]?.getD 0) (he : numZ s (zs.drop k) = numZ 0 zs) :
    (B56 ≤ s → numZ 0 zs = (0, false)) ∧ (s < B56 → numZ (s * 256 + x) (zs.drop (k + 1)) = numZ 0 zs) := by
  rw [numZ_drop s h, ← hx] at he
  refine ⟨fun hs => ?_, fun hs => ?_⟩
  · rw [← he, if_pos hs]
  · rw [if_neg (by omega)] at he
    exact he

theorem num_end {zs : List Int} {k : Nat} {s : Int} (h : zs.length ≤ k) (he : numZ s (zs.drop k) = numZ 0 zs) : numZ 0 zs = (s, true) := by
  rw [← he, List.drop_of_length_le h, numZ]

theorem top_set {s : Int} (h : (s / 72057594037927936 != 0) = true) (h0 : 0 ≤ s) : B56 ≤ s := by
  simp at h
  unfold B56
  omega
theorem top_clear {s : Int} (h : (s / 72057594037927936 != 0) = false) : s < B56 := by
  simp at h
  unfold B56
  omega

theorem or8 {s x : Int} (h0 : 0 ≤ s) (h : s < B56) (x0 : 0 ≤ x) (x1 : x ≤ 255) : bits .or .u64 (IntKind.u64.wrap (s * 256)) x = s * 256 + x := by
  unfold B56 at h
  have hw : ∀ n : Int, 0 ≤ n → n < 2 ^ 64 → IntKind.u64.wrap n = n := by
    intro n h0 h1
    rw [IntKind.wrap_u64]
    omega
  rw [hw _ (by omega) (by omega)]
  exact bits_join .u64 64 (by decide) hw 8 _ _ (by omega) (by omega) (by omega) x0 (by omega) (by omega)

theorem ret_num {zs : List Int} {n : Int} {b : Bool} (h : numZ 0 zs = (n, b)) : Ending.returned (.tuple #[.int .u64 n, .bool b]) = .returned (.tuple #[.int .u64 (numZ 0 zs).1, .bool (numZ 0 zs).2]) := by rw [h]

set_option maxHeartbeats 400000 in
theorem rnum_any (a : Option Addr) (n ca : Nat) (zs : List Int) (w : World) (hx : Row w a n zs) (hn : n ≤ 1000000) :
    Calls Tryd.prog 25 #[.slice a n ca] w fun e w' => e = .returned (.tuple #[.int .u64 (numZ 0 zs).1, .bool (numZ 0 zs).2]) ∧ w' = w := by
  have HX := Lib.hid hx
  clear hx
  go_enter Tryd.func25, Tryd.ntmps25
  go_wp2
  go_loop [4, 5] (fun t i => ∃ k : Nat, ∃ s : Int, k ≤ n ∧ 0 ≤ s ∧ s ≤ 18446744073709551615 ∧ i = .int .i64 k ∧ t = .int .u64 s ∧ numZ s (zs.drop k) = numZ 0 zs) (fun _ i => n - (intOf i).toNat)
  case atStart => exact ⟨0, 0, Nat.zero_le _, by omega, by omega, rfl, rfl, rfl⟩
  case round =>
    obtain ⟨k, s, hk, hs0, hs1, rfl, rfl, he⟩ := hrel
    have HE := Lib.hid he
    clear he
    by_cases hlt : k < n
    · obtain ⟨b1, o1, rfl, hb1, hc1⟩ := HX.out.2.2 (by omega)
      have c1 := hc1 k hlt
      clear hc1
      have bx := HX.out.byte k
      have ST := Lib.hid (num_step (by rw [HX.out.1]; exact hlt) rfl HE.out)
      generalize zs[k]?.getD 0 = x at c1 bx ST
      go_wp2
      · go_ret2
        exact ⟨ret_num (ST.out.1 (by unfold B56; assumption)), rfl⟩
      · have ht : s < B56 := by unfold B56; assumption
        go_round
        case rel => exact ⟨k + 1, _, by omega, by omega, by unfold B56 at ht; omega, by go_num, rfl, ST.out.2 ht⟩
        case measure => simp [intOf]; omega
    · go_wp2
      go_ret2
      exact ⟨ret_num (num_end (by rw [HX.out.1]; omega) HE.out), rfl⟩

end Go.Proofs.YtgldoppcillljaaDoor
