/-
  The reference's Has, for stage 12 (asn).
-/
import Derived.Test.YtppdnejkbdnlcaaAnR
import Derived.Test.YtppdnejkbdnlcaaOrd
namespace Go.Proofs.Ytppdnejkbdnlcaa
open Go.RowKit
set_option linter.unusedVariables false

theorem has_drop {L : List (Nat × Nat)} {q i : Nat} (hi : i < L.length) : hasZ (L.drop i) q = ((decide ((L[i]).1 ≤ q) && decide (q ≤ (L[i]).2)) || hasZ (L.drop (i + 1)) q) := by
  rw [List.drop_eq_getElem_cons hi]
  rfl

set_option maxHeartbeats 1000000 in
set_option maxRecDepth 10000 in
theorem rhas_any (a : Option Addr) (n c q : Nat) (L : List (Nat × Nat)) (w : World) (h : RgArg w a n c L) (hn : n ≤ 100000) (hq : q < 4294967296) :
    Calls Try.prog 14 #[.slice a n c, .int .u32 (q : Int)] w fun e w' => e = .returned (.bool (hasZ L q)) ∧ Below w.heap.size w w' := by
  have RA := Lib.hid h.1
  have HL := Lib.hid h.1.1
  have HN := Lib.hid hn
  have E0 : Hid (hasZ (L.drop 0) q = hasZ L q) := Lib.hid rfl
  clear h hn
  generalize hasZ L q = r0 at *
  go_enter Try.func14, Try.ntmps14
  go_wp2_with fail
  go_loopw [5] (fun iV wr => ∃ i : Nat, iV = .int .i64 (i : Int) ∧ i ≤ n ∧ hasZ (L.drop i) q = r0 ∧ Below w.heap.size w wr) (fun iV _ => ((n : Int) - intOf iV).toNat)
  case atStart => exact ⟨0, rfl, Nat.zero_le _, E0.out, Below.refl _ _⟩
  case round =>
    obtain ⟨i, rfl, hi, he, hb⟩ := hrel
    have E5 := Lib.hid he
    have B5 := Lib.hid hb
    clear he hb E0
    by_cases hlt : i < n
    · have t0 : decide ((i : Int) < (n : Int)) = true := decide_eq_true (by omega)
      have t0' : decide (i < n) = true := decide_eq_true hlt
      obtain ⟨b, o, rfl, _⟩ := RA.out.form (by omega)
      have kl : i < L.length := by rw [HL.out]; exact hlt
      have i0 : (0 : Int) ≤ (i : Int) := by omega
      have i1 : (i : Int) < (n : Int) := by omega
      have iI : IntKind.i64.wrap ((i : Int) + 1) = (i : Int) + 1 := IntWalk.i64_in _ (by have := HN.out; omega)
      have c1 := (RA.out.below B5.out).lo i kl
      have c2 := (RA.out.below B5.out).hi i kl
      have ED := Lib.hid (show ((decide ((L[i]).1 ≤ q) && decide (q ≤ (L[i]).2)) || hasZ (L.drop (i + 1)) q) = r0 from by rw [← has_drop kl]; exact E5.out)
      clear E5
      generalize (L[i]).1 = x at *
      generalize (L[i]).2 = y at *
      by_cases h1 : x ≤ q
      · have t1 : decide ((x : Int) ≤ (q : Int)) = true := decide_eq_true (by omega)
        have t1' : decide (x ≤ q) = true := decide_eq_true h1
        by_cases h2 : q ≤ y
        · have t2 : decide ((q : Int) ≤ (y : Int)) = true := decide_eq_true (by omega)
          have t2' : decide (q ≤ y) = true := decide_eq_true h2
          have e := ED.out
          rw [t1', t2'] at e
          have er : true = r0 := by simpa using e
          subst er
          clear e ED
          go_wp2_with fail
          go_ret
          exact ⟨rfl, B5.out⟩
        · have t2 : decide ((q : Int) ≤ (y : Int)) = false := decide_eq_false (by omega)
          have t2' : decide (q ≤ y) = false := decide_eq_false h2
          have e := ED.out
          rw [t1', t2', Bool.and_false, Bool.false_or] at e
          have E6 := Lib.hid e
          clear e ED
          go_wp2_with fail
          go_roundw
          case rel => exact ⟨i + 1, by go_num, by omega, E6.out, B5.out⟩
          case measure => simp only [intOf]; omega
      · have t1 : decide ((x : Int) ≤ (q : Int)) = false := decide_eq_false (by omega)
        have t1' : decide (x ≤ q) = false := decide_eq_false h1
        have e := ED.out
        rw [t1', Bool.false_and, Bool.false_or] at e
        have E6 := Lib.hid e
        clear e ED
        go_wp2_with fail
        go_roundw
        case rel => exact ⟨i + 1, by go_num, by omega, E6.out, B5.out⟩
        case measure => simp only [intOf]; omega
    · have t0 : decide ((i : Int) < (n : Int)) = false := decide_eq_false (by omega)
      have t0' : decide (i < n) = false := decide_eq_false hlt
      have e := E5.out
      rw [List.drop_of_length_le (by rw [HL.out]; omega)] at e
      have er : false = r0 := e
      subst er
      go_wp2_with fail
      go_ret
      exact ⟨rfl, B5.out⟩

end Go.Proofs.Ytppdnejkbdnlcaa
