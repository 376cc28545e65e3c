/-
  IndexFunc at ranges, for stage 12 (asn): by either of the package's functions.
-/
import Derived.Test.YtppdnejkbdnlcaaApA
namespace Go.Proofs.Ytppdnejkbdnlcaa
open Go.RowKit
set_option linter.unusedVariables false

/-- Where the first range stands that pr does not hold of. -/
def idxQ (pr : Nat × Nat → Bool) (L : List (Nat × Nat)) : Int := if (L.takeWhile pr).length = L.length then -1 else ((L.takeWhile pr).length : Int)
theorem idxQ_here {pr : Nat × Nat → Bool} : ∀ {L : List (Nat × Nat)} {k : Nat} (hk : k < L.length), (∀ j (hj : j < k), pr (L[j]'(by omega)) = true) → pr L[k] = false → (L.takeWhile pr).length = k
  | [], k, hk, _, _ => absurd hk (by simp)
  | s :: r, 0, hk, _, h => by
    have : pr s = false := h
    simp [List.takeWhile, this]
  | s :: r, k + 1, hk, hj, h => by
    have h0 : pr s = true := hj 0 (by omega)
    have := idxQ_here (L := r) (k := k) (by simpa using hk) (fun j hj' => hj (j + 1) (by omega)) h
    simp [List.takeWhile, h0, this]
theorem idxQ_none {pr : Nat × Nat → Bool} : ∀ {L : List (Nat × Nat)}, (∀ j (hj : j < L.length), pr L[j] = true) → (L.takeWhile pr).length = L.length
  | [], _ => rfl
  | s :: r, h => by
    have h0 : pr s = true := h 0 (by simp)
    have := idxQ_none (L := r) (fun j hj => h (j + 1) (by simpa using hj))
    simp [List.takeWhile, h0, this]

set_option maxHeartbeats 1000000 in
set_option maxRecDepth 10000 in
theorem indexDel_any (a : Option Addr) (n c : Nat) (L : List (Nat × Nat)) (w : World) (hr : RgRow w a n L) (hn : n ≤ 90000) :
    Calls Try.prog 26 #[.slice a n c, .func (.func 22) #[] #[]] w fun e w' => e = .returned (.int .i64 (idxQ validP L)) ∧ Below w.heap.size w w' := by
  have HR := Lib.hid hr
  have HL := Lib.hid hr.1
  have CC : Hid (∀ (s : Nat × Nat) (W : World), Below w.heap.size w W → Calls Try.prog 22 #[.agg (rcells s)] W fun e w' => e = .returned (.bool (!validP s)) ∧ Below W.heap.size W w') := Lib.hid (fun s W _ => wrongR_any s W)
  clear hr
  generalize hpr : validP = pr at *
  clear hpr
  go_enter Try.func26, Try.ntmps26
  go_wp2_with fail
  go_loopw [8] (fun iV wr => ∃ (k : Nat), iV = .int .i64 (k : Int) ∧ k ≤ n ∧ (∀ j (hj : j < L.length), j < k → pr L[j] = true) ∧ Below w.heap.size w wr) (fun iV _ => (200000 - intOf iV).toNat)
  case atStart => exact ⟨0, rfl, Nat.zero_le _, fun _ _ h => absurd h (by omega), Below.refl _ _⟩
  case round =>
    obtain ⟨k, rfl, hk, hj, hb⟩ := hrel
    have HJ := Lib.hid hj
    have B5 := Lib.hid hb
    clear hj hb
    by_cases hlt : k < n
    · have t0 : decide ((k : Int) < (n : Int)) = true := decide_eq_true (by omega)
      have t0' : decide (k < n) = true := decide_eq_true hlt
      have hkL : k < L.length := by rw [HL.out]; exact hlt
      obtain ⟨b, off, rfl, hbl⟩ := HR.out.form (by omega)
      have RG := Lib.hid ((HR.out.below B5.out).range k hkL)
      have C1 := Lib.hid (CC.out L[k] wr B5.out)
      have i0 : (0 : Int) ≤ (k : Int) := by omega
      have i1 : (k : Int) < (n : Int) := by omega
      have kI : IntKind.i64.wrap ((k : Int) + 1) = (k : Int) + 1 := IntWalk.i64_in _ (by omega)
      have HD := Lib.hid (fun h => idxQ_here hkL (fun j hj => HJ.out j (by omega) hj) h)
      have HN := Lib.hid (fun (h : pr L[k] = true) j (hj : j < L.length) (h2 : j < k + 1) => (by
        rcases Nat.lt_or_ge j k with h3 | h3
        · exact HJ.out j hj h3
        · obtain rfl : j = k := by omega
          exact h : pr L[j] = true))
      have HI : Hid ((L.takeWhile pr).length = k → idxQ pr L = (k : Int)) := Lib.hid (fun h => by
        unfold idxQ
        rw [h, if_neg (by omega)])
      generalize L[k] = p at *
      clear HR HL HJ CC
      generalize pr p = q at *
      cases q with
      | true =>
        have HN2 := Lib.hid (HN.out rfl)
        clear HN HD HI
        go_wp2_with (first
          | ((with_reducible refine load_range_at 14 b (off + k * 2) p ?_ RG.out ?_); (· rfl))
          | (go_at_call 22
             refine C1.out.mono ?_
             rintro r w6 ⟨rfl, hb6⟩
             have B6 := Lib.hid (Below.step B5.out hb6)
             clear hb6))
        go_roundw
        case rel => exact ⟨k + 1, by go_num, by omega, HN2.out, B6.out⟩
        case measure => simp only [intOf]; omega
      | false =>
        have HD2 := Lib.hid (HI.out (HD.out rfl))
        clear HN HD HI
        go_wp2_with (first
          | ((with_reducible refine load_range_at 14 b (off + k * 2) p ?_ RG.out ?_); (· rfl))
          | (go_at_call 22
             refine C1.out.mono ?_
             rintro r w6 ⟨rfl, hb6⟩
             have B6 := Lib.hid (Below.step B5.out hb6)
             clear hb6))
        go_ret
        exact ⟨by rw [HD2.out]; rfl, B6.out⟩
    · obtain rfl : k = n := by omega
      have t0 : decide ((k : Int) < (k : Int)) = false := decide_eq_false (by omega)
      have t0' : decide (k < k) = false := decide_eq_false (by omega)
      have HI : Hid (idxQ pr L = -1) := Lib.hid (by
        unfold idxQ
        rw [if_pos (idxQ_none (fun j hj => HJ.out j hj (by rw [← HL.out]; exact hj)))])
      clear HR HL HJ
      go_wp2_with fail
      go_ret
      exact ⟨by rw [HI.out]; rfl, B5.out⟩

/-- Is the number none of a range's? -/
def outP (q : Nat) (s : Nat × Nat) : Bool := !(decide (s.1 ≤ q) && decide (q ≤ s.2))

set_option maxHeartbeats 1000000 in
set_option maxRecDepth 10000 in
theorem indexHas_any (a : Option Addr) (n c q g : Nat) (L : List (Nat × Nat)) (w : World) (hr : RgRow w a n L) (hn : n ≤ 90000) (hc : w.cell? ⟨g, 0, none⟩ = some (.int .u32 (q : Int))) (hg : g < w.heap.size) :
    Calls Try.prog 26 #[.slice a n c, .func (.func 19) #[] #[.pointer (some ⟨g, 0, none⟩)]] w fun e w' => e = .returned (.int .i64 (idxQ (outP q) L)) ∧ Below w.heap.size w w' := by
  have HR := Lib.hid hr
  have HL := Lib.hid hr.1
  have CC : Hid (∀ (s : Nat × Nat) (W : World), Below w.heap.size w W → Calls Try.prog 19 #[.agg (rcells s), .pointer (some ⟨g, 0, none⟩)] W fun e w' => e = .returned (.bool (!outP q s)) ∧ Below W.heap.size W w') := Lib.hid (fun s W h => (hasC_any s q g W ((h.cell (p := ⟨g, 0, none⟩) hg).trans hc) (Nat.lt_of_lt_of_le hg h.size)).mono (fun _ _ k => ⟨k.1.trans (by unfold outP; rw [Bool.not_not]), k.2⟩))
  clear hr hc hg
  generalize hpr : (outP q) = pr at *
  clear hpr
  go_enter Try.func26, Try.ntmps26
  go_wp2_with fail
  go_loopw [8] (fun iV wr => ∃ (k : Nat), iV = .int .i64 (k : Int) ∧ k ≤ n ∧ (∀ j (hj : j < L.length), j < k → pr L[j] = true) ∧ Below w.heap.size w wr) (fun iV _ => (200000 - intOf iV).toNat)
  case atStart => exact ⟨0, rfl, Nat.zero_le _, fun _ _ h => absurd h (by omega), Below.refl _ _⟩
  case round =>
    obtain ⟨k, rfl, hk, hj, hb⟩ := hrel
    have HJ := Lib.hid hj
    have B5 := Lib.hid hb
    clear hj hb
    by_cases hlt : k < n
    · have t0 : decide ((k : Int) < (n : Int)) = true := decide_eq_true (by omega)
      have t0' : decide (k < n) = true := decide_eq_true hlt
      have hkL : k < L.length := by rw [HL.out]; exact hlt
      obtain ⟨b, off, rfl, hbl⟩ := HR.out.form (by omega)
      have RG := Lib.hid ((HR.out.below B5.out).range k hkL)
      have C1 := Lib.hid (CC.out L[k] wr B5.out)
      have i0 : (0 : Int) ≤ (k : Int) := by omega
      have i1 : (k : Int) < (n : Int) := by omega
      have kI : IntKind.i64.wrap ((k : Int) + 1) = (k : Int) + 1 := IntWalk.i64_in _ (by omega)
      have HD := Lib.hid (fun h => idxQ_here hkL (fun j hj => HJ.out j (by omega) hj) h)
      have HN := Lib.hid (fun (h : pr L[k] = true) j (hj : j < L.length) (h2 : j < k + 1) => (by
        rcases Nat.lt_or_ge j k with h3 | h3
        · exact HJ.out j hj h3
        · obtain rfl : j = k := by omega
          exact h : pr L[j] = true))
      have HI : Hid ((L.takeWhile pr).length = k → idxQ pr L = (k : Int)) := Lib.hid (fun h => by
        unfold idxQ
        rw [h, if_neg (by omega)])
      generalize L[k] = p at *
      clear HR HL HJ CC
      generalize pr p = q at *
      cases q with
      | true =>
        have HN2 := Lib.hid (HN.out rfl)
        clear HN HD HI
        go_wp2_with (first
          | ((with_reducible refine load_range_at 14 b (off + k * 2) p ?_ RG.out ?_); (· rfl))
          | (go_at_call 19
             refine C1.out.mono ?_
             rintro r w6 ⟨rfl, hb6⟩
             have B6 := Lib.hid (Below.step B5.out hb6)
             clear hb6))
        go_roundw
        case rel => exact ⟨k + 1, by go_num, by omega, HN2.out, B6.out⟩
        case measure => simp only [intOf]; omega
      | false =>
        have HD2 := Lib.hid (HI.out (HD.out rfl))
        clear HN HD HI
        go_wp2_with (first
          | ((with_reducible refine load_range_at 14 b (off + k * 2) p ?_ RG.out ?_); (· rfl))
          | (go_at_call 19
             refine C1.out.mono ?_
             rintro r w6 ⟨rfl, hb6⟩
             have B6 := Lib.hid (Below.step B5.out hb6)
             clear hb6))
        go_ret
        exact ⟨by rw [HD2.out]; rfl, B6.out⟩
    · obtain rfl : k = n := by omega
      have t0 : decide ((k : Int) < (k : Int)) = false := decide_eq_false (by omega)
      have t0' : decide (k < k) = false := decide_eq_false (by omega)
      have HI : Hid (idxQ pr L = -1) := Lib.hid (by
        unfold idxQ
        rw [if_pos (idxQ_none (fun j hj => HJ.out j hj (by rw [← HL.out]; exact hj)))])
      clear HR HL HJ
      go_wp2_with fail
      go_ret
      exact ⟨by rw [HI.out]; rfl, B5.out⟩

end Go.Proofs.Ytppdnejkbdnlcaa
