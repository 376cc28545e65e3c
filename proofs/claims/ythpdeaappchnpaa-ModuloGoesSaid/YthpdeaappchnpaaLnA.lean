/-
  What the package's normalized, Bare and cmp.Compare answer, for stage 7 (limb).
-/
import Derived.Test.YthpdeaappchnpaaLimR
namespace Go.Proofs.Ythpdeaappchnpaa
open Go.RowKit
set_option linter.unusedVariables false

/-- Where the noughts at the end begin. -/
theorem strip_at (zs : List Int) : ∀ m : Nat, m ≤ zs.length → (∀ i, m ≤ i → zs[i]?.getD 0 = 0) → ∃ k, k ≤ zs.length ∧ (∀ i, k ≤ i → zs[i]?.getD 0 = 0) ∧ (k = 0 ∨ zs[k - 1]?.getD 0 ≠ 0)
  | 0, h0, hz => ⟨0, h0, hz, .inl rfl⟩
  | m + 1, h0, hz => by
    by_cases h : zs[m]?.getD 0 = 0
    · exact strip_at zs m (by omega) (fun i hi => by
        rcases Nat.eq_or_lt_of_le hi with rfl | h2
        · exact h
        · exact hz i h2)
    · exact ⟨m + 1, h0, hz, .inr h⟩
/-- A row's limbs, the noughts at the end struck, are its beginning. -/
theorem norm_take {zs : List Int} (h : Limbs zs) : (limZ (valZ zs)).length ≤ zs.length ∧ zs.take (limZ (valZ zs)).length = limZ (valZ zs) := by
  obtain ⟨k, hk, hz, hne⟩ := strip_at zs zs.length (Nat.le_refl _) (fun i hi => by rw [List.getElem?_eq_none hi]; rfl)
  have e := bare_is h hk hz hne
  have hl := congrArg List.length e
  rw [List.length_take, Nat.min_eq_left hk] at hl
  rw [← hl]
  exact ⟨hk, e⟩
theorem Row32.norm {w : World} {a : Option Addr} {n : Nat} {zs : List Int} (h : Row32 w a n zs) : Row32 w a (limZ (valZ zs)).length (limZ (valZ zs)) := by
  have t := norm_take h.2.1
  have hl := h.1
  have := h.first _ (by rw [← hl]; exact t.1)
  rwa [t.2] at this
theorem norm_len {zs : List Int} (h : Limbs zs) {k : Nat} (hk : k ≤ zs.length) (hz : ∀ i, k ≤ i → zs[i]?.getD 0 = 0) (hne : k = 0 ∨ zs[k - 1]?.getD 0 ≠ 0) : k = (limZ (valZ zs)).length := by
  have hl := congrArg List.length (bare_is h hk hz hne)
  rw [List.length_take, Nat.min_eq_left hk] at hl
  exact hl

set_option maxHeartbeats 500000 in
set_option maxRecDepth 10000 in
theorem normalized_any (a : Option Addr) (n ca : Nat) (zs : List Int) (w : World) (hr : Row32 w a n zs) (hca : n ≤ ca) (hn : n ≤ 1000000) (hnil : a = none → ca = 0) :
    Calls Try.prog 28 #[.slice a n ca] w fun e w' => e = .returned (.slice a (limZ (valZ zs)).length (limZ (valZ zs)).length) ∧ w' = w := by
  have HR := Lib.hid hr
  have NI := Lib.hid hnil
  have hl := hr.1
  clear hr hnil
  go_enter Try.func28, Try.ntmps28
  go_wp2_with fail
  go_loop [3] (fun i => ∃ k : Nat, k ≤ n ∧ i = .int .i64 (k : Int) ∧ (∀ j, k ≤ j → zs[j]?.getD 0 = 0)) (fun i => (intOf i).toNat)
  case atStart => exact ⟨n, Nat.le_refl _, rfl, fun j hj => by rw [List.getElem?_eq_none (by omega)]; rfl⟩
  case round =>
    obtain ⟨k, hk, rfl, hz⟩ := hrel
    have HZ := Lib.hid hz
    clear hz
    by_cases hmore : ∃ j, k = j + 1 ∧ zs[j]?.getD 0 = 0
    · obtain ⟨j, rfl, hx⟩ := hmore
      obtain ⟨b, off, rfl, hb, hc⟩ := HR.out.2.2 (by omega)
      have c0 := hc j (by omega)
      rw [hx] at c0
      have t0 : decide ((0 : Int) < (j : Int) + 1) = true := decide_eq_true (by omega)
      have w1 : IntKind.i64.wrap ((j : Int) + 1 - 1) = (j : Int) := by rw [show (j : Int) + 1 - 1 = (j : Int) by omega]; exact IntWalk.i64_in _ (by omega)
      have wj : IntKind.i64.wrap (j : Int) = (j : Int) := IntWalk.i64_in _ (by omega)
      have jI : (j : Int) < (n : Int) := by omega
      have jN : (0 : Int) ≤ (j : Int) := by omega
      have NZ : Hid (∀ i, j ≤ i → zs[i]?.getD 0 = 0) := Lib.hid (fun i hi => by
        rcases Nat.eq_or_lt_of_le hi with rfl | h
        · exact hx
        · exact HZ.out i h)
      clear hc HZ hx
      rw [show ((j + 1 : Nat) : Int) = (j : Int) + 1 by omega]
      go_wp2_with fail
      go_round
      case rel => exact ⟨j, by omega, by first | rfl | go_num, NZ.out⟩
      case measure => simp only [intOf]; omega
    · have hend : k = 0 ∨ zs[k - 1]?.getD 0 ≠ 0 := by
        rcases Nat.eq_zero_or_pos k with h | h
        · exact .inl h
        · exact .inr (fun e => hmore ⟨k - 1, by omega, e⟩)
      have F := Lib.hid (norm_len (row32_limbs HR.out) (by omega) HZ.out hend)
      have kI : (k : Int) ≤ (ca : Int) := by omega
      have kN : (0 : Int) ≤ (k : Int) := by omega
      clear HZ
      by_cases h0 : k = 0
      · subst h0
        have t0 : decide ((0 : Int) < ((0 : Nat) : Int)) = false := by simp
        rw [show ((0 : Nat) : Int) = 0 by rfl] at kI kN ⊢
        cases a with
        | none =>
          obtain rfl := NI.out rfl
          go_wp2_with fail
          go_ret
          exact ⟨by rw [← F.out]; rfl, rfl⟩
        | some ad =>
          go_wp2_with fail
          go_ret
          exact ⟨by rw [← F.out]; rfl, rfl⟩
      · have hx : zs[k - 1]?.getD 0 ≠ 0 := by
          rcases hend with h | h
          · exact absurd h h0
          · exact h
        obtain ⟨j, rfl⟩ : ∃ j, k = j + 1 := ⟨k - 1, by omega⟩
        rw [show j + 1 - 1 = j by omega] at hx
        obtain ⟨b, off, rfl, hb, hc⟩ := HR.out.2.2 (by omega)
        have c0 := hc j (by omega)
        generalize hg : zs[j]?.getD 0 = x at *
        clear hg
        have t0 : decide ((0 : Int) < (j : Int) + 1) = true := decide_eq_true (by omega)
        have t1 : (x == 0) = false := by simpa using hx
        have w1 : IntKind.i64.wrap ((j : Int) + 1 - 1) = (j : Int) := by rw [show (j : Int) + 1 - 1 = (j : Int) by omega]; exact IntWalk.i64_in _ (by omega)
        have wj : IntKind.i64.wrap (j : Int) = (j : Int) := IntWalk.i64_in _ (by omega)
        have jI : (j : Int) < (n : Int) := by omega
        have jN : (0 : Int) ≤ (j : Int) := by omega
        clear hc hend hmore
        rw [show ((j + 1 : Nat) : Int) = (j : Int) + 1 by omega] at kI kN ⊢
        go_wp2_with fail
        go_ret
        exact ⟨by rw [← F.out]; rfl, rfl⟩

theorem naN_int (x : Int) (w : World) : Calls Try.prog 39 #[.int .i64 x] w fun e w' => e = .returned (.bool false) ∧ w' = w := by
  have t0 : (x != x) = false := by simp
  go_enter Try.func39, Try.ntmps39
  go_wp2_with fail
  go_ret
  exact ⟨rfl, rfl⟩
theorem naN_u32 (x : Int) (w : World) : Calls Try.prog 40 #[.int .u32 x] w fun e w' => e = .returned (.bool false) ∧ w' = w := by
  have t0 : (x != x) = false := by simp
  go_enter Try.func40, Try.ntmps40
  go_wp2_with fail
  go_ret
  exact ⟨rfl, rfl⟩
theorem compare_int (x y : Int) (w : World) : Calls Try.prog 34 #[.int .i64 x, .int .i64 y] w fun e w' => e = .returned (.int .i64 (cmpI x y)) ∧ w' = w := by
  go_enter Try.func34, Try.ntmps34
  rcases Int.lt_trichotomy x y with h1 | h1 | h1
  · have t1 : decide (x < y) = true := decide_eq_true h1
    have E : cmpI x y = -1 := if_pos h1
    rw [E]
    clear E
    go_wp2_with (go_at_call 39; go_must (refine (naN_int _ _).mono ?_; rintro e w' ⟨rfl, rfl⟩))
    go_ret
    exact ⟨rfl, rfl⟩
  · have t1 : decide (x < y) = false := decide_eq_false (by omega)
    have t2 : decide (y < x) = false := decide_eq_false (by omega)
    have E : cmpI x y = 0 := by unfold cmpI; rw [if_neg (by omega), if_neg (by omega)]
    rw [E]
    clear E
    go_wp2_with (go_at_call 39; go_must (refine (naN_int _ _).mono ?_; rintro e w' ⟨rfl, rfl⟩))
    go_ret
    exact ⟨rfl, rfl⟩
  · have t1 : decide (x < y) = false := decide_eq_false (by omega)
    have t2 : decide (y < x) = true := decide_eq_true (by omega)
    have E : cmpI x y = 1 := by unfold cmpI; rw [if_neg (by omega), if_pos h1]
    rw [E]
    clear E
    go_wp2_with (go_at_call 39; go_must (refine (naN_int _ _).mono ?_; rintro e w' ⟨rfl, rfl⟩))
    go_ret
    exact ⟨rfl, rfl⟩
theorem compare_u32 (x y : Int) (w : World) : Calls Try.prog 35 #[.int .u32 x, .int .u32 y] w fun e w' => e = .returned (.int .i64 (cmpI x y)) ∧ w' = w := by
  go_enter Try.func35, Try.ntmps35
  rcases Int.lt_trichotomy x y with h1 | h1 | h1
  · have t1 : decide (x < y) = true := decide_eq_true h1
    have E : cmpI x y = -1 := if_pos h1
    rw [E]
    clear E
    go_wp2_with (go_at_call 40; go_must (refine (naN_u32 _ _).mono ?_; rintro e w' ⟨rfl, rfl⟩))
    go_ret
    exact ⟨rfl, rfl⟩
  · have t1 : decide (x < y) = false := decide_eq_false (by omega)
    have t2 : decide (y < x) = false := decide_eq_false (by omega)
    have E : cmpI x y = 0 := by unfold cmpI; rw [if_neg (by omega), if_neg (by omega)]
    rw [E]
    clear E
    go_wp2_with (go_at_call 40; go_must (refine (naN_u32 _ _).mono ?_; rintro e w' ⟨rfl, rfl⟩))
    go_ret
    exact ⟨rfl, rfl⟩
  · have t1 : decide (x < y) = false := decide_eq_false (by omega)
    have t2 : decide (y < x) = true := decide_eq_true (by omega)
    have E : cmpI x y = 1 := by unfold cmpI; rw [if_neg (by omega), if_pos h1]
    rw [E]
    clear E
    go_wp2_with (go_at_call 40; go_must (refine (naN_u32 _ _).mono ?_; rintro e w' ⟨rfl, rfl⟩))
    go_ret
    exact ⟨rfl, rfl⟩

end Go.Proofs.Ythpdeaappchnpaa
