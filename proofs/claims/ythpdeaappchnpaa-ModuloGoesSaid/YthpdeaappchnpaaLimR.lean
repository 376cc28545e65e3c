/-
  What the reference's part, Bare, Cmp and Same answer, for stage 7 (limb).
-/
import Derived.Test.YthpdeaappchnpaaLimQ
import Derived.Test.YthpdeaappchnpaaRow32
import Derived.Deep.QuietTactic
import Derived.BigQuiet
namespace Go.Proofs.Ythpdeaappchnpaa
open Go.RowKit
set_option linter.unusedVariables false

/-- The limbs of a number are handed back. -/
def GivesL (n : Int) (w : World) (e : Ending) (w' : World) : Prop :=
  ∃ a c, e = .returned (.slice a (limZ n).length c) ∧ Row32 w' a (limZ n).length (limZ n) ∧ (a = none → c = 0) ∧ (limZ n).length ≤ c ∧ Below w.heap.size w w'
theorem Out32.gives {w w' : World} {V : Value} {n : Int} (h : Out32 w w' V (limZ n)) : GivesL n w (.returned V) w' := by
  obtain ⟨a, c, rfl, hr⟩ := h.row (limZ_limbs n)
  exact ⟨a, c, rfl, hr, h.nilc, own_cap32 h.1, h.2⟩
theorem row32_limbs {w : World} {a : Option Addr} {n : Nat} {zs : List Int} (h : Row32 w a n zs) : Limbs zs := h.2.1
theorem Row32.first {w : World} {a : Option Addr} {n : Nat} {zs : List Int} (h : Row32 w a n zs) (k : Nat) (hk : k ≤ n) : Row32 w a k (zs.take k) := by
  have hl := h.1
  refine ⟨by rw [List.length_take]; omega, fun x hx => h.2.1 x (List.mem_of_mem_take hx), fun h0 => ?_⟩
  obtain ⟨b, off, e, hb, hc⟩ := h.2.2 (by omega)
  exact ⟨b, off, e, hb, fun i hi => by rw [hc i (by omega), List.getElem?_take, if_pos hi]⟩
theorem out_zero32 (w : World) : Out32 w (w.alloc (.cells #[] 35)) (.slice (some ⟨w.heap.size, 0, none⟩) 0 0) [] :=
  ⟨⟨rfl, .inr ⟨w.heap.size, 0, #[], rfl, Nat.le_refl _, heap_alloc_new w _, Nat.le_refl _, by unfold maxLen; omega, rfl, rfl⟩⟩, (Below.refl _ _).alloc (Nat.le_refl _) _⟩

theorem part_any (a : Option Addr) (n ca i : Nat) (zs : List Int) (w : World) (hr : Row32 w a n zs) : Calls Try.prog 38 #[.slice a n ca, .int .i64 (i : Int)] w fun e w' => e = .returned (.int .u64 (zs[i]?.getD 0)) ∧ w' = w := by
  have xr := hr.num i
  have hl := hr.1
  by_cases h : i < n
  · obtain ⟨b, off, rfl, hb, hc⟩ := hr.2.2 (by omega)
    have c0 := hc i h
    have t0 : decide ((n : Int) ≤ (i : Int)) = false := by simp; omega
    have hI : (i : Int) < (n : Int) := by omega
    generalize zs[i]?.getD 0 = x at *
    have wx : IntKind.u64.wrap x = x := IntWalk.u64_in _ (by omega)
    clear hr hc
    go_enter Try.func38, Try.ntmps38
    go_wp2_with fail
    go_ret
    exact ⟨rfl, rfl⟩
  · have t0 : decide ((n : Int) ≤ (i : Int)) = true := by simp; omega
    have e : zs[i]?.getD 0 = 0 := by rw [List.getElem?_eq_none (by omega)]; rfl
    rw [e]
    clear hr xr e
    go_enter Try.func38, Try.ntmps38
    go_wp2_with fail
    go_ret
    exact ⟨rfl, rfl⟩

set_option maxHeartbeats 500000 in
set_option maxRecDepth 10000 in
theorem rbare_own (a : Option Addr) (n ca : Nat) (zs : List Int) (w : World) (hr : Row32 w a n zs) (hca : n ≤ ca) (hn : n ≤ 100000) (hnil : a = none → ca = 0) : Calls Try.prog 23 #[.slice a n ca] w (fun e w' => ∃ V, e = .returned V ∧ Out32 w w' V (limZ (valZ zs))) := by
  have HR := Lib.hid hr
  have NI := Lib.hid hnil
  have hl := hr.1
  clear hr hnil
  go_enter Try.func23, Try.ntmps23
  go_wp2_with fail
  go_loop [3] (fun i => ∃ k : Nat, k ≤ n ∧ i = .int .i64 (k : Int) ∧ (∀ j, k ≤ j → zs[j]?.getD 0 = 0)) (fun i => (intOf i).toNat)
  case atStart => exact ⟨n, Nat.le_refl _, rfl, fun j hj => by rw [List.getElem?_eq_none (by omega)]; rfl⟩
  case round =>
    obtain ⟨k, hk, rfl, hz⟩ := hrel
    have HZ := Lib.hid hz
    clear hz
    by_cases hmore : ∃ j, k = j + 1 ∧ zs[j]?.getD 0 = 0
    · obtain ⟨j, rfl, hx⟩ := hmore
      obtain ⟨b, off, rfl, hb, hc⟩ := HR.out.2.2 (by omega)
      have c0 := hc j (by omega)
      rw [hx] at c0
      have t0 : decide ((0 : Int) < (j : Int) + 1) = true := decide_eq_true (by omega)
      have w1 : IntKind.i64.wrap ((j : Int) + 1 - 1) = (j : Int) := by rw [show (j : Int) + 1 - 1 = (j : Int) by omega]; exact IntWalk.i64_in _ (by omega)
      have wj : IntKind.i64.wrap (j : Int) = (j : Int) := IntWalk.i64_in _ (by omega)
      have jI : (j : Int) < (n : Int) := by omega
      have jN : (0 : Int) ≤ (j : Int) := by omega
      have NZ : Hid (∀ i, j ≤ i → zs[i]?.getD 0 = 0) := Lib.hid (fun i hi => by
        rcases Nat.eq_or_lt_of_le hi with rfl | h
        · exact hx
        · exact HZ.out i h)
      clear hc HZ hx
      rw [show ((j + 1 : Nat) : Int) = (j : Int) + 1 by omega]
      go_wp2_with fail
      go_round
      case rel => exact ⟨j, by omega, by first | rfl | go_num, NZ.out⟩
      case measure => simp only [intOf]; omega
    · have hend : k = 0 ∨ zs[k - 1]?.getD 0 ≠ 0 := by
        rcases Nat.eq_zero_or_pos k with h | h
        · exact .inl h
        · exact .inr (fun e => hmore ⟨k - 1, by omega, e⟩)
      have F := Lib.hid (bare_is (row32_limbs HR.out) (by omega) HZ.out hend)
      have O3 := Lib.hid (out_zero32 w)
      have R3 : Hid (Row32 (w.alloc (.cells #[] 35)) a k (zs.take k)) := Lib.hid ((HR.out.first k hk).below ((Below.refl _ _).alloc (Nat.le_refl _) _))
      have HN : Hid (([] : List Int).length + k ≤ 1000000) := Lib.hid (by simp; omega)
      have kI : (k : Int) ≤ (ca : Int) := by omega
      have kN : (0 : Int) ≤ (k : Int) := by omega
      clear HZ
      by_cases h0 : k = 0
      · subst h0
        have t0 : decide ((0 : Int) < ((0 : Nat) : Int)) = false := by simp
        rw [show ((0 : Nat) : Int) = 0 by rfl]
        go_wp2_with (at_builtin; go_must (refine out_append32 (W0 := w) (L := []) (zs := zs.take 0) rfl _ _ rfl rfl O3.out rfl R3.out NI.out HN.out ?_; intro V4 w4 ho4; rw [List.nil_append, F.out] at ho4; have O4 := Lib.hid ho4; clear ho4))
        go_ret
        exact ⟨_, rfl, O4.out⟩
      · have hx : zs[k - 1]?.getD 0 ≠ 0 := by
          rcases hend with h | h
          · exact absurd h h0
          · exact h
        obtain ⟨j, rfl⟩ : ∃ j, k = j + 1 := ⟨k - 1, by omega⟩
        rw [show j + 1 - 1 = j by omega] at hx
        have NI2 := NI.out
        obtain ⟨b, off, rfl, hb, hc⟩ := HR.out.2.2 (by omega)
        have c0 := hc j (by omega)
        generalize zs[j]?.getD 0 = x at *
        have t0 : decide ((0 : Int) < (j : Int) + 1) = true := decide_eq_true (by omega)
        have t1 : (x == 0) = false := by simpa using hx
        have w1 : IntKind.i64.wrap ((j : Int) + 1 - 1) = (j : Int) := by rw [show (j : Int) + 1 - 1 = (j : Int) by omega]; exact IntWalk.i64_in _ (by omega)
        have wj : IntKind.i64.wrap (j : Int) = (j : Int) := IntWalk.i64_in _ (by omega)
        have jI : (j : Int) < (n : Int) := by omega
        have jN : (0 : Int) ≤ (j : Int) := by omega
        clear hc hend hmore NI2
        rw [show ((j + 1 : Nat) : Int) = (j : Int) + 1 by omega] at kI kN ⊢
        go_wp2_with (at_builtin; go_must (refine out_append32 (W0 := w) (L := []) (zs := zs.take (j + 1)) rfl _ _ rfl rfl O3.out rfl R3.out NI.out HN.out ?_; intro V4 w4 ho4; rw [List.nil_append, F.out] at ho4; have O4 := Lib.hid ho4; clear ho4))
        go_ret
        exact ⟨_, rfl, O4.out⟩
theorem rbare_any (a : Option Addr) (n ca : Nat) (zs : List Int) (w : World) (hr : Row32 w a n zs) (hca : n ≤ ca) (hn : n ≤ 100000) (hnil : a = none → ca = 0) : Calls Try.prog 23 #[.slice a n ca] w (GivesL (valZ zs) w) := by
  refine (rbare_own a n ca zs w hr hca hn hnil).mono ?_
  rintro e w' ⟨V, rfl, ho⟩
  exact ho.gives

end Go.Proofs.Ythpdeaappchnpaa
