/-
  The calls of stage 7's laws (limb), in one shape: numbers in, numbers out.
-/
import Derived.Test.YthpdeaappchnpaaLnM
namespace Go.Proofs.Ythpdeaappchnpaa
open Go.RowKit
set_option linter.unusedVariables false

/-- A slice has the number v. -/
def Num (w : World) (v : Int) (a : Option Addr) (n c : Nat) : Prop := ∃ zs, Row32 w a n zs ∧ valZ zs = v ∧ n ≤ c ∧ (a = none → c = 0)
/-- A slice is the limbs of the number v, the last not 0. -/
def Norm (w : World) (v : Int) (a : Option Addr) (n c : Nat) : Prop := n = (limZ v).length ∧ Row32 w a n (limZ v) ∧ n ≤ c ∧ (a = none → c = 0)
theorem Num.below {w w' : World} {v : Int} {a : Option Addr} {n c : Nat} (h : Num w v a n c) (hb : Below w.heap.size w w') : Num w' v a n c := by
  obtain ⟨zs, hr, hv, hc, hn⟩ := h
  exact ⟨zs, hr.below hb, hv, hc, hn⟩
theorem Norm.below {w w' : World} {v : Int} {a : Option Addr} {n c : Nat} (h : Norm w v a n c) (hb : Below w.heap.size w w') : Norm w' v a n c := ⟨h.1, h.2.1.below hb, h.2.2⟩
theorem Norm.num {w : World} {v : Int} {a : Option Addr} {n c : Nat} (h : Norm w v a n c) (hv : 0 ≤ v) : Num w v a n c := ⟨limZ v, h.2.1, limZ_val hv, h.2.2⟩
theorem Num.nonneg {w : World} {v : Int} {a : Option Addr} {n c : Nat} (h : Num w v a n c) : 0 ≤ v ∧ v < 4294967296 ^ n := by
  obtain ⟨zs, hr, hv, _⟩ := h
  have := valZ_lt hr.2.1
  rw [hr.1, hv] at this
  exact ⟨by rw [← hv]; exact valZ_nonneg hr.2.1, this⟩

theorem limZ_le {v : Int} (h0 : 0 ≤ v) {k : Nat} (h : v < 4294967296 ^ k) : (limZ v).length ≤ k := by
  rcases Nat.lt_or_ge k (limZ v).length with hk | hk
  · obtain ⟨j, hj⟩ : ∃ j, (limZ v).length = j + 1 := ⟨(limZ v).length - 1, by omega⟩
    have e := valZ_parts (limZ v) j
    rw [limZ_val h0, valZ_drop (limZ v) j, show (limZ v).drop (j + 1) = [] from List.drop_of_length_le (by omega), valZ, Int.mul_zero, Int.add_zero] at e
    have t := take_lt (limZ_limbs v) j
    have r := (limZ_limbs v).at j
    have l := limZ_last hj
    have p := pow_pos32 j
    have m := pow_mono32 (show k ≤ j by omega)
    have := Int.mul_le_mul_of_nonneg_left (show (1 : Int) ≤ (limZ v)[j]?.getD 0 by omega) (Int.le_of_lt p)
    rw [Int.mul_one] at this
    omega
  · exact hk
theorem sum_len {x y : Int} {n m : Nat} (hx : 0 ≤ x ∧ x < 4294967296 ^ n) (hy : 0 ≤ y ∧ y < 4294967296 ^ m) : (limZ (x + y)).length ≤ n + m + 1 := by
  refine limZ_le (by omega) ?_
  have h1 := pow_mono32 (show n ≤ n + m by omega)
  have h2 := pow_mono32 (show m ≤ n + m by omega)
  rw [Int.pow_succ]
  omega
theorem mul_len {x y : Int} {n m : Nat} (hx : 0 ≤ x ∧ x < 4294967296 ^ n) (hy : 0 ≤ y ∧ y < 4294967296 ^ m) : (limZ (x * y)).length ≤ n + m := by
  refine limZ_le (Int.mul_nonneg hx.1 hy.1) ?_
  rw [Int.pow_add]
  have p := pow_pos32 n
  have q := pow_pos32 m
  have b1 : x * y ≤ 4294967296 ^ n * y := Int.mul_le_mul_of_nonneg_right (Int.le_of_lt hx.2) hy.1
  have b2 : 4294967296 ^ n * y < 4294967296 ^ n * 4294967296 ^ m := Int.mul_lt_mul_of_pos_left hy.2 p
  omega

/-- The limbs of v are handed back, k of them at the most. -/
def Res (v : Int) (k : Nat) (w : World) (e : Ending) (w' : World) : Prop := ∃ a n c, e = .returned (.slice a n c) ∧ Norm w' v a n c ∧ n ≤ k ∧ Below w.heap.size w w'
theorem GivesL.res {v : Int} {k : Nat} {w w' : World} {e : Ending} (h : GivesL v w e w') (hk : (limZ v).length ≤ k) : Res v k w e w' := by
  obtain ⟨a, c, rfl, hr, hn, hc, hb⟩ := h
  exact ⟨a, _, c, rfl, ⟨rfl, hr, hc, hn⟩, hk, hb⟩
/-- The difference, and whether there is one. -/
def ResD (x y : Int) (k : Nat) (w : World) (e : Ending) (w' : World) : Prop := ∃ a n c, e = .returned (.tuple #[.slice a n c, .bool (!decide (x < y))]) ∧ Norm w' (subI x y) a n c ∧ n ≤ k ∧ Below w.heap.size w w'
theorem subI_nonneg (x y : Int) : 0 ≤ subI x y := by unfold subI; split <;> omega
theorem sub_len {x y : Int} {n : Nat} (hx : 0 ≤ x ∧ x < 4294967296 ^ n) (hy : 0 ≤ y) : (limZ (subI x y)).length ≤ n := by
  refine limZ_le (subI_nonneg x y) ?_
  have := pow_pos32 n
  unfold subI
  split <;> omega
theorem GivesD.res {x y : Int} {k : Nat} {w w' : World} {e : Ending} (h : GivesD x y w e w') (hk : (limZ (subI x y)).length ≤ k) : ResD x y k w e w' := by
  obtain ⟨a, c, rfl, hr, hn, hc, hb⟩ := h
  exact ⟨a, _, c, rfl, ⟨rfl, hr, hc, hn⟩, hk, hb⟩

section
variable {w : World} {x y : Int} {a b : Option Addr} {n m ca cb : Nat}
theorem add_call (hx : Num w x a n ca) (hy : Num w y b m cb) (hn : n ≤ 40000) (hm : m ≤ 40000) : Calls Try.prog 17 #[.slice a n ca, .slice b m cb] w (Res (x + y) (n + m + 1) w) := by
  have l := sum_len hx.nonneg hy.nonneg
  obtain ⟨xs, hr, rfl, _, _⟩ := hx
  obtain ⟨ys, hs, rfl, _, _⟩ := hy
  exact (add_any a b n m ca cb xs ys w hr hs hn hm).mono fun e w' h => h.res l
theorem mul_call (hx : Num w x a n ca) (hy : Num w y b m cb) (hn : n ≤ 40000) (hm : m ≤ 40000) : Calls Try.prog 18 #[.slice a n ca, .slice b m cb] w (Res (x * y) (n + m) w) := by
  have l := mul_len hx.nonneg hy.nonneg
  obtain ⟨xs, hr, rfl, hc, hi⟩ := hx
  obtain ⟨ys, hs, rfl, hd, hj⟩ := hy
  exact (mul_any a b n m ca cb xs ys w hr hs hn hm hc hd hi hj).mono fun e w' h => h.res l
theorem rmul_call (hx : Num w x a n ca) (hy : Num w y b m cb) (hn : n ≤ 40000) (hm : m ≤ 40000) : Calls Try.prog 26 #[.slice a n ca, .slice b m cb] w (Res (x * y) (n + m) w) := by
  have l := mul_len hx.nonneg hy.nonneg
  obtain ⟨xs, hr, rfl, _, _⟩ := hx
  obtain ⟨ys, hs, rfl, _, _⟩ := hy
  exact (rmul_any a b n m ca cb xs ys w hr hs hn hm).mono fun e w' h => h.res l
theorem cmp_call (hx : Num w x a n ca) (hy : Num w y b m cb) (hn : n ≤ 40000) (hm : m ≤ 40000) : Calls Try.prog 20 #[.slice a n ca, .slice b m cb] w fun e w' => e = .returned (.int .i64 (cmpI x y)) ∧ Below w.heap.size w w' := by
  obtain ⟨xs, hr, rfl, hc, hi⟩ := hx
  obtain ⟨ys, hs, rfl, hd, hj⟩ := hy
  refine (cmp_any a b n m ca cb xs ys w hr hs (by omega) (by omega) hc hd hi hj).mono ?_
  rintro e w' ⟨he, q, hw⟩
  exact ⟨he, by rw [hw]; exact drewN_below w q⟩
theorem len_call (hx : Num w x a n ca) (hn : n ≤ 40000) : Calls Try.prog 16 #[.slice a n ca] w fun e w' => e = .returned (.int .i64 (bitZ x)) ∧ Below w.heap.size w w' := by
  obtain ⟨xs, hr, rfl, hc, hi⟩ := hx
  refine (len_any a n ca xs w hr hc (by omega) hi).mono ?_
  rintro e w' ⟨he, hw⟩
  exact ⟨he, by rw [hw]; exact Below.refl _ _⟩
theorem rlen_call (hx : Num w x a n ca) (hn : n ≤ 40000) : Calls Try.prog 27 #[.slice a n ca] w fun e w' => e = .returned (.int .i64 (bitZ x)) ∧ Below w.heap.size w w' := by
  obtain ⟨xs, hr, rfl, hc, hi⟩ := hx
  exact rlen_any a n ca xs w hr hc (by omega) hi
theorem bare_call (hx : Num w x a n ca) (hn : n ≤ 40000) : Calls Try.prog 19 #[.slice a n ca] w (Res x n w) := by
  have l := limZ_le hx.nonneg.1 hx.nonneg.2
  obtain ⟨xs, hr, rfl, hc, hi⟩ := hx
  exact (bare_any a n ca xs w hr (by omega) hi).mono fun e w' h => h.res l
theorem rbare_call (hx : Num w x a n ca) (hn : n ≤ 40000) : Calls Try.prog 23 #[.slice a n ca] w (Res x n w) := by
  have l := limZ_le hx.nonneg.1 hx.nonneg.2
  obtain ⟨xs, hr, rfl, hc, hi⟩ := hx
  exact (rbare_any a n ca xs w hr hc (by omega) hi).mono fun e w' h => h.res l
theorem beV_small {zs : List Int} (h : ∀ x ∈ zs, 0 ≤ x ∧ x ≤ 255) : (limZ (beV zs)).length ≤ zs.length := by
  refine limZ_le (beV_nonneg h) (Int.lt_of_lt_of_le (beV_lt h) ?_)
  have : (4294967296 : Int) ^ zs.length = 256 ^ (4 * zs.length) := by rw [Int.pow_mul]; rfl
  rw [this, Nat.mul_comm, Nat.mul_comm zs.length 4, show 4 * zs.length = zs.length + 3 * zs.length by omega, Int.pow_add]
  have p : (0 : Int) < 256 ^ zs.length := Int.pow_pos (by decide)
  have q : (0 : Int) < 256 ^ (3 * zs.length) := Int.pow_pos (by decide)
  have := Int.mul_le_mul_of_nonneg_left (show (1 : Int) ≤ 256 ^ (3 * zs.length) by omega) (Int.le_of_lt p)
  omega
/-- The bytes of v are handed back. -/
def ResB (v : Int) (k : Nat) (w : World) (e : Ending) (w' : World) : Prop := ∃ a n c, e = .returned (.slice a n c) ∧ n = (byZ v).length ∧ Row w' a n (byZ v) ∧ n ≤ k ∧ Below w.heap.size w w'
theorem GivesB.res {v : Int} {k : Nat} {w' : World} {e : Ending} (h : GivesB v w e w') (hk : (byZ v).length ≤ k) : ResB v k w e w' := by
  obtain ⟨V, rfl, ho⟩ := h
  obtain ⟨a, c, rfl, hr⟩ := ho.row (byZ_byte v)
  exact ⟨a, _, c, rfl, rfl, hr, hk, ho.2⟩
theorem same_call {v : Int} (hx : Norm w v a n ca) (hy : Norm w v b m cb) (hn : n ≤ 1000000) : Calls Try.prog 11 #[.slice a n ca, .slice b m cb] w fun e w' => e = .returned (.bool true) ∧ Below w.heap.size w w' := by
  obtain rfl : n = m := by rw [hx.1, hy.1]
  refine (same_any a b n ca cb (limZ v) w hx.2.1 hy.2.1 hn).mono ?_
  rintro e w' ⟨he, q, hw⟩
  exact ⟨he, by rw [hw]; exact drewN_below w q⟩
end

end Go.Proofs.Ythpdeaappchnpaa
