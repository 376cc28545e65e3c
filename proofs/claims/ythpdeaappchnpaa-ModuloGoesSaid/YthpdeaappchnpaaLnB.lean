/-
  What bits.Add32 and bits.Sub32 answer, in one shape, for stage 7 (limb).
-/
import Derived.Test.YthpdeaappchnpaaLnA
import Derived.Laws.BitsLemmas
namespace Go.Proofs.Ythpdeaappchnpaa
open Go.RowKit
set_option linter.unusedVariables false

theorem wraps_u32 (n : Int) (h0 : 0 ≤ n) (h1 : n < 2 ^ 32) : IntKind.u32.wrap n = n := by rw [IntKind.wrap_u32]; omega
theorem nand (x y : Nat) (hx : x < 4294967296) (hy : y < 4294967296) : bits .and .u32 (x : Int) (y : Int) = ((x &&& y : Nat) : Int) := (bits_nat .u32 32 (by decide) wraps_u32 x y (by omega) (by omega)).1
theorem nor (x y : Nat) (hx : x < 4294967296) (hy : y < 4294967296) : bits .or .u32 (x : Int) (y : Int) = ((x ||| y : Nat) : Int) := (bits_nat .u32 32 (by decide) wraps_u32 x y (by omega) (by omega)).2
theorem nxor (x y : Nat) (hx : x < 4294967296) (hy : y < 4294967296) : bits .xor .u32 (x : Int) (y : Int) = ((x ^^^ y : Nat) : Int) := by
  have h1 : x % 2 ^ IntKind.u32.bits = x := Nat.mod_eq_of_lt hx
  have h2 : y % 2 ^ IntKind.u32.bits = y := Nat.mod_eq_of_lt hy
  simp only [bits, BitVec.ofInt_natCast, BitVec.toNat_xor, BitVec.toNat_ofNat, h1, h2]
  exact wraps_u32 _ (Int.natCast_nonneg _) (by exact_mod_cast Nat.xor_lt_two_pow (n := 32) hx hy)
theorem nnot (x : Nat) (hx : x < 4294967296) : bits .xor .u32 IntKind.u32.max (x : Int) = ((4294967295 - x : Nat) : Int) := by
  have e := nxor 4294967295 x (by omega) hx
  rw [show IntKind.u32.max = ((4294967295 : Nat) : Int) by decide, e]
  congr 1
  have h := congrArg BitVec.toNat (BitVec.xor_allOnes (x := BitVec.ofNat 32 x))
  rw [BitVec.toNat_xor, BitVec.toNat_not, BitVec.toNat_allOnes, BitVec.toNat_ofNat, Nat.mod_eq_of_lt hx] at h
  rw [Nat.xor_comm]
  exact h

theorem top_sub (x y c : Nat) (hx : x < 4294967296) (hy : y < 4294967296) (hc : c ≤ 1) (d : Nat) (hd : ((d : Nat) : Int) = ((x : Int) - y - c) % 4294967296) :
    ((((4294967295 - x) &&& y) ||| ((4294967295 - (x ^^^ y)) &&& d)) >>> 31 : Nat) = if x < y + c then 1 else 0 := by
  have dl : d < 4294967296 := by omega
  have xl : x ^^^ y < 4294967296 := Nat.xor_lt_two_pow (n := 32) hx hy
  have e1 : (x ^^^ y) / 2147483648 = (x / 2147483648) ^^^ (y / 2147483648) := by
    have := @Nat.shiftRight_xor_distrib 31 x y
    simpa [Nat.shiftRight_eq_div_pow] using this
  rw [Nat.shiftRight_or_distrib, Nat.shiftRight_and_distrib, Nat.shiftRight_and_distrib]
  simp only [Nat.shiftRight_eq_div_pow]
  rw [show (2 : Nat) ^ 31 = 2147483648 by decide]
  have n1 : (4294967295 - x) / 2147483648 = 1 - x / 2147483648 := by omega
  have n2 : (4294967295 - (x ^^^ y)) / 2147483648 = 1 - (x / 2147483648 ^^^ y / 2147483648) := by rw [← e1]; omega
  rw [n1, n2]
  have hX : x / 2147483648 = 0 ∨ x / 2147483648 = 1 := by omega
  have hY : y / 2147483648 = 0 ∨ y / 2147483648 = 1 := by omega
  have hD : d / 2147483648 = 0 ∨ d / 2147483648 = 1 := by omega
  clear n1 n2 e1 xl
  rcases hX with X | X <;> rcases hY with Y | Y <;> rcases hD with D | D <;> rw [X, Y, D] <;> simp <;> omega

/-- A limb's step: what it hands back, and what goes over; s is 1 for a sum, -1 for a difference. -/
def Steps (F : FuncId) (s : Int) : Prop := ∀ (x y c : Int) (w : World), 0 ≤ x → x ≤ 4294967295 → 0 ≤ y → y ≤ 4294967295 → 0 ≤ c → c ≤ 1 →
  Calls Try.prog F #[.int .u32 x, .int .u32 y, .int .u32 c] w fun e w' => w' = w ∧ ∃ r q : Int, e = .returned (.tuple #[.int .u32 r, .int .u32 q]) ∧ 0 ≤ r ∧ r ≤ 4294967295 ∧ 0 ≤ q ∧ q ≤ 1 ∧ r + s * (4294967296 * q) = x + s * (y + c)

theorem add32_steps : Steps 31 1 := by
  intro x y c w x0 x1 y0 y1 c0 c1
  have k1 : IntKind.u64.wrap x = x := IntWalk.u64_in _ (by omega)
  have k2 : IntKind.u64.wrap y = y := IntWalk.u64_in _ (by omega)
  have k3 : IntKind.u64.wrap c = c := IntWalk.u64_in _ (by omega)
  have k4 : IntKind.u64.wrap (x + y) = x + y := IntWalk.u64_in _ (by omega)
  have k5 : IntKind.u64.wrap (x + y + c) = x + y + c := IntWalk.u64_in _ (by omega)
  have k6 : IntKind.u32.wrap (x + y + c) = (x + y + c) % 4294967296 := rfl
  have k7 : IntKind.u64.wrap ((x + y + c) / 4294967296) = (x + y + c) / 4294967296 := IntWalk.u64_in _ (by omega)
  have k8 : IntKind.u32.wrap ((x + y + c) / 4294967296) = (x + y + c) / 4294967296 := IntWalk.u32_in _ (by omega)
  go_enter Try.func31, Try.ntmps31
  go_wp2_with fail
  go_ret2
  exact ⟨rfl, _, _, rfl, by omega, by omega, by omega, by omega, by omega⟩

theorem sub32_steps : Steps 46 (-1) := by
  intro x y c w x0 x1 y0 y1 c0 c1
  have k1 : IntKind.u32.wrap (x - y) = (x - y) % 4294967296 := rfl
  have k2 : IntKind.u32.wrap ((x - y) % 4294967296 - c) = (x - y - c) % 4294967296 := by
    show ((x - y) % 4294967296 - c) % 4294967296 = _
    omega
  obtain ⟨d, hd⟩ : ∃ d : Nat, (d : Int) = (x - y - c) % 4294967296 := ⟨((x - y - c) % 4294967296).toNat, by omega⟩
  rw [← hd] at k2
  obtain ⟨X, rfl⟩ : ∃ X : Nat, x = (X : Int) := ⟨x.toNat, by omega⟩
  obtain ⟨Y, rfl⟩ : ∃ Y : Nat, y = (Y : Int) := ⟨y.toNat, by omega⟩
  obtain ⟨C, rfl⟩ : ∃ C : Nat, c = (C : Int) := ⟨c.toNat, by omega⟩
  have dl : d < 4294967296 := by omega
  have T := top_sub X Y C (by omega) (by omega) (by omega) d hd
  have xl : X ^^^ Y < 4294967296 := Nat.xor_lt_two_pow (n := 32) (by omega) (by omega)
  have b1 := nnot X (by omega)
  have b2 := nxor X Y (by omega) (by omega)
  have b3 := nnot (X ^^^ Y) (by omega)
  have b4 := nand (4294967295 - X) Y (by omega) (by omega)
  have b5 := nand (4294967295 - (X ^^^ Y)) d (by omega) (by omega)
  have l4 : (4294967295 - X) &&& Y < 4294967296 := Nat.lt_of_le_of_lt Nat.and_le_right (by omega)
  have l5 : (4294967295 - (X ^^^ Y)) &&& d < 4294967296 := Nat.lt_of_le_of_lt Nat.and_le_right dl
  have b6 := nor _ _ l4 l5
  rw [Nat.shiftRight_eq_div_pow, show (2 : Nat) ^ 31 = 2147483648 by decide] at T
  have T2 : ((((4294967295 - X) &&& Y ||| (4294967295 - (X ^^^ Y)) &&& d : Nat) : Int)) / 2147483648 = if X < Y + C then 1 else 0 := by
    have := congrArg (fun n : Nat => (n : Int)) T
    rw [Int.natCast_ediv] at this
    rw [show ((2147483648 : Nat) : Int) = 2147483648 by rfl] at this
    rw [this]
    split <;> rfl
  generalize ((4294967295 - X) &&& Y ||| (4294967295 - (X ^^^ Y)) &&& d : Nat) = u at *
  have k3 : IntKind.u32.wrap ((u : Int) / 2147483648) = (u : Int) / 2147483648 := by
    rw [T2]
    split <;> rfl
  have HD := Lib.hid hd
  have HT := Lib.hid T2
  clear hd T T2 xl dl
  go_enter Try.func46, Try.ntmps46
  go_wp2_with fail
  go_ret2
  have hd := HD.out
  have hT := HT.out
  have hq : (u : Int) / 2147483648 = 0 ∧ Y + C ≤ X ∨ (u : Int) / 2147483648 = 1 ∧ X < Y + C := by
    rw [hT]
    split
    · exact .inr ⟨rfl, by assumption⟩
    · exact .inl ⟨rfl, by omega⟩
  exact ⟨rfl, _, _, rfl, by omega, by omega, by omega, by omega, by omega⟩

end Go.Proofs.Ythpdeaappchnpaa
