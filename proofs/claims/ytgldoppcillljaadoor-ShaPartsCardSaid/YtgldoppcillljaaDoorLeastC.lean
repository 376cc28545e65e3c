/-
  What octet.Least and the document's Least answer, for stage 1 (octet): both give the fewest bytes of a number, in new memory, and change nothing that was there.
-/
import Derived.Test.YtgldoppcillljaaDoorBytesC
namespace Go.Proofs.YtgldoppcillljaaDoor
open Go.RowKit

/-- What a call of Bytes leaves where it goes well: m bytes. -/
def GivesM (w : World) (m : Nat) (zs : List Int) (e : Ending) (w' : World) : Prop :=
  ∃ a c, e = .returned (.tuple #[.slice a m c, .bool true]) ∧ Row w' a m zs ∧ Below w.heap.size w w' ∧ m ≤ c
def GivesNone (w : World) (e : Ending) (w' : World) : Prop :=
  ∃ a c, e = .returned (.tuple #[.slice a 0 c, .bool false]) ∧ Row w' a 0 [] ∧ Below w.heap.size w w'

theorem gives_ok {w w' : World} {n : Int} {m : Nat} {e : Ending} (hm : m ≤ 64) (hz : n / 256 ^ m = 0) (h : GivesBytes w (bytesZ n m).1 (bytesZ n m).2 e w') : GivesM w m (beZ m n) e w' := by
  rw [bytesZ_in n m hm, if_pos hz] at h
  obtain ⟨a, c, he, hr, hb, hc⟩ := h
  rw [beZ_length] at he hr hc
  exact ⟨a, c, he, hr, hb, hc⟩

theorem gives_no {w w' : World} {n : Int} {m : Nat} {e : Ending} (hm : m ≤ 64) (hz : ¬ n / 256 ^ m = 0) (h : GivesBytes w (bytesZ n m).1 (bytesZ n m).2 e w') : GivesNone w e w' := by
  rw [bytesZ_in n m hm, if_neg hz] at h
  obtain ⟨a, c, he, hr, hb, _⟩ := h
  exact ⟨a, c, he, hr, hb⟩

theorem bytes_ok (n many : Int) (m : Nat) (w : World) (hmany : many = m) (h0 : 0 ≤ n) (h1 : n ≤ 18446744073709551615) (hm : m ≤ 64) (hz : n / 256 ^ m = 0) :
    Calls Tryd.prog 32 #[.int .u64 n, .int .i64 many] w (GivesM w m (beZ m n)) := by
  subst hmany
  exact (bytes_any n m w h0 h1).mono fun _ _ h => gives_ok hm hz h

theorem rbytes_ok (n many : Int) (m : Nat) (w : World) (hmany : many = m) (h0 : 0 ≤ n) (h1 : n ≤ 18446744073709551615) (hm : m ≤ 64) (hz : n / 256 ^ m = 0) :
    Calls Tryd.prog 24 #[.int .u64 n, .int .i64 many] w (GivesM w m (beZ m n)) := by
  subst hmany
  exact (rbytes_any n m w h0 h1).mono fun _ _ h => gives_ok hm hz h

theorem rbytes_no (n many : Int) (m : Nat) (w : World) (hmany : many = m) (h0 : 0 ≤ n) (h1 : n ≤ 18446744073709551615) (hm : m ≤ 64) (hz : ¬ n / 256 ^ m = 0) :
    Calls Tryd.prog 24 #[.int .u64 n, .int .i64 many] w (GivesNone w) := by
  subst hmany
  exact (rbytes_any n m w h0 h1).mono fun _ _ h => gives_no hm hz h

/-- m is the fewest bytes of n, but at least one. -/
def IsLeast (n : Int) (m : Nat) : Prop := 1 ≤ m ∧ m ≤ 8 ∧ n / 256 ^ m = 0 ∧ (m = 1 ∨ ¬ n / 256 ^ (m - 1) = 0)

theorem div_mono {n : Int} {i j : Nat} (h0 : 0 ≤ n) (hij : i ≤ j) (h : n / 256 ^ i = 0) : n / 256 ^ j = 0 := by
  have hi : (0 : Int) < 256 ^ i := Int.pow_pos (by decide)
  have hlt : n < 256 ^ i := by
    rcases Int.lt_or_le n (256 ^ i) with hl | hl
    · exact hl
    · have := (Int.le_ediv_iff_mul_le hi (a := 1) (b := n)).2 (by omega)
      omega
  have hle : (256 : Int) ^ i ≤ 256 ^ j := by
    have := Nat.pow_le_pow_right (n := 256) (by decide) hij
    rw [show (256 : Int) = ((256 : Nat) : Int) from rfl, ← Int.natCast_pow, ← Int.natCast_pow]
    exact Int.ofNat_le.2 this
  exact Int.ediv_eq_zero_of_lt h0 (by omega)

theorem div_eight {n : Int} {j : Nat} (h0 : 0 ≤ n) (h1 : n ≤ 18446744073709551615) (hj : 8 ≤ j) : n / 256 ^ j = 0 :=
  div_mono h0 hj (Int.ediv_eq_zero_of_lt h0 (by omega))

theorem IsLeast.eq {n : Int} {m k : Nat} (h0 : 0 ≤ n) (h : IsLeast n m) (h' : IsLeast n k) : m = k := by
  obtain ⟨a1, _, a3, a4⟩ := h
  obtain ⟨b1, _, b3, b4⟩ := h'
  rcases Nat.lt_trichotomy m k with hl | hl | hl
  · rcases b4 with b4 | b4
    · omega
    · exact absurd (div_mono h0 (show m ≤ k - 1 by omega) a3) b4
  · exact hl
  · rcases a4 with a4 | a4
    · omega
    · exact absurd (div_mono h0 (show k ≤ m - 1 by omega) b3) a4

def GivesLeast (w : World) (n : Int) (e : Ending) (w' : World) : Prop :=
  ∃ m a c, IsLeast n m ∧ e = .returned (.slice a m c) ∧ Row w' a m (beZ m n) ∧ Below w.heap.size w w' ∧ m ≤ c

end Go.Proofs.YtgldoppcillljaaDoor
