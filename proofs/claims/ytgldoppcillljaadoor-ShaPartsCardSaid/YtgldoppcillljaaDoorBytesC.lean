/-
  What octet.Bytes, octet.Least and the document's Bytes, Least answer, for stage 1 (octet): both give the same bytes of a number, in new memory, and change nothing that was there.
-/
import Derived.Test.YtgldoppcillljaaDoorRows
import Derived.Test.YtgldoppcillljaaDoorMath
import Derived.WalkKit
import Derived.WalkSpells
import Derived.WalkLawsBesides
import Derived.Deep.QuietTactic
import Derived.BigQuiet
import Derived.Lib.Hide
namespace Go.Proofs.YtgldoppcillljaaDoor
open Go.RowKit

/-- The k big-endian bytes of a number, modulo 256^k. -/
def beZ : Nat → Int → List Int
  | 0, _ => []
  | k + 1, n => n / 256 ^ k % 256 :: beZ k n

theorem beZ_length (k : Nat) (n : Int) : (beZ k n).length = k := by
  induction k with
  | zero => rfl
  | succ k ih => simp [beZ, ih]

theorem beZ_byte (k : Nat) (n : Int) : ∀ x ∈ beZ k n, 0 ≤ x ∧ x ≤ 255 := by
  induction k with
  | zero => simp [beZ]
  | succ k ih =>
    intro x hx
    simp only [beZ, List.mem_cons] at hx
    rcases hx with rfl | hx
    · omega
    · exact ih x hx

/-- What stands in a row of m bytes when the last k are laid. -/
def layZ (m k : Nat) (n : Int) : List Int := List.replicate (m - k) 0 ++ beZ k n

theorem layZ_length {m k : Nat} (n : Int) (h : k ≤ m) : (layZ m k n).length = m := by
  simp [layZ, beZ_length]; omega

theorem layZ_set {m k : Nat} {n : Int} (h : k < m) : (layZ m k n).set (m - 1 - k) (n / 256 ^ k % 256) = layZ m (k + 1) n := by
  unfold layZ
  have e1 : m - k = (m - 1 - k) + 1 := by omega
  have e2 : m - (k + 1) = m - 1 - k := by omega
  rw [e1, e2, List.replicate_succ', List.append_assoc, List.set_append_right _ _ (by simp)]
  simp [beZ]

theorem lay_vals {m k : Nat} {n u : Int} (h : k < m) (hu : u = n / 256 ^ k % 256) :
    ((layZ m k n).map (Value.int .u8)).set (m - 1 - k) (.int .u8 u) = (layZ m (k + 1) n).map (Value.int .u8) := by
  rw [← layZ_set h, List.map_set, hu]

theorem div_step (n : Int) (k : Nat) : n / 256 ^ k / 256 = n / 256 ^ (k + 1) := by
  rw [Int.ediv_ediv_of_nonneg (Int.le_of_lt (Int.pow_pos (by decide))), Int.pow_succ]

theorem Tryd.info5 : (Tryd.prog.info? 5).map (fun i => (i.zero, i.size, i.bytes)) = some (some (.int .u8 0), 1, 1) := by kernel_rfl

/-- Bytes' answer. -/
def bytesZ (n many : Int) : List Int × Bool :=
  if 0 ≤ many ∧ many ≤ 64 then (if n / 256 ^ many.toNat = 0 then (beZ many.toNat n, true) else ([], false)) else ([], false)

/-- What a call of Bytes or Least leaves: a slice that reads as these bytes, in a world that has turned nothing that was there. -/
def GivesBytes (w : World) (zs : List Int) (ok : Bool) (e : Ending) (w' : World) : Prop :=
  ∃ a c, e = .returned (.tuple #[.slice a zs.length c, .bool ok]) ∧ Row w' a zs.length zs ∧ Below w.heap.size w w' ∧ zs.length ≤ c

/-- The world in a round of Bytes: the row that was made bears the last k bytes; s is what is left of the number. -/
def Laid (w : World) (m k : Nat) (n s : Int) (wr : World) : Prop :=
  wr.ownsRow w.heap.size 5 1 (.slice (some ⟨w.heap.size, 0, none⟩) m m) m ((layZ m k n).map (Value.int .u8)) ∧ Below w.heap.size w wr ∧ s = n / 256 ^ k

theorem bytes_start {w w1 : World} {m : Nat} {n : Int} (hown : w1.ownsRow w.heap.size 5 1 (.slice (some ⟨w.heap.size, 0, none⟩) m m) m (madeCells #[Value.int .u8 0] m).toList) (hg : w.grownBy w1 none) :
    Laid w m 0 n n w1 := by
  refine ⟨?_, (Below.refl _ _).grown hg (Nat.le_refl _) (fun k h => by cases h), by simp⟩
  have e : (madeCells #[Value.int .u8 0] m).toList = (layZ m 0 n).map (Value.int .u8) := by
    rw [toList_madeCells_one]
    simp [layZ, beZ]
  rw [← e]
  exact hown

theorem Laid.step {w wr : World} {m k : Nat} {n s : Int} (h : Laid w m k n s wr) (hk : k < m) :
    (∃ v, wr.cell? ⟨w.heap.size, m - 1 - k, none⟩ = some v) ∧ wr.frozen? ⟨w.heap.size, m - 1 - k, none⟩ = false ∧
    ∀ u, u = s % 256 → Laid w m (k + 1) n (s / 256) (wr.setCell ⟨w.heap.size, m - 1 - k, none⟩ (.int .u8 u)) := by
  obtain ⟨ho, hb, rfl⟩ := h
  have hl := layZ_length (m := m) (k := k) n (by omega)
  refine ⟨⟨_, (ho.cellAt (m - 1 - k) (by omega)).trans (List.getElem?_eq_getElem (by simp [hl]; omega))⟩, ho.frozenAt _, fun u hu => ⟨?_, hb.setCell (Nat.le_refl _) _, div_step n k⟩⟩
  have := (ho.stored (m - 1 - k) (.int .u8 u)).1
  rw [lay_vals hk hu] at this
  exact this

theorem bytesZ_in (n : Int) (m : Nat) (hm : m ≤ 64) : bytesZ n m = if n / 256 ^ m = 0 then (beZ m n, true) else ([], false) := by
  rw [bytesZ, if_pos (by omega), Int.toNat_natCast]

theorem bytes_end {w wr : World} {m k : Nat} {n : Int} (hm : m ≤ 64) (hk : k = m) (h : Laid w m k n 0 wr) :
    GivesBytes w (bytesZ n m).1 (bytesZ n m).2 (.returned (.tuple #[.slice (some ⟨w.heap.size, 0, none⟩) m m, .bool true])) wr := by
  subst hk
  obtain ⟨ho, hb, hs⟩ := h
  rw [bytesZ_in n k hm, if_pos hs.symm]
  have e : layZ k k n = beZ k n := by simp [layZ]
  rw [e] at ho
  refine ⟨some ⟨w.heap.size, 0, none⟩, k, ?_, ?_, hb, ?_⟩
  · rw [beZ_length]
  · rw [beZ_length]
    exact Row.of_own ho (beZ_byte k n)
  · rw [beZ_length]
    exact Nat.le_refl _

theorem bytes_none {w wr : World} {m k : Nat} {n s : Int} (hm : m ≤ 64) (hk : k = m) (hs : ¬ s = 0) (h : Laid w m k n s wr) :
    GivesBytes w (bytesZ n m).1 (bytesZ n m).2 (.returned (.tuple #[.slice none 0 0, .bool false])) wr := by
  subst hk
  obtain ⟨_, hb, rfl⟩ := h
  rw [bytesZ_in n k hm, if_neg hs]
  exact ⟨none, 0, rfl, Row.nil _ _, hb, Nat.le_refl _⟩

set_option maxHeartbeats 400000 in
theorem bytes_in (n : Int) (m : Nat) (w : World) (h0 : 0 ≤ n) (h1 : n ≤ 18446744073709551615) (hm : m ≤ 64) :
    Calls Tryd.prog 32 #[.int .u64 n, .int .i64 (m : Int)] w (GivesBytes w (bytesZ n m).1 (bytesZ n m).2) := by
  obtain ⟨i0, hi, hz0, hz1, hz2⟩ := info_parts Tryd.info5
  have d1 : decide ((m : Int) < 0) = false := by simp
  have d2 : decide (64 < (m : Int)) = false := by simp; omega
  go_enter Tryd.func32, Tryd.ntmps32
  go_wp2_with (at_make; refine wpList_make_full _ rfl _ _ 22 rfl w.heap.size 5 i0 (.int .u8 0) 1 Tryd.underlying22 hi hz0 hz1 _ _ _ _ m rfl rfl rfl rfl ?b1 ?b2 ?b3 ?_)
  case b1 => rw [hz2]; omega
  case b2 => unfold maxLen; omega
  case b3 => exact Nat.le_refl _
  intro w1 hown0 hgrow
  have HB := Lib.hid (bytes_start (n := n) hown0 hgrow)
  clear hown0 hgrow hz2 hz1 hz0 hi
  go_wp2
  go_loopw [0, 17] (fun t i wr => ∃ k : Nat, ∃ s : Int, k ≤ m ∧ 0 ≤ s ∧ s ≤ 18446744073709551615 ∧ i = .int .i64 k ∧ t = .int .u64 s ∧ Laid w m k n s wr) (fun _ i _ => m - (intOf i).toNat)
  case atStart => exact ⟨0, n, Nat.zero_le _, h0, h1, rfl, rfl, by simpa using HB.out⟩
  case round =>
    obtain ⟨k, s, hk, hs0, hs1, rfl, rfl, hl⟩ := hrel
    by_cases hlt : k < m
    · obtain ⟨⟨v, hc⟩, hf, hnext⟩ := hl.step hlt
      have HN := Lib.hid hnext
      clear hl hnext
      go_wp2
      go_roundw
      case rel => exact ⟨k + 1, _, by omega, by omega, by omega, by go_num, rfl, HN.out _ (by omega)⟩
      case measure => simp [intOf]; omega
    · have HL := Lib.hid hl
      clear hl
      by_cases hs : s = 0
      · subst hs
        go_wp2
        go_ret2
        exact bytes_end hm (by omega) HL.out
      · have hs' : (s != 0) = true := by simpa using hs
        go_wp2
        go_ret2
        exact bytes_none hm (by omega) hs HL.out

set_option maxHeartbeats 400000 in
theorem rbytes_in (n : Int) (m : Nat) (w : World) (h0 : 0 ≤ n) (h1 : n ≤ 18446744073709551615) (hm : m ≤ 64) :
    Calls Tryd.prog 24 #[.int .u64 n, .int .i64 (m : Int)] w (GivesBytes w (bytesZ n m).1 (bytesZ n m).2) := by
  obtain ⟨i0, hi, hz0, hz1, hz2⟩ := info_parts Tryd.info5
  have d1 : decide ((m : Int) < 0) = false := by simp
  have d2 : decide (64 < (m : Int)) = false := by simp; omega
  go_enter Tryd.func24, Tryd.ntmps24
  go_wp2_with (at_make; refine wpList_make_full _ rfl _ _ 22 rfl w.heap.size 5 i0 (.int .u8 0) 1 Tryd.underlying22 hi hz0 hz1 _ _ _ _ m rfl rfl rfl rfl ?b1 ?b2 ?b3 ?_)
  case b1 => rw [hz2]; omega
  case b2 => unfold maxLen; omega
  case b3 => exact Nat.le_refl _
  intro w1 hown0 hgrow
  have HB := Lib.hid (bytes_start (n := n) hown0 hgrow)
  clear hown0 hgrow hz2 hz1 hz0 hi
  go_wp2
  go_loopw [0, 7] (fun t i wr => ∃ k : Nat, ∃ s : Int, k ≤ m ∧ 0 ≤ s ∧ s ≤ 18446744073709551615 ∧ i = .int .i64 ((m : Int) - 1 - k) ∧ t = .int .u64 s ∧ Laid w m k n s wr) (fun _ i _ => (intOf i + 1).toNat)
  case atStart => exact ⟨0, n, Nat.zero_le _, h0, h1, by simp, rfl, by simpa using HB.out⟩
  case round =>
    obtain ⟨k, s, hk, hs0, hs1, rfl, rfl, hl⟩ := hrel
    by_cases hlt : k < m
    · obtain ⟨⟨v, hc⟩, hf, hnext⟩ := hl.step hlt
      have HN := Lib.hid hnext
      clear hl hnext
      have t1 : (0 : Int) ≤ (m : Int) - 1 - k := by omega
      go_wp2
      go_roundw
      case rel => exact ⟨k + 1, _, by omega, by omega, by omega, by go_num, rfl, HN.out _ (by omega)⟩
      case measure => simp [intOf]; omega
    · have HL := Lib.hid hl
      clear hl
      have t1 : ¬ (0 : Int) ≤ (m : Int) - 1 - k := by omega
      by_cases hs : s = 0
      · subst hs
        go_wp2
        go_ret2
        exact bytes_end hm (by omega) HL.out
      · have hs' : 0 < s := by omega
        go_wp2
        go_ret2
        exact bytes_none hm (by omega) hs HL.out

theorem bytesZ_out {n many : Int} (h : many < 0 ∨ 64 < many) : bytesZ n many = ([], false) := by
  rw [bytesZ, if_neg (by omega)]

set_option maxHeartbeats 400000 in
theorem bytes_out (n many : Int) (w : World) (h : many < 0 ∨ 64 < many) :
    Calls Tryd.prog 32 #[.int .u64 n, .int .i64 many] w (GivesBytes w (bytesZ n many).1 (bytesZ n many).2) := by
  rw [bytesZ_out h]
  rcases h with h | h
  · go_enter Tryd.func32, Tryd.ntmps32
    go_wp2
    go_ret2
    exact ⟨none, 0, rfl, Row.nil _ _, Below.refl _ _, Nat.le_refl _⟩
  · have h' : ¬ many < 0 := by omega
    go_enter Tryd.func32, Tryd.ntmps32
    go_wp2
    go_ret2
    exact ⟨none, 0, rfl, Row.nil _ _, Below.refl _ _, Nat.le_refl _⟩

set_option maxHeartbeats 400000 in
theorem rbytes_out (n many : Int) (w : World) (h : many < 0 ∨ 64 < many) :
    Calls Tryd.prog 24 #[.int .u64 n, .int .i64 many] w (GivesBytes w (bytesZ n many).1 (bytesZ n many).2) := by
  rw [bytesZ_out h]
  rcases h with h | h
  · go_enter Tryd.func24, Tryd.ntmps24
    go_wp2
    go_ret2
    exact ⟨none, 0, rfl, Row.nil _ _, Below.refl _ _, Nat.le_refl _⟩
  · have h' : ¬ many < 0 := by omega
    go_enter Tryd.func24, Tryd.ntmps24
    go_wp2
    go_ret2
    exact ⟨none, 0, rfl, Row.nil _ _, Below.refl _ _, Nat.le_refl _⟩

theorem bytes_any (n many : Int) (w : World) (h0 : 0 ≤ n) (h1 : n ≤ 18446744073709551615) :
    Calls Tryd.prog 32 #[.int .u64 n, .int .i64 many] w (GivesBytes w (bytesZ n many).1 (bytesZ n many).2) := by
  by_cases h : many < 0 ∨ 64 < many
  · exact bytes_out n many w h
  · obtain ⟨m, rfl⟩ := Int.eq_ofNat_of_zero_le (show 0 ≤ many by omega)
    exact bytes_in n m w h0 h1 (by omega)

theorem rbytes_any (n many : Int) (w : World) (h0 : 0 ≤ n) (h1 : n ≤ 18446744073709551615) :
    Calls Tryd.prog 24 #[.int .u64 n, .int .i64 many] w (GivesBytes w (bytesZ n many).1 (bytesZ n many).2) := by
  by_cases h : many < 0 ∨ 64 < many
  · exact rbytes_out n many w h
  · obtain ⟨m, rfl⟩ := Int.eq_ofNat_of_zero_le (show 0 ≤ many by omega)
    exact rbytes_in n m w h0 h1 (by omega)

end Go.Proofs.YtgldoppcillljaaDoor
