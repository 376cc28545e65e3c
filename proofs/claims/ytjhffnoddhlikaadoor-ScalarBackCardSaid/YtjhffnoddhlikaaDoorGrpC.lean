/-
  Merged texts (stage 5): BytesC, LeastC, Num, Sc1, Sc2, Sc3, Sc4, Sc5, Sc6, Sc7, Sc8, Sc9.
-/
import Derived.Test.YtjhffnoddhlikaaDoorRows
import Derived.Test.YtjhffnoddhlikaaDoorGrpA
import Derived.WalkKit
import Derived.WalkSpells
import Derived.WalkLawsBesides
import Derived.Deep.QuietTactic
import Derived.BigQuiet
import Derived.Lib.Hide
import Derived.Laws.BitsLemmas
import Derived.Laws.ResultCell
import Derived.Deep.LoopGhost
import Derived.Test.YtjhffnoddhlikaaDoorGrpBS
import Derived.Test.YtjhffnoddhlikaaDoorGrpBT
namespace Go.Proofs.YtjhffnoddhlikaaDoor
open Go.RowKit

/-- The k big-endian bytes of a number, modulo 256^k. -/
def beZ : Nat → Int → List Int
  | 0, _ => []
  | k + 1, n => n / 256 ^ k % 256 :: beZ k n

theorem beZ_length (k : Nat) (n : Int) : (beZ k n).length = k := by
  induction k with
  | zero => rfl
  | succ k ih => simp [beZ, ih]

theorem beZ_byte (k : Nat) (n : Int) : ∀ x ∈ beZ k n, 0 ≤ x ∧ x ≤ 255 := by
  induction k with
  | zero => simp [beZ]
  | succ k ih =>
    intro x hx
    simp only [beZ, List.mem_cons] at hx
    rcases hx with rfl | hx
    · omega
    · exact ih x hx

/-- What stands in a row of m bytes when the last k are laid. -/
def layZ (m k : Nat) (n : Int) : List Int := List.replicate (m - k) 0 ++ beZ k n

theorem layZ_length {m k : Nat} (n : Int) (h : k ≤ m) : (layZ m k n).length = m := by
  simp [layZ, beZ_length]; omega

theorem layZ_set {m k : Nat} {n : Int} (h : k < m) : (layZ m k n).set (m - 1 - k) (n / 256 ^ k % 256) = layZ m (k + 1) n := by
  unfold layZ
  have e1 : m - k = (m - 1 - k) + 1 := by omega
  have e2 : m - (k + 1) = m - 1 - k := by omega
  rw [e1, e2, List.replicate_succ', List.append_assoc, List.set_append_right _ _ (by simp)]
  simp [beZ]

theorem lay_vals {m k : Nat} {n u : Int} (h : k < m) (hu : u = n / 256 ^ k % 256) :
    ((layZ m k n).map (Value.int .u8)).set (m - 1 - k) (.int .u8 u) = (layZ m (k + 1) n).map (Value.int .u8) := by
  rw [← layZ_set h, List.map_set, hu]

theorem div_step (n : Int) (k : Nat) : n / 256 ^ k / 256 = n / 256 ^ (k + 1) := by
  rw [Int.ediv_ediv_of_nonneg (Int.le_of_lt (Int.pow_pos (by decide))), Int.pow_succ]

theorem Tryd.info5 : (Tryd.prog.info? 5).map (fun i => (i.zero, i.size, i.bytes)) = some (some (.int .u8 0), 1, 1) := by kernel_rfl

/-- Bytes' answer. -/
def bytesZ (n many : Int) : List Int × Bool :=
  if 0 ≤ many ∧ many ≤ 64 then (if n / 256 ^ many.toNat = 0 then (beZ many.toNat n, true) else ([], false)) else ([], false)

/-- What a call of Bytes or Least leaves: a slice that reads as these bytes, in a world that has turned nothing that was there. -/
def GivesBytes (w : World) (zs : List Int) (ok : Bool) (e : Ending) (w' : World) : Prop :=
  ∃ a c, e = .returned (.tuple #[.slice a zs.length c, .bool ok]) ∧ Row w' a zs.length zs ∧ Below w.heap.size w w' ∧ zs.length ≤ c

/-- The world in a round of Bytes: the row that was made bears the last k bytes; s is what is left of the number. -/
def Laid (w : World) (m k : Nat) (n s : Int) (wr : World) : Prop :=
  wr.ownsRow w.heap.size 5 1 (.slice (some ⟨w.heap.size, 0, none⟩) m m) m ((layZ m k n).map (Value.int .u8)) ∧ Below w.heap.size w wr ∧ s = n / 256 ^ k

theorem bytes_start {w w1 : World} {m : Nat} {n : Int} (hown : w1.ownsRow w.heap.size 5 1 (.slice (some ⟨w.heap.size, 0, none⟩) m m) m (madeCells #[Value.int .u8 0] m).toList) (hg : w.grownBy w1 none) :
    Laid w m 0 n n w1 := by
  refine ⟨?_, (Below.refl _ _).grown hg (Nat.le_refl _) (fun k h => by cases h), by simp⟩
  have e : (madeCells #[Value.int .u8 0] m).toList = (layZ m 0 n).map (Value.int .u8) := by
    rw [toList_madeCells_one]
    simp [layZ, beZ]
  rw [← e]
  exact hown

theorem Laid.step {w wr : World} {m k : Nat} {n s : Int} (h : Laid w m k n s wr) (hk : k < m) :
    (∃ v, wr.cell? ⟨w.heap.size, m - 1 - k, none⟩ = some v) ∧ wr.frozen? ⟨w.heap.size, m - 1 - k, none⟩ = false ∧
    ∀ u, u = s % 256 → Laid w m (k + 1) n (s / 256) (wr.setCell ⟨w.heap.size, m - 1 - k, none⟩ (.int .u8 u)) := by
  obtain ⟨ho, hb, rfl⟩ := h
  have hl := layZ_length (m := m) (k := k) n (by omega)
  refine ⟨⟨_, (ho.cellAt (m - 1 - k) (by omega)).trans (List.getElem?_eq_getElem (by simp [hl]; omega))⟩, ho.frozenAt _, fun u hu => ⟨?_, hb.setCell (Nat.le_refl _) _, div_step n k⟩⟩
  have := (ho.stored (m - 1 - k) (.int .u8 u)).1
  rw [lay_vals hk hu] at this
  exact this

theorem bytesZ_in (n : Int) (m : Nat) (hm : m ≤ 64) : bytesZ n m = if n / 256 ^ m = 0 then (beZ m n, true) else ([], false) := by
  rw [bytesZ, if_pos (by omega), Int.toNat_natCast]

theorem bytes_end {w wr : World} {m k : Nat} {n : Int} (hm : m ≤ 64) (hk : k = m) (h : Laid w m k n 0 wr) :
    GivesBytes w (bytesZ n m).1 (bytesZ n m).2 (.returned (.tuple #[.slice (some ⟨w.heap.size, 0, none⟩) m m, .bool true])) wr := by
  subst hk
  obtain ⟨ho, hb, hs⟩ := h
  rw [bytesZ_in n k hm, if_pos hs.symm]
  have e : layZ k k n = beZ k n := by simp [layZ]
  rw [e] at ho
  refine ⟨some ⟨w.heap.size, 0, none⟩, k, ?_, ?_, hb, ?_⟩
  · rw [beZ_length]
  · rw [beZ_length]
    exact Row.of_own ho (beZ_byte k n)
  · rw [beZ_length]
    exact Nat.le_refl _

theorem bytes_none {w wr : World} {m k : Nat} {n s : Int} (hm : m ≤ 64) (hk : k = m) (hs : ¬ s = 0) (h : Laid w m k n s wr) :
    GivesBytes w (bytesZ n m).1 (bytesZ n m).2 (.returned (.tuple #[.slice none 0 0, .bool false])) wr := by
  subst hk
  obtain ⟨_, hb, rfl⟩ := h
  rw [bytesZ_in n k hm, if_neg hs]
  exact ⟨none, 0, rfl, Row.nil _ _, hb, Nat.le_refl _⟩

set_option maxHeartbeats 400000 in
theorem bytes_in (n : Int) (m : Nat) (w : World) (h0 : 0 ≤ n) (h1 : n ≤ 18446744073709551615) (hm : m ≤ 64) :
    Calls Tryd.prog 69 #[.int .u64 n, .int .i64 (m : Int)] w (GivesBytes w (bytesZ n m).1 (bytesZ n m).2) := by
  obtain ⟨i0, hi, hz0, hz1, hz2⟩ := info_parts Tryd.info5
  have d1 : decide ((m : Int) < 0) = false := by simp
  have d2 : decide (64 < (m : Int)) = false := by simp; omega
  go_enter Tryd.func69, Tryd.ntmps69
  go_wp2_with (at_make; refine wpList_make_full _ rfl _ _ 23 rfl w.heap.size 5 i0 (.int .u8 0) 1 Tryd.underlying23 hi hz0 hz1 _ _ _ _ m rfl rfl rfl rfl ?b1 ?b2 ?b3 ?_)
  case b1 => rw [hz2]; omega
  case b2 => unfold maxLen; omega
  case b3 => exact Nat.le_refl _
  intro w1 hown0 hgrow
  have HB := Lib.hid (bytes_start (n := n) hown0 hgrow)
  clear hown0 hgrow hz2 hz1 hz0 hi
  go_wp2
  go_loopw [0, 17] (fun t i wr => ∃ k : Nat, ∃ s : Int, k ≤ m ∧ 0 ≤ s ∧ s ≤ 18446744073709551615 ∧ i = .int .i64 k ∧ t = .int .u64 s ∧ Laid w m k n s wr) (fun _ i _ => m - (intOf i).toNat)
  case atStart => exact ⟨0, n, Nat.zero_le _, h0, h1, rfl, rfl, by simpa using HB.out⟩
  case round =>
    obtain ⟨k, s, hk, hs0, hs1, rfl, rfl, hl⟩ := hrel
    by_cases hlt : k < m
    · obtain ⟨⟨v, hc⟩, hf, hnext⟩ := hl.step hlt
      have HN := Lib.hid hnext
      clear hl hnext
      go_wp2
      go_roundw
      case rel => exact ⟨k + 1, _, by omega, by omega, by omega, by go_num, rfl, HN.out _ (by omega)⟩
      case measure => simp [intOf]; omega
    · have HL := Lib.hid hl
      clear hl
      by_cases hs : s = 0
      · subst hs
        go_wp2
        go_ret2
        exact bytes_end hm (by omega) HL.out
      · have hs' : (s != 0) = true := by simpa using hs
        go_wp2
        go_ret2
        exact bytes_none hm (by omega) hs HL.out

set_option maxHeartbeats 400000 in
theorem rbytes_in (n : Int) (m : Nat) (w : World) (h0 : 0 ≤ n) (h1 : n ≤ 18446744073709551615) (hm : m ≤ 64) :
    Calls Tryd.prog 70 #[.int .u64 n, .int .i64 (m : Int)] w (GivesBytes w (bytesZ n m).1 (bytesZ n m).2) := by
  obtain ⟨i0, hi, hz0, hz1, hz2⟩ := info_parts Tryd.info5
  have d1 : decide ((m : Int) < 0) = false := by simp
  have d2 : decide (64 < (m : Int)) = false := by simp; omega
  go_enter Tryd.func70, Tryd.ntmps70
  go_wp2_with (at_make; refine wpList_make_full _ rfl _ _ 23 rfl w.heap.size 5 i0 (.int .u8 0) 1 Tryd.underlying23 hi hz0 hz1 _ _ _ _ m rfl rfl rfl rfl ?b1 ?b2 ?b3 ?_)
  case b1 => rw [hz2]; omega
  case b2 => unfold maxLen; omega
  case b3 => exact Nat.le_refl _
  intro w1 hown0 hgrow
  have HB := Lib.hid (bytes_start (n := n) hown0 hgrow)
  clear hown0 hgrow hz2 hz1 hz0 hi
  go_wp2
  go_loopw [0, 7] (fun t i wr => ∃ k : Nat, ∃ s : Int, k ≤ m ∧ 0 ≤ s ∧ s ≤ 18446744073709551615 ∧ i = .int .i64 ((m : Int) - 1 - k) ∧ t = .int .u64 s ∧ Laid w m k n s wr) (fun _ i _ => (intOf i + 1).toNat)
  case atStart => exact ⟨0, n, Nat.zero_le _, h0, h1, by simp, rfl, by simpa using HB.out⟩
  case round =>
    obtain ⟨k, s, hk, hs0, hs1, rfl, rfl, hl⟩ := hrel
    by_cases hlt : k < m
    · obtain ⟨⟨v, hc⟩, hf, hnext⟩ := hl.step hlt
      have HN := Lib.hid hnext
      clear hl hnext
      have t1 : (0 : Int) ≤ (m : Int) - 1 - k := by omega
      go_wp2
      go_roundw
      case rel => exact ⟨k + 1, _, by omega, by omega, by omega, by go_num, rfl, HN.out _ (by omega)⟩
      case measure => simp [intOf]; omega
    · have HL := Lib.hid hl
      clear hl
      have t1 : ¬ (0 : Int) ≤ (m : Int) - 1 - k := by omega
      by_cases hs : s = 0
      · subst hs
        go_wp2
        go_ret2
        exact bytes_end hm (by omega) HL.out
      · have hs' : 0 < s := by omega
        go_wp2
        go_ret2
        exact bytes_none hm (by omega) hs HL.out

theorem bytesZ_out {n many : Int} (h : many < 0 ∨ 64 < many) : bytesZ n many = ([], false) := by
  rw [bytesZ, if_neg (by omega)]

set_option maxHeartbeats 400000 in
theorem bytes_out (n many : Int) (w : World) (h : many < 0 ∨ 64 < many) :
    Calls Tryd.prog 69 #[.int .u64 n, .int .i64 many] w (GivesBytes w (bytesZ n many).1 (bytesZ n many).2) := by
  rw [bytesZ_out h]
  rcases h with h | h
  · go_enter Tryd.func69, Tryd.ntmps69
    go_wp2
    go_ret2
    exact ⟨none, 0, rfl, Row.nil _ _, Below.refl _ _, Nat.le_refl _⟩
  · have h' : ¬ many < 0 := by omega
    go_enter Tryd.func69, Tryd.ntmps69
    go_wp2
    go_ret2
    exact ⟨none, 0, rfl, Row.nil _ _, Below.refl _ _, Nat.le_refl _⟩

set_option maxHeartbeats 400000 in
theorem rbytes_out (n many : Int) (w : World) (h : many < 0 ∨ 64 < many) :
    Calls Tryd.prog 70 #[.int .u64 n, .int .i64 many] w (GivesBytes w (bytesZ n many).1 (bytesZ n many).2) := by
  rw [bytesZ_out h]
  rcases h with h | h
  · go_enter Tryd.func70, Tryd.ntmps70
    go_wp2
    go_ret2
    exact ⟨none, 0, rfl, Row.nil _ _, Below.refl _ _, Nat.le_refl _⟩
  · have h' : ¬ many < 0 := by omega
    go_enter Tryd.func70, Tryd.ntmps70
    go_wp2
    go_ret2
    exact ⟨none, 0, rfl, Row.nil _ _, Below.refl _ _, Nat.le_refl _⟩

theorem bytes_any (n many : Int) (w : World) (h0 : 0 ≤ n) (h1 : n ≤ 18446744073709551615) :
    Calls Tryd.prog 69 #[.int .u64 n, .int .i64 many] w (GivesBytes w (bytesZ n many).1 (bytesZ n many).2) := by
  by_cases h : many < 0 ∨ 64 < many
  · exact bytes_out n many w h
  · obtain ⟨m, rfl⟩ := Int.eq_ofNat_of_zero_le (show 0 ≤ many by omega)
    exact bytes_in n m w h0 h1 (by omega)

theorem rbytes_any (n many : Int) (w : World) (h0 : 0 ≤ n) (h1 : n ≤ 18446744073709551615) :
    Calls Tryd.prog 70 #[.int .u64 n, .int .i64 many] w (GivesBytes w (bytesZ n many).1 (bytesZ n many).2) := by
  by_cases h : many < 0 ∨ 64 < many
  · exact rbytes_out n many w h
  · obtain ⟨m, rfl⟩ := Int.eq_ofNat_of_zero_le (show 0 ≤ many by omega)
    exact rbytes_in n m w h0 h1 (by omega)

end Go.Proofs.YtjhffnoddhlikaaDoor

namespace Go.Proofs.YtjhffnoddhlikaaDoor
open Go.RowKit

/-- What a call of Bytes leaves where it goes well: m bytes. -/
def GivesM (w : World) (m : Nat) (zs : List Int) (e : Ending) (w' : World) : Prop :=
  ∃ a c, e = .returned (.tuple #[.slice a m c, .bool true]) ∧ Row w' a m zs ∧ Below w.heap.size w w' ∧ m ≤ c
def GivesNone (w : World) (e : Ending) (w' : World) : Prop :=
  ∃ a c, e = .returned (.tuple #[.slice a 0 c, .bool false]) ∧ Row w' a 0 [] ∧ Below w.heap.size w w'

theorem gives_ok {w w' : World} {n : Int} {m : Nat} {e : Ending} (hm : m ≤ 64) (hz : n / 256 ^ m = 0) (h : GivesBytes w (bytesZ n m).1 (bytesZ n m).2 e w') : GivesM w m (beZ m n) e w' := by
  rw [bytesZ_in n m hm, if_pos hz] at h
  obtain ⟨a, c, he, hr, hb, hc⟩ := h
  rw [beZ_length] at he hr hc
  exact ⟨a, c, he, hr, hb, hc⟩

theorem gives_no {w w' : World} {n : Int} {m : Nat} {e : Ending} (hm : m ≤ 64) (hz : ¬ n / 256 ^ m = 0) (h : GivesBytes w (bytesZ n m).1 (bytesZ n m).2 e w') : GivesNone w e w' := by
  rw [bytesZ_in n m hm, if_neg hz] at h
  obtain ⟨a, c, he, hr, hb, _⟩ := h
  exact ⟨a, c, he, hr, hb⟩

theorem bytes_ok (n many : Int) (m : Nat) (w : World) (hmany : many = m) (h0 : 0 ≤ n) (h1 : n ≤ 18446744073709551615) (hm : m ≤ 64) (hz : n / 256 ^ m = 0) :
    Calls Tryd.prog 69 #[.int .u64 n, .int .i64 many] w (GivesM w m (beZ m n)) := by
  subst hmany
  exact (bytes_any n m w h0 h1).mono fun _ _ h => gives_ok hm hz h

theorem rbytes_ok (n many : Int) (m : Nat) (w : World) (hmany : many = m) (h0 : 0 ≤ n) (h1 : n ≤ 18446744073709551615) (hm : m ≤ 64) (hz : n / 256 ^ m = 0) :
    Calls Tryd.prog 70 #[.int .u64 n, .int .i64 many] w (GivesM w m (beZ m n)) := by
  subst hmany
  exact (rbytes_any n m w h0 h1).mono fun _ _ h => gives_ok hm hz h

theorem rbytes_no (n many : Int) (m : Nat) (w : World) (hmany : many = m) (h0 : 0 ≤ n) (h1 : n ≤ 18446744073709551615) (hm : m ≤ 64) (hz : ¬ n / 256 ^ m = 0) :
    Calls Tryd.prog 70 #[.int .u64 n, .int .i64 many] w (GivesNone w) := by
  subst hmany
  exact (rbytes_any n m w h0 h1).mono fun _ _ h => gives_no hm hz h

/-- m is the fewest bytes of n, but at least one. -/
def IsLeast (n : Int) (m : Nat) : Prop := 1 ≤ m ∧ m ≤ 8 ∧ n / 256 ^ m = 0 ∧ (m = 1 ∨ ¬ n / 256 ^ (m - 1) = 0)

theorem div_mono {n : Int} {i j : Nat} (h0 : 0 ≤ n) (hij : i ≤ j) (h : n / 256 ^ i = 0) : n / 256 ^ j = 0 := by
  have hi : (0 : Int) < 256 ^ i := Int.pow_pos (by decide)
  have hlt : n < 256 ^ i := by
    rcases Int.lt_or_le n (256 ^ i) with hl | hl
    · exact hl
    · have := (Int.le_ediv_iff_mul_le hi (a := 1) (b := n)).2 (by omega)
      omega
  have hle : (256 : Int) ^ i ≤ 256 ^ j := by
    have := Nat.pow_le_pow_right (n := 256) (by decide) hij
    rw [show (256 : Int) = ((256 : Nat) : Int) from rfl, ← Int.natCast_pow, ← Int.natCast_pow]
    exact Int.ofNat_le.2 this
  exact Int.ediv_eq_zero_of_lt h0 (by omega)

theorem div_eight {n : Int} {j : Nat} (h0 : 0 ≤ n) (h1 : n ≤ 18446744073709551615) (hj : 8 ≤ j) : n / 256 ^ j = 0 :=
  div_mono h0 hj (Int.ediv_eq_zero_of_lt h0 (by omega))

theorem IsLeast.eq {n : Int} {m k : Nat} (h0 : 0 ≤ n) (h : IsLeast n m) (h' : IsLeast n k) : m = k := by
  obtain ⟨a1, _, a3, a4⟩ := h
  obtain ⟨b1, _, b3, b4⟩ := h'
  rcases Nat.lt_trichotomy m k with hl | hl | hl
  · rcases b4 with b4 | b4
    · omega
    · exact absurd (div_mono h0 (show m ≤ k - 1 by omega) a3) b4
  · exact hl
  · rcases a4 with a4 | a4
    · omega
    · exact absurd (div_mono h0 (show k ≤ m - 1 by omega) b3) a4

def GivesLeast (w : World) (n : Int) (e : Ending) (w' : World) : Prop :=
  ∃ m a c, IsLeast n m ∧ e = .returned (.slice a m c) ∧ Row w' a m (beZ m n) ∧ Below w.heap.size w w' ∧ m ≤ c

set_option maxHeartbeats 400000 in
theorem least_any (n : Int) (w : World) (h0 : 0 ≤ n) (h1 : n ≤ 18446744073709551615) :
    Calls Tryd.prog 42 #[.int .u64 n] w (GivesLeast w n) := by
  go_enter Tryd.func42, Tryd.ntmps42
  go_wp2
  go_loop [3, 4] (fun i t => ∃ k : Nat, ∃ s : Int, k ≤ 7 ∧ 0 ≤ s ∧ s ≤ 18446744073709551615 ∧ i = .int .i64 ((k : Int) + 1) ∧ t = .int .u64 s ∧ s = n / 256 ^ (k + 1) ∧ (k = 0 ∨ ¬ n / 256 ^ k = 0)) (fun _ t => (intOf t).toNat)
  case atStart => exact ⟨0, n / 256, by omega, by omega, by omega, rfl, rfl, by simp, Or.inl rfl⟩
  case round =>
    obtain ⟨k, s, hk, hs0, hs1, rfl, rfl, hs, hl⟩ := hrel
    have HS := Lib.hid hs
    have HL := Lib.hid hl
    clear hs hl
    by_cases hz : s = 0
    · subst hz
      have HLe : Hid (IsLeast n (k + 1)) := ⟨by omega, by omega, HS.out.symm, by rcases HL.out with h | h; exact Or.inl (by omega); exact Or.inr h⟩
      go_wp2_with (go_at_call 69; refine (bytes_ok n _ (k + 1) _ (by omega) h0 h1 (by omega) HS.out.symm).mono ?_; rintro e w' ⟨a, c, rfl, hrow, hbel, hcap⟩)
      go_ret
      exact ⟨k + 1, a, c, HLe.out, rfl, hrow, hbel, hcap⟩
    · have hz' : (s != 0) = true := by simpa using hz
      have hk7 : k + 1 ≤ 7 := by
        rcases Nat.lt_or_ge (k + 1) 8 with h | h
        · omega
        · exact absurd (HS.out.trans (div_eight h0 h1 h)) hz
      go_wp2
      go_round
      case rel => exact ⟨k + 1, s / 256, hk7, by omega, by omega, by go_num, rfl, by rw [HS.out]; exact div_step n (k + 1), Or.inr (by rw [← HS.out]; exact hz)⟩
      case measure => simp [intOf]; omega

set_option maxHeartbeats 400000 in
theorem rleast_any (n : Int) (w : World) (h0 : 0 ≤ n) (h1 : n ≤ 18446744073709551615) :
    Calls Tryd.prog 43 #[.int .u64 n] w (GivesLeast w n) := by
  go_enter Tryd.func43, Tryd.ntmps43
  go_wp2
  go_loopw [3] (fun i wr => ∃ k : Nat, k ≤ 7 ∧ i = .int .i64 ((k : Int) + 1) ∧ Below w.heap.size w wr ∧ (k = 0 ∨ ¬ n / 256 ^ k = 0)) (fun i _ => 8 - (intOf i).toNat)
  case atStart => exact ⟨0, by omega, rfl, Below.refl _ _, Or.inl rfl⟩
  case round =>
    obtain ⟨k, hk, rfl, hb, hl⟩ := hrel
    have HL := Lib.hid hl
    clear hl
    by_cases h7 : k = 7
    · subst h7
      have hz := div_eight h0 h1 (Nat.le_refl 8)
      have HLe : Hid (IsLeast n 8) := ⟨by omega, by omega, hz, by rcases HL.out with h | h; omega; exact Or.inr h⟩
      have HZ := Lib.hid hz
      clear hz
      go_wp2_with (go_at_call 70; refine (rbytes_ok n _ 8 _ (by omega) h0 h1 (by omega) HZ.out).mono ?_; rintro e w' ⟨a, c, rfl, hrow, hbel, hcap⟩)
      go_ret
      exact ⟨8, a, c, HLe.out, rfl, hrow, hb.trans (hbel.mono hb.size), hcap⟩
    · by_cases hz : n / 256 ^ (k + 1) = 0
      · have HLe : Hid (IsLeast n (k + 1)) := ⟨by omega, by omega, hz, by rcases HL.out with h | h; exact Or.inl (by omega); exact Or.inr h⟩
        have HZ := Lib.hid hz
        clear hz
        go_wp2_with (go_at_call 70; refine (rbytes_ok n _ (k + 1) _ (by omega) h0 h1 (by omega) HZ.out).mono ?_; rintro e w' ⟨a, c, rfl, hrow, hbel, hcap⟩)
        go_ret
        exact ⟨k + 1, a, c, HLe.out, rfl, hrow, hb.trans (hbel.mono hb.size), hcap⟩
      · have HZ := Lib.hid hz
        clear hz
        go_wp2_with (go_at_call 70; refine (rbytes_no n _ (k + 1) _ (by omega) h0 h1 (by omega) HZ.out).mono ?_; rintro e w' ⟨a, c, rfl, hrow, hbel⟩)
        go_roundw
        case rel => exact ⟨k + 1, by omega, by go_num, hb.trans (hbel.mono hb.size), Or.inr HZ.out⟩
        case measure => simp [intOf]; omega

end Go.Proofs.YtjhffnoddhlikaaDoor

namespace Go.Proofs.YtjhffnoddhlikaaDoor
open Go.RowKit

def B56 : Int := 72057594037927936

/-- Num's answer, from a number on. -/
def numZ : Int → List Int → Int × Bool
  | n, [] => (n, true)
  | n, x :: xs => if B56 ≤ n then (0, false) else numZ (n * 256 + x) xs

theorem numZ_drop {zs : List Int} {k : Nat} (s : Int) (h : k < zs.length) : numZ s (zs.drop k) = if B56 ≤ s then (0, false) else numZ (s * 256 + zs[k]?.getD 0) (zs.drop (k + 1)) := by
  rw [List.drop_eq_getElem_cons h, numZ]
  simp [List.getElem?_eq_getElem h]

theorem num_step {zs : List Int} {k : Nat} {s x : Int} (h : k < zs.length) (hx : x = zs[k]?.getD 0) (he : numZ s (zs.drop k) = numZ 0 zs) :
    (B56 ≤ s → numZ 0 zs = (0, false)) ∧ (s < B56 → numZ (s * 256 + x) (zs.drop (k + 1)) = numZ 0 zs) := by
  rw [numZ_drop s h, ← hx] at he
  refine ⟨fun hs => ?_, fun hs => ?_⟩
  · rw [← he, if_pos hs]
  · rw [if_neg (by omega)] at he
    exact he

theorem num_end {zs : List Int} {k : Nat} {s : Int} (h : zs.length ≤ k) (he : numZ s (zs.drop k) = numZ 0 zs) : numZ 0 zs = (s, true) := by
  rw [← he, List.drop_of_length_le h, numZ]

theorem top_set {s : Int} (h : (s / 72057594037927936 != 0) = true) (h0 : 0 ≤ s) : B56 ≤ s := by
  simp at h
  unfold B56
  omega
theorem top_clear {s : Int} (h : (s / 72057594037927936 != 0) = false) : s < B56 := by
  simp at h
  unfold B56
  omega

theorem or8 {s x : Int} (h0 : 0 ≤ s) (h : s < B56) (x0 : 0 ≤ x) (x1 : x ≤ 255) : bits .or .u64 (IntKind.u64.wrap (s * 256)) x = s * 256 + x := by
  unfold B56 at h
  have hw : ∀ n : Int, 0 ≤ n → n < 2 ^ 64 → IntKind.u64.wrap n = n := by
    intro n h0 h1
    rw [IntKind.wrap_u64]
    omega
  rw [hw _ (by omega) (by omega)]
  exact bits_join .u64 64 (by decide) hw 8 _ _ (by omega) (by omega) (by omega) x0 (by omega) (by omega)

theorem ret_num {zs : List Int} {n : Int} {b : Bool} (h : numZ 0 zs = (n, b)) : Ending.returned (.tuple #[.int .u64 n, .bool b]) = .returned (.tuple #[.int .u64 (numZ 0 zs).1, .bool (numZ 0 zs).2]) := by rw [h]

set_option maxHeartbeats 400000 in
theorem num_any (a : Option Addr) (n ca : Nat) (zs : List Int) (w : World) (hx : Row w a n zs) (hn : n ≤ 1000000) :
    Calls Tryd.prog 46 #[.slice a n ca] w fun e w' => e = .returned (.tuple #[.int .u64 (numZ 0 zs).1, .bool (numZ 0 zs).2]) ∧ w' = w := by
  have HX := Lib.hid hx
  clear hx
  go_enter Tryd.func46, Tryd.ntmps46
  go_wp2
  go_loop [4, 8] (fun t i => ∃ k : Nat, ∃ s : Int, k ≤ n ∧ 0 ≤ s ∧ s ≤ 18446744073709551615 ∧ i = .int .i64 k ∧ t = .int .u64 s ∧ numZ s (zs.drop k) = numZ 0 zs) (fun _ i => n - (intOf i).toNat)
  case atStart => exact ⟨0, 0, Nat.zero_le _, by omega, by omega, rfl, rfl, rfl⟩
  case round =>
    obtain ⟨k, s, hk, hs0, hs1, rfl, rfl, he⟩ := hrel
    have HE := Lib.hid he
    clear he
    by_cases hlt : k < n
    · obtain ⟨b1, o1, rfl, hb1, hc1⟩ := HX.out.2.2 (by omega)
      have c1 := hc1 k hlt
      clear hc1
      have bx := HX.out.byte k
      have ST := Lib.hid (num_step (by rw [HX.out.1]; exact hlt) rfl HE.out)
      generalize zs[k]?.getD 0 = x at c1 bx ST
      go_wp2
      · go_ret2
        exact ⟨ret_num (ST.out.1 (top_set (by assumption) hs0)), rfl⟩
      · have ht : s < B56 := top_clear (by assumption)
        go_round
        case rel => exact ⟨k + 1, _, by omega, by omega, by unfold B56 at ht; omega, by go_num, by rw [or8 hs0 ht bx.1 bx.2], ST.out.2 ht⟩
        case measure => simp [intOf]; omega
    · go_wp2
      go_ret2
      exact ⟨ret_num (num_end (by rw [HX.out.1]; omega) HE.out), rfl⟩

set_option maxHeartbeats 400000 in
theorem rnum_any (a : Option Addr) (n ca : Nat) (zs : List Int) (w : World) (hx : Row w a n zs) (hn : n ≤ 1000000) :
    Calls Tryd.prog 49 #[.slice a n ca] w fun e w' => e = .returned (.tuple #[.int .u64 (numZ 0 zs).1, .bool (numZ 0 zs).2]) ∧ w' = w := by
  have HX := Lib.hid hx
  clear hx
  go_enter Tryd.func49, Tryd.ntmps49
  go_wp2
  go_loop [4, 5] (fun t i => ∃ k : Nat, ∃ s : Int, k ≤ n ∧ 0 ≤ s ∧ s ≤ 18446744073709551615 ∧ i = .int .i64 k ∧ t = .int .u64 s ∧ numZ s (zs.drop k) = numZ 0 zs) (fun _ i => n - (intOf i).toNat)
  case atStart => exact ⟨0, 0, Nat.zero_le _, by omega, by omega, rfl, rfl, rfl⟩
  case round =>
    obtain ⟨k, s, hk, hs0, hs1, rfl, rfl, he⟩ := hrel
    have HE := Lib.hid he
    clear he
    by_cases hlt : k < n
    · obtain ⟨b1, o1, rfl, hb1, hc1⟩ := HX.out.2.2 (by omega)
      have c1 := hc1 k hlt
      clear hc1
      have bx := HX.out.byte k
      have ST := Lib.hid (num_step (by rw [HX.out.1]; exact hlt) rfl HE.out)
      generalize zs[k]?.getD 0 = x at c1 bx ST
      go_wp2
      · go_ret2
        exact ⟨ret_num (ST.out.1 (by unfold B56; assumption)), rfl⟩
      · have ht : s < B56 := by unfold B56; assumption
        go_round
        case rel => exact ⟨k + 1, _, by omega, by omega, by unfold B56 at ht; omega, by go_num, rfl, ST.out.2 ht⟩
        case measure => simp [intOf]; omega
    · go_wp2
      go_ret2
      exact ⟨ret_num (num_end (by rw [HX.out.1]; omega) HE.out), rfl⟩

end Go.Proofs.YtjhffnoddhlikaaDoor

namespace Go.Proofs.YtjhffnoddhlikaaDoor
open Go.RowKit
set_option linter.unusedVariables false

/-- Bytes without noughts ahead. -/
def bareZ : List Int → List Int
  | [] => []
  | z :: r => if z = 0 then bareZ r else z :: r
theorem bare_drop {zs : List Int} {k : Nat} (h : k < zs.length) : bareZ (zs.drop k) = if zs[k]?.getD 0 = 0 then bareZ (zs.drop (k + 1)) else zs.drop k := by
  rw [List.drop_eq_getElem_cons h, bareZ, List.getElem?_eq_getElem h]
  rfl
theorem bare_le (zs : List Int) : (bareZ zs).length ≤ zs.length := by
  induction zs with
  | nil => exact Nat.le_refl _
  | cons z r ih =>
    rw [bareZ]
    split
    · rw [List.length_cons]; omega
    · exact Nat.le_refl _
theorem bare_mem {zs : List Int} {x : Int} (h : x ∈ bareZ zs) : x ∈ zs := by
  induction zs with
  | nil => exact h
  | cons z r ih =>
    rw [bareZ] at h
    split at h
    · exact List.mem_cons_of_mem _ (ih h)
    · exact h

/-- A row of bytes of the call's own that it hands back: new memory. -/
def GivesNew (zs : List Int) (w : World) (e : Ending) (w' : World) : Prop :=
  ∃ V, e = .returned V ∧ Out w w' V zs
theorem GivesNew.row {zs : List Int} {w w' : World} {e : Ending} (h : GivesNew zs w e w') (hb : ∀ x ∈ zs, 0 ≤ x ∧ x ≤ 255) : ∃ a c, e = .returned (.slice a zs.length c) ∧ Row w' a zs.length zs ∧ (a = none → c = 0) ∧ zs.length ≤ c ∧ Below w.heap.size w w' := by
  obtain ⟨V, rfl, ho⟩ := h
  obtain ⟨a, c, rfl, hr⟩ := ho.row hb
  refine ⟨a, c, rfl, hr, ?_, own_cap ho.1, ho.2⟩
  intro e
  subst e
  rcases ho.1.2 with ⟨e, _⟩ | ⟨g, cap, cur, e, _⟩
  · injection e
  · cases e
theorem out_nothing {w : World} (o : Obj) : Out w ((w.alloc o).alloc (.cells #[] 5)) (.slice (some ⟨w.heap.size + 1, 0, none⟩) 0 0) [] := by
  have h := Out.made (W0 := w.alloc o) 0 (by omega)
  rw [show (w.alloc o).heap.size = w.heap.size + 1 by simp, show madeCells #[.int .u8 0] 0 = #[] by simp [madeCells]] at h
  refine ⟨⟨h.1.1, ?_⟩, Below.step (w1 := w.alloc o) ((Below.refl _ _).alloc (Nat.le_refl _) _) ((Below.refl _ _).alloc (Nat.le_refl _) _)⟩
  rcases h.1.2 with h' | ⟨g, cap, cur, e, h1, h2, h3⟩
  · exact .inl h'
  · exact .inr ⟨g, cap, cur, e, by simp at h1; omega, h2, h3⟩
theorem out_zero (w : World) : Out w (w.alloc (.cells #[] 5)) (.slice (some ⟨w.heap.size, 0, none⟩) 0 0) [] := by
  have h := Out.made (W0 := w) 0 (by omega)
  rw [show madeCells #[.int .u8 0] 0 = #[] by simp [madeCells]] at h
  exact h

set_option maxHeartbeats 1000000 in
theorem rbare_any (a : Option Addr) (n ca : Nat) (zs : List Int) (w : World) (hr : Row w a n zs) (hnc : n ≤ ca) (hn : n ≤ 100000) (hnil : a = none → ca = 0) : Calls Tryd.prog 45 #[.slice a n ca] w (GivesNew (bareZ zs) w) := by
  have R0 := Lib.hid hr
  have NI := Lib.hid hnil
  have HL := Lib.hid hr.1
  clear hr hnil
  go_enter Tryd.func45, Tryd.ntmps45
  go_wp2_with fail
  go_loopw [3] (fun i wr => ∃ k : Nat, k ≤ n ∧ i = .int .i64 (k : Int) ∧ wr = w ∧ bareZ (zs.drop k) = bareZ zs) (fun i _ => n - (intOf i).toNat)
  case atStart => exact ⟨0, by omega, rfl, rfl, by simp⟩
  case round =>
    obtain ⟨k, hk, rfl, rfl, hb⟩ := hrel
    have HB := Lib.hid hb
    clear hb
    have tail : ∀ j : Nat, j = k → bareZ zs = zs.drop k → True := fun _ _ _ => trivial
    clear tail
    by_cases hlt : k < n
    · obtain ⟨b, off, rfl, hbl, hc⟩ := R0.out.2.2 (by omega)
      have c0 := hc k hlt
      have z0 := R0.out.byte k
      have BD := Lib.hid (bare_drop (zs := zs) (k := k) (by rw [HL.out]; exact hlt))
      clear hc
      by_cases hz : zs[k]?.getD 0 = 0
      · have N : Hid (bareZ (zs.drop (k + 1)) = bareZ zs) := by
          rw [← HB.out, BD.out, if_pos hz]
          exact Lib.hid rfl
        rw [hz] at c0
        clear BD HB hz z0
        go_wp2_with fail
        go_roundw
        case rel => exact ⟨k + 1, by omega, by go_num, trivial, N.out⟩
        case measure => simp [intOf]; omega
      · have F : Hid (bareZ zs = zs.drop k) := by
          rw [← HB.out, BD.out, if_neg hz]
          exact Lib.hid rfl
        have t0 : (zs[k]?.getD 0 == 0) = false := by simpa using hz
        generalize zs[k]?.getD 0 = x at c0 z0 t0
        have hck : ¬ ca = k := by omega
        have RW := Lib.hid (R0.out.rest k ca hk hnc)
        rw [if_neg hck, Option.map_some, Addr.add_lit] at RW
        have RX := Lib.hid (RW.out.below ((Below.refl wr.heap.size wr).alloc (Nat.le_refl _) (.cells #[] 5)))
        clear BD HB hz RW
        go_wp2_with (at_builtin; go_must (refine out_append (W0 := wr) (L := []) (zs := zs.drop k) rfl _ _ rfl rfl (out_zero wr) rfl RX.out (fun e => by cases e) (by simp; omega) ?_; intro V1 w1 ho1; rw [List.nil_append] at ho1; have HO := Lib.hid ho1; clear ho1))
        go_ret
        exact ⟨V1, rfl, by rw [F.out]; exact HO.out⟩
    · obtain rfl : k = n := by omega
      have F : Hid (bareZ zs = []) := by
        rw [← HB.out, List.drop_of_length_le (by rw [HL.out]; exact Nat.le_refl _)]
        exact Lib.hid rfl
      have RX := Lib.hid (Row.nil (wr.alloc (.cells #[] 5)))
      by_cases hck : ca = k
      · clear HB
        subst hck
        go_wp2_with (at_builtin; go_must (refine out_append (W0 := wr) (L := []) (zs := []) rfl _ _ rfl rfl (out_zero wr) rfl (RX.out _) (fun _ => by first | rfl | omega) (by simp) ?_; intro V1 w1 ho1; rw [List.nil_append] at ho1; have HO := Lib.hid ho1; clear ho1))
        go_ret
        exact ⟨V1, rfl, by rw [F.out]; exact HO.out⟩
      · clear HB
        have NA : Hid (Option.map (fun x => x.add k) a = none → ca - k = 0) := fun e => by
          have : a = none := by
            cases a with
            | none => rfl
            | some x => cases e
          rw [NI.out this]
          omega
        go_wp2_with (at_builtin; go_must (refine out_append (W0 := wr) (L := []) (zs := []) rfl _ _ rfl rfl (out_zero wr) rfl (RX.out _) NA.out (by simp) ?_; intro V1 w1 ho1; rw [List.nil_append] at ho1; have HO := Lib.hid ho1; clear ho1))
        go_ret
        exact ⟨V1, rfl, by rw [F.out]; exact HO.out⟩

end Go.Proofs.YtjhffnoddhlikaaDoor

namespace Go.Proofs.YtjhffnoddhlikaaDoor
open Go.RowKit
set_option linter.unusedVariables false

theorem Blk.six {w : World} {g : Nat} {t : TypeId} {a b c : Value} (h : Blk w g t #[a, b, c]) : w.cell? ⟨g, 0, none⟩ = some a ∧ w.cell? ⟨g, 1, none⟩ = some b ∧ w.cell? ⟨g, 2, none⟩ = some c ∧ w.frozen? ⟨g, 0, none⟩ = false ∧ w.frozen? ⟨g, 1, none⟩ = false ∧ w.frozen? ⟨g, 2, none⟩ = false :=
  ⟨h.cell 0, h.cell 1, h.cell 2, h.free 0, h.free 1, h.free 2⟩
theorem Tryd.sizeNode3 : (Tryd.prog.info? 26).map (·.size) = some 3 := by kernel_rfl

/-- The zero element. -/
def zeroT : T := .node 0 [] []
/-- A call that hands an element back, as a value of three cells. -/
def GivesNode (t : T) (w : World) (e : Ending) (w' : World) : Prop :=
  ∃ (A : Option Addr) (n c : Nat) (K : Option Addr) (m d : Nat), e = .returned (.agg #[.int .i64 t.tag, .slice A n c, .slice K m d]) ∧ t.InP (w.heap.size ≤ ·) w' (.agg #[.int .i64 t.tag, .slice A n c, .slice K m d]) ∧ Below w.heap.size w w'
/-- An element without others within. -/
theorem leaf_inP {P : Nat → Prop} {w : World} {z : Int} {zs : List Int} {a : Option Addr} {c : Nat} (hz : (Lit.int .i64 z).wf = true) (hr : Row w a zs.length zs) (hn : zs.length ≤ 1000000) (hnil : a = none → c = 0) (hp : 0 < zs.length → ∃ b off, a = some ⟨b, off, none⟩ ∧ P b) : (T.node z zs []).InP P w (.agg #[.int .i64 z, .slice a zs.length c, .slice none 0 0]) := by
  unfold T.InP
  exact ⟨a, zs.length, c, none, 0, 0, rfl, hz, hr, by unfold maxLen; omega, hnil, rfl, Nat.zero_le _, hp, fun h => absurd h (by omega)⟩

/-- A result's box that was laid at a call's beginning. -/
structure RB (w W : World) : Prop where
  box : Blk W w.heap.size 26 #[.int .i64 0, .slice none 0 0, .slice none 0 0]
  below : Below w.heap.size w W
theorem RB.start (w : World) : RB w (w.alloc (.cells #[.int .i64 0, .slice none 0 0, .slice none 0 0] 26)) := ⟨Blk.new _ _ _, (Below.refl _ _).alloc (Nat.le_refl _) _⟩
theorem RB.go {w W W' : World} (h : RB w W) (hb : Below W.heap.size W W') : RB w W' := ⟨h.box.below hb h.box.lt, Below.step h.below hb⟩
/-- Stores into the box. -/
def boxed (w W : World) (a b c : Value) : World := ((W.setCell ⟨w.heap.size, 0, none⟩ a).setCell ⟨w.heap.size, 1, none⟩ b).setCell ⟨w.heap.size, 2, none⟩ c
theorem RB.boxed {w W : World} (h : RB w W) (a b c : Value) : Blk (boxed w W a b c) w.heap.size 26 #[a, b, c] ∧ Below w.heap.size w (boxed w W a b c) :=
  ⟨((h.box.set 0 a).set 1 b).set 2 c, ((h.below.setCell (Nat.le_refl _) _).setCell (Nat.le_refl _) _).setCell (Nat.le_refl _) _⟩
/-- What lies elsewhere lies there still. -/
theorem boxed_row {w W : World} {a : Option Addr} {n : Nat} {zs : List Int} (h : Row W a n zs) (hne : 0 < n → ∃ b off, a = some ⟨b, off, none⟩ ∧ b ≠ w.heap.size) (x y z : Value) : Row (boxed w W x y z) a n zs := by
  refine ((h.set w.heap.size 0 x hne).set w.heap.size 1 y hne).set w.heap.size 2 z hne
theorem out_off {w W : World} {a : Option Addr} {n c : Nat} {L : List Int} (h : Out w W (.slice a n c) L) (hw : 0 < L.length) : ∃ b off, a = some ⟨b, off, none⟩ ∧ w.heap.size ≤ b := by
  obtain ⟨g, cap, e, hg⟩ := h.form hw
  injection e with e1 e2 e3
  exact ⟨g, 0, e1, hg⟩
theorem boxed_in {w W W0 : World} {t : T} {v : Value} (h : t.InP (W0.heap.size ≤ ·) W v) (hW : w.heap.size < W0.heap.size) (a b c : Value) : t.InP (w.heap.size ≤ ·) (boxed w W a b c) v :=
  T.InP.keep (fun x _ hp => ⟨by have hp' : W0.heap.size ≤ x := hp; show w.heap.size ≤ x; omega, by
    have hp' : W0.heap.size ≤ x := hp
    have hx : x ≠ w.heap.size := by omega
    unfold boxed
    rw [heap_setCell_other _ ⟨w.heap.size, 2, none⟩ x c hx, heap_setCell_other _ ⟨w.heap.size, 1, none⟩ x b hx, heap_setCell_other _ ⟨w.heap.size, 0, none⟩ x a hx]⟩) (by simp [boxed]) _ h
/-- The end of a way that hands back a leaf whose bytes are the call's own. -/
theorem gives_leaf {w W W0 : World} {tmps : Array Value} {fn : Func} {p : Tmp} {z : Int} {zs : List Int} {a : Option Addr} {c : Nat} (hf : fn.results = #[.cell p 26]) (hp : tmps.getD p undef = .pointer (some ⟨w.heap.size, 0, none⟩)) (hrb : RB w W) (ho : Out W0 W (.slice a zs.length c) zs) (hW : w.heap.size < W0.heap.size) (hz : (Lit.int .i64 z).wf = true) (hb : ∀ x ∈ zs, 0 ≤ x ∧ x ≤ 255) (hn : zs.length ≤ 1000000) :
    bodyPost Tryd.prog fn (GivesNode (.node z zs []) w) .ret { tmps := tmps, defers := [] } (boxed w W (.int .i64 z) (.slice a zs.length c) (.slice none 0 0)) := by
  obtain ⟨h1, h2⟩ := hrb.boxed (.int .i64 z) (.slice a zs.length c) (.slice none 0 0)
  refine bodyPost_ret (results_cell_row hf _ _ w.heap.size 26 #[.int .i64 z, .slice a zs.length c, .slice none 0 0] (0, 0) _ hp h1 Tryd.underlying26 rfl Tryd.sizeNode3) rfl ⟨a, zs.length, c, none, 0, 0, rfl, leaf_inP hz ?_ hn ho.nilc (fun h0 => by
    obtain ⟨b, off, e, hb⟩ := out_off ho h0
    exact ⟨b, off, e, by omega⟩), h2⟩
  obtain ⟨a', c', e, hr⟩ := ho.row hb
  injection e with e1 e2 e3
  subst e1
  exact boxed_row hr (fun h0 => by
    obtain ⟨b, off, e, hb⟩ := out_off ho h0
    exact ⟨b, off, e, by omega⟩) _ _ _

/-- The end of a way that hands back an element that a callee made. -/
theorem gives_copy {w W W0 : World} {tmps : Array Value} {fn : Func} {p : Tmp} {t : T} {A : Option Addr} {n c : Nat} {K : Option Addr} {m d : Nat} (hf : fn.results = #[.cell p 26]) (hp : tmps.getD p undef = .pointer (some ⟨w.heap.size, 0, none⟩)) (hrb : RB w W) (hin : t.InP (W0.heap.size ≤ ·) W (.agg #[.int .i64 t.tag, .slice A n c, .slice K m d])) (hW : w.heap.size < W0.heap.size) :
    bodyPost Tryd.prog fn (GivesNode t w) .ret { tmps := tmps, defers := [] } (boxed w W (.int .i64 t.tag) (.slice A n c) (.slice K m d)) := by
  obtain ⟨h1, h2⟩ := hrb.boxed (.int .i64 t.tag) (.slice A n c) (.slice K m d)
  refine bodyPost_ret (results_cell_row hf _ _ w.heap.size 26 #[.int .i64 t.tag, .slice A n c, .slice K m d] (0, 0) _ hp h1 Tryd.underlying26 rfl Tryd.sizeNode3) rfl ⟨A, n, c, K, m, d, rfl, boxed_in hin hW _ _ _, h2⟩

def bigZ (zs : List Int) : List Int := if bareZ zs = [] ∨ 128 ≤ (bareZ zs)[(0 : Nat)]?.getD 0 then 0 :: bareZ zs else bareZ zs
def bigT (zs : List Int) : T := .node 2 (bigZ zs) []
theorem big_byte {zs : List Int} (h : ∀ x ∈ zs, 0 ≤ x ∧ x ≤ 255) : ∀ x ∈ bigZ zs, 0 ≤ x ∧ x ≤ 255 := by
  intro x hx
  unfold bigZ at hx
  split at hx
  · rcases List.mem_cons.1 hx with rfl | hx
    · omega
    · exact h x (bare_mem hx)
  · exact h x (bare_mem hx)
theorem big_le (zs : List Int) : (bigZ zs).length ≤ zs.length + 1 := by
  have := bare_le zs
  unfold bigZ
  split
  · rw [List.length_cons]; omega
  · omega

set_option maxHeartbeats 1000000 in
theorem rbig_any (a : Option Addr) (n ca : Nat) (zs : List Int) (w : World) (hr : Row w a n zs) (hnc : n ≤ ca) (hn : n ≤ 100000) (hnil : a = none → ca = 0) : Calls Tryd.prog 15 #[.slice a n ca] w (GivesNode (bigT zs) w) := by
  have hby := hr.2.1
  have hbb : ∀ x ∈ bareZ zs, 0 ≤ x ∧ x ≤ 255 := fun x hx => hby x (bare_mem hx)
  have hle := bare_le zs
  have hl := hr.1
  have S0 := Lib.hid (RB.start w)
  have CI := Lib.hid (rbare_any a n ca zs _ (hr.below S0.out.below) hnc hn hnil)
  have GB := Lib.hid (big_byte hby)
  have GL := Lib.hid (big_le zs)
  clear hr hnil hby
  go_enter Tryd.func15, Tryd.ntmps15
  go_wp2_with fail
  refine CI.out.mono ?_
  rintro e w2 ⟨V, rfl, ho⟩
  have S2 := Lib.hid (S0.out.go ho.2)
  obtain ⟨b2, c2, rfl, hr2⟩ := ho.row hbb
  have O2 := Lib.hid ho
  have R2 := Lib.hid hr2
  have N2 := Lib.hid ho.nilc
  have hW : w.heap.size < (w.alloc (.cells #[.int .i64 0, .slice none 0 0, .slice none 0 0] 26)).heap.size := by simp
  clear ho hr2 CI S0
  by_cases h0 : bareZ zs = []
  · have F : Hid (bigZ zs = [0] ++ bareZ zs) := if_pos (.inl h0)
    have L0 : Hid ((bareZ zs).length = 0) := by rw [h0]; exact Lib.hid rfl
    have t0 : (((bareZ zs).length : Int) == 0) = true := by rw [L0.out]; rfl
    have O3 := Lib.hid (out_one w2 0)
    have R3 := Lib.hid (R2.out.below ((Below.refl w2.heap.size w2).alloc (Nat.le_refl _) (.cells #[.int .u8 0] 5)))
    have S3 := Lib.hid (S2.out.go ((Below.refl w2.heap.size w2).alloc (Nat.le_refl _) (.cells #[.int .u8 0] 5)))
    have W2 : Hid (w.heap.size < w2.heap.size) := Nat.lt_of_lt_of_le hW O2.out.2.size
    clear h0 O2
    generalize bareZ zs = bz at *
    go_wp2_with (at_builtin; go_must (refine out_append (W0 := w2) (L := [0]) (zs := bz) rfl _ _ rfl rfl O3.out rfl R3.out N2.out (by simp; omega) ?_; intro V4 w4 ho4; have O4 := Lib.hid ho4; have S4 := Lib.hid (S2.out.go ho4.2); obtain ⟨p0, p1, p2, f0, f1, f2⟩ := S4.out.box.six; rw [← F.out] at ho4 O4; obtain ⟨b4, c4, rfl, hr4⟩ := ho4.row GB.out; clear ho4))
    exact gives_leaf rfl rfl S4.out O4.out W2.out rfl GB.out (by have := GL.out; omega)
  · have L0 : Hid (0 < (bareZ zs).length) := List.length_pos_iff.2 h0
    have t0 : (((bareZ zs).length : Int) == 0) = false := by simp; exact h0
    obtain ⟨b, off, rfl, hbl, hc⟩ := R2.out.2.2 L0.out
    have c0 := hc 0 L0.out
    rw [Nat.add_zero] at c0
    have z0 := R2.out.byte 0
    clear hc
    by_cases h8 : 128 ≤ (bareZ zs)[(0 : Nat)]?.getD 0
    · have F : Hid (bigZ zs = [0] ++ bareZ zs) := if_pos (.inr h8)
      have O3 := Lib.hid (out_one w2 0)
      have R3 := Lib.hid (R2.out.below ((Below.refl w2.heap.size w2).alloc (Nat.le_refl _) (.cells #[.int .u8 0] 5)))
      have W2 : Hid (w.heap.size < w2.heap.size) := Nat.lt_of_lt_of_le hW O2.out.2.size
      clear h0 O2
      generalize (bareZ zs)[(0 : Nat)]?.getD 0 = x0 at c0 z0 h8
      generalize bareZ zs = bz at *
      go_wp2_with (at_builtin; go_must (refine out_append (W0 := w2) (L := [0]) (zs := bz) rfl _ _ rfl rfl O3.out rfl R3.out N2.out (by simp; omega) ?_; intro V4 w4 ho4; have O4 := Lib.hid ho4; have S4 := Lib.hid (S2.out.go ho4.2); obtain ⟨p0, p1, p2, f0, f1, f2⟩ := S4.out.box.six; rw [← F.out] at ho4 O4; obtain ⟨b4, c4, rfl, hr4⟩ := ho4.row GB.out; clear ho4))
      exact gives_leaf rfl rfl S4.out O4.out W2.out rfl GB.out (by have := GL.out; omega)
    · have F : Hid (bigZ zs = bareZ zs) := if_neg (by rintro (h | h); exact h0 h; exact h8 h)
      obtain ⟨p0, p1, p2, f0, f1, f2⟩ := S2.out.box.six
      have HW := Lib.hid hW
      generalize (bareZ zs)[(0 : Nat)]?.getD 0 = x0 at c0 z0 h8
      rw [← F.out] at O2 R2 L0 t0 ⊢
      clear h0
      go_wp2_with fail
      exact gives_leaf rfl rfl S2.out O2.out HW.out rfl GB.out (by have := GL.out; omega)

end Go.Proofs.YtjhffnoddhlikaaDoor

namespace Go.Proofs.YtjhffnoddhlikaaDoor
open Go.RowKit
set_option linter.unusedVariables false

/-- How many bytes a number takes at least. -/
def leastM (n : Int) : Nat := if n / 256 ^ 1 = 0 then 1 else if n / 256 ^ 2 = 0 then 2 else if n / 256 ^ 3 = 0 then 3 else if n / 256 ^ 4 = 0 then 4 else if n / 256 ^ 5 = 0 then 5 else if n / 256 ^ 6 = 0 then 6 else if n / 256 ^ 7 = 0 then 7 else 8
theorem leastM_is {n : Int} (h0 : 0 ≤ n) (h1 : n ≤ 18446744073709551615) : IsLeast n (leastM n) := by
  have h8 := div_eight h0 h1 (Nat.le_refl 8)
  unfold leastM IsLeast
  by_cases c1 : n / 256 ^ 1 = 0
  · rw [if_pos c1]; exact ⟨by omega, by omega, c1, .inl rfl⟩
  rw [if_neg c1]
  by_cases c2 : n / 256 ^ 2 = 0
  · rw [if_pos c2]; exact ⟨by omega, by omega, c2, .inr c1⟩
  rw [if_neg c2]
  by_cases c3 : n / 256 ^ 3 = 0
  · rw [if_pos c3]; exact ⟨by omega, by omega, c3, .inr c2⟩
  rw [if_neg c3]
  by_cases c4 : n / 256 ^ 4 = 0
  · rw [if_pos c4]; exact ⟨by omega, by omega, c4, .inr c3⟩
  rw [if_neg c4]
  by_cases c5 : n / 256 ^ 5 = 0
  · rw [if_pos c5]; exact ⟨by omega, by omega, c5, .inr c4⟩
  rw [if_neg c5]
  by_cases c6 : n / 256 ^ 6 = 0
  · rw [if_pos c6]; exact ⟨by omega, by omega, c6, .inr c5⟩
  rw [if_neg c6]
  by_cases c7 : n / 256 ^ 7 = 0
  · rw [if_pos c7]; exact ⟨by omega, by omega, c7, .inr c6⟩
  rw [if_neg c7]
  exact ⟨by omega, by omega, h8, .inr c7⟩
/-- The fewest bytes of a number. -/
def leastZ (n : Int) : List Int := beZ (leastM n) n
theorem GivesLeast.is {w w' : World} {n : Int} {e : Ending} (h0 : 0 ≤ n) (h1 : n ≤ 18446744073709551615) (h : GivesLeast w n e w') : ∃ b off c, e = .returned (.slice (some ⟨b, off, none⟩) (leastM n) c) ∧ Row w' (some ⟨b, off, none⟩) (leastM n) (leastZ n) ∧ Below w.heap.size w w' ∧ leastM n ≤ c := by
  obtain ⟨m, a, c, hm, rfl, hr, hb, hc⟩ := h
  obtain rfl := IsLeast.eq h0 hm (leastM_is h0 h1)
  obtain ⟨b, off, rfl, _⟩ := hr.2.2 (by have := hm.1; omega)
  exact ⟨b, off, c, rfl, hr, hb, hc⟩
theorem leastM_le (n : Int) : leastM n ≤ 8 := by
  unfold leastM
  repeat (first | omega | split)

def intT (n : Int) : T := bigT (leastZ n)
set_option maxHeartbeats 1000000 in
theorem rint_any (n : Int) (w : World) (h0 : 0 ≤ n) (h1 : n ≤ 18446744073709551615) : Calls Tryd.prog 13 #[.int .u64 n] w (GivesNode (intT n) w) := by
  have S0 := Lib.hid (RB.start w)
  have hml := leastM_le n
  go_enter Tryd.func13, Tryd.ntmps13
  go_wp2_with fail
  refine (rleast_any n _ h0 h1).mono ?_
  intro e w2 h2
  obtain ⟨b, off, c, rfl, hr, hb, hc⟩ := h2.is h0 h1
  have S2 := Lib.hid (S0.out.go hb)
  have CI := Lib.hid (rbig_any (some ⟨b, off, none⟩) (leastM n) c (leastZ n) w2 hr hc (by omega) (fun e => by cases e))
  clear h2 hr hb S0
  generalize leastM n = m at CI hc hml
  go_wp2_with fail
  refine CI.out.mono ?_
  rintro e w3 ⟨A, n3, c3, K, m3, d3, rfl, hin, hb3⟩
  have S3 := Lib.hid (S2.out.go hb3)
  have IN := Lib.hid hin
  have W2 : Hid (w.heap.size < w2.heap.size) := S2.out.box.lt
  obtain ⟨p0, p1, p2, f0, f1, f2⟩ := S3.out.box.six
  clear hin hb3 CI S2
  go_wp2_with fail
  exact gives_copy rfl rfl S3.out IN.out W2.out

theorem same_test (x y : T) (h : x = y) : sameT x y = true := by rw [h]; exact same_refl y
theorem same_no (x y : T) (h : ¬ x = y) : sameT x y = false := by
  cases hs : sameT x y
  · rfl
  · exact absurd (same_is x y hs) h

/-- Great's answer. -/
def greatZ (t : T) : List Int × Int := if sameT t (bigT (bareZ t.body)) = true then (bareZ t.body, 0) else ([], 2)
/-- A row of bytes and an error. -/
def GivesBE (x : List Int × Int) (w : World) (e : Ending) (w' : World) : Prop :=
  ∃ a c, e = .returned (.tuple #[.slice a x.1.length c, .int .i64 x.2]) ∧ Row w' a x.1.length x.1 ∧ (a = none → c = 0) ∧ x.1.length ≤ c ∧ Below w.heap.size w w'


end Go.Proofs.YtjhffnoddhlikaaDoor

namespace Go.Proofs.YtjhffnoddhlikaaDoor
open Go.RowKit
set_option linter.unusedVariables false

theorem Box.laters {w wr : World} {g : Nat} {t : T} {A : Option Addr} {n c : Nat} {K : Option Addr} {m d : Nat} (h : Box w wr g t A n c K m d) : (∀ W, Ext wr.drew W → W.cell? ⟨g, 0, none⟩ = some (.int .i64 t.tag)) ∧ (∀ W, Ext wr.drew W → W.cell? ⟨g, 1, none⟩ = some (.slice A n c)) ∧ (∀ W, Ext wr.drew W → W.cell? ⟨g, 2, none⟩ = some (.slice K m d)) :=
  ⟨cell_later h.cells.1, cell_later h.cells.2.1, cell_later h.cells.2.2⟩

set_option maxHeartbeats 2000000 in
set_option maxRecDepth 100000 in
theorem rgreat_any (t : T) (v : Value) (w : World) (hin : t.In w v) (hcap : Capped v) (hwt : t.body.length ≤ 30000) : Calls Tryd.prog 19 #[v] w (GivesBE (greatZ t) w) := by
  obtain ⟨A, n, c, K, m, d, rfl, hw, hr, hn, hc, hm, hm', hks⟩ := hin.open
  have hnc := hcap.is
  have BX := Lib.hid (Box.start hin)
  have hby := hr.2.1
  have hbb : ∀ x ∈ bareZ t.body, 0 ≤ x ∧ x ≤ 255 := fun x hx => hby x (bare_mem hx)
  have hle := bare_le t.body
  have hl := hr.1
  have GZ : Hid (greatZ t = if sameT t (bigT (bareZ t.body)) = true then (bareZ t.body, 0) else ([], 2)) := rfl
  have CI := Lib.hid (rbare_any A n c t.body _ (hr.below BX.out.below) hnc (by omega) hc)
  obtain ⟨g0, g1, g2⟩ := BX.out.cells
  clear hr hks hc hin hcap hby hm hm' hw hn
  go_enter Tryd.func19, Tryd.ntmps19
  go_wp2_with fail
  refine CI.out.mono ?_
  rintro e w2 h2
  obtain ⟨b2, c2, rfl, hr2, hn2, hc2, hb2⟩ := h2.row hbb
  have B2 := Lib.hid (BX.out.go hb2)
  have R2 := Lib.hid hr2
  clear g0 g1 g2 h2 CI hb2 BX hr2
  obtain ⟨l0, l1, l2⟩ := B2.out.laters
  have CB := Lib.hid (fun W (hW : Ext w2 W) => rbig_any b2 (bareZ t.body).length c2 (bareZ t.body) W (R2.out.below hW) hc2 (by omega) hn2)
  have CS := Lib.hid (fun W (hW : Ext w2 W) u (x : T) (hx : x.In W u) => same_any t x _ u W (T.In.below hW t B2.out.has) hx)
  go_wp2_with fail
  refine wp_region_ord Ext Ext.refl (fun _ _ _ => Ext.trans) ((0, false) :: (1, false) :: (2, true) :: (3, true) :: (4, false) :: []) (by kernel_rfl) (by kernel_rfl) rfl (by kernel_rfl) (fun _ _ _ _ _ h => h) ?_
  repeat (refine ord_take _ rfl (by rfl) (fun W hW => by go_simp; first | done | rfl) ?_; simp only [Act.put, List.setIfInBounds_toArray, List.set_cons_zero, List.set_cons_succ])
  clear l0 l1 l2
  refine ord_sole rfl (by rfl) (fun K1 hK1 => ?_)
  go_simp
  refine (CB.out _ (Ext.of_drew (Ext.refl _))).mono ?_
  rintro e w3 ⟨A3, n3, c3, K3, m3, d3, rfl, hin3, hb3⟩
  have E3 : Hid (Ext w2 w3) := Ext.of_drew hb3
  have H3 := Lib.hid (T.InP.in _ hin3)
  refine hK1 _ _ hb3 ?_
  clear hK1 K1 CB hb3 hin3
  refine ord_sole rfl (by rfl) (fun K1 hK1 => ?_)
  go_simp
  refine (CS.out _ E3.out _ _ H3.out).mono ?_
  rintro e w4 ⟨rfl, hb4⟩
  have E4 : Hid (Ext w2 w4) := Ext.trans E3.out hb4
  refine hK1 _ _ hb4 ?_
  clear hK1 K1 CS hb4 H3 E3
  have B4 := Lib.hid (B2.out.go E4.out)
  have R4 := Lib.hid (R2.out.below E4.out)
  clear B2 R2 E4
  cases hs : sameT t (bigT (bareZ t.body))
  · have F : Hid (greatZ t = ([], 2)) := by rw [GZ.out, hs]; rfl
    clear GZ
    repeat (refine ord_take _ rfl (by rfl) (fun W hW => by go_simp; first | done | rfl) ?_; simp only [Act.put, List.setIfInBounds_toArray, List.set_cons_zero, List.set_cons_succ])
    refine ord_end ?_
    go_wp2_with fail
    go_ret2
    rw [F.out]
    exact ⟨none, 0, rfl, Row.nil _ _, fun _ => rfl, Nat.le_refl _, B4.out.below⟩
  · have F : Hid (greatZ t = (bareZ t.body, 0)) := by rw [GZ.out, hs]; rfl
    clear GZ
    repeat (refine ord_take _ rfl (by rfl) (fun W hW => by go_simp; first | done | rfl) ?_; simp only [Act.put, List.setIfInBounds_toArray, List.set_cons_zero, List.set_cons_succ])
    refine ord_end ?_
    go_wp2_with fail
    go_ret2
    rw [F.out]
    exact ⟨b2, c2, rfl, R4.out, hn2, hc2, B4.out.below⟩

end Go.Proofs.YtjhffnoddhlikaaDoor

namespace Go.Proofs.YtjhffnoddhlikaaDoor
open Go.RowKit
set_option linter.unusedVariables false

def boolT (b : Bool) : T := .node 1 [if b then 255 else 0] []
/-- The end of a way that hands back a leaf that lies in the result's block. -/
theorem gives_at {w W : World} {tmps : Array Value} {fn : Func} {p : Tmp} {z : Int} {zs : List Int} {a : Option Addr} {c : Nat} (hf : fn.results = #[.cell p 26]) (hp : tmps.getD p undef = .pointer (some ⟨w.heap.size, 0, none⟩)) (hblk : Blk W w.heap.size 26 #[.int .i64 z, .slice a zs.length c, .slice none 0 0]) (hbel : Below w.heap.size w W) (hr : Row W a zs.length zs) (hg : 0 < zs.length → ∃ b off, a = some ⟨b, off, none⟩ ∧ w.heap.size ≤ b) (hnil : a = none → c = 0) (hz : (Lit.int .i64 z).wf = true) (hn : zs.length ≤ 1000000) :
    bodyPost Tryd.prog fn (GivesNode (.node z zs []) w) .ret { tmps := tmps, defers := [] } W :=
  bodyPost_ret (results_cell_row hf _ _ w.heap.size 26 #[.int .i64 z, .slice a zs.length c, .slice none 0 0] (0, 0) _ hp hblk Tryd.underlying26 rfl Tryd.sizeNode3) rfl ⟨a, zs.length, c, none, 0, 0, rfl, leaf_inP hz hr hn hnil hg, hbel⟩
theorem byte_at (w : World) (x z : Int) (hx : 0 ≤ x ∧ x ≤ 255) : let W := (w.alloc (.cells #[.int .i64 z, .slice (some ⟨w.heap.size + 1, 0, none⟩) 1 1, .slice none 0 0] 26)).alloc (.cells #[.int .u8 x] 5)
    Blk W w.heap.size 26 #[.int .i64 z, .slice (some ⟨w.heap.size + 1, 0, none⟩) 1 1, .slice none 0 0] ∧ Below w.heap.size w W ∧ Row W (some ⟨w.heap.size + 1, 0, none⟩) 1 [x] := by
  intro W
  have hb := Blk.new w 26 #[.int .i64 z, .slice (some ⟨w.heap.size + 1, 0, none⟩) 1 1, .slice none 0 0]
  have hs : (w.alloc (.cells #[.int .i64 z, .slice (some ⟨w.heap.size + 1, 0, none⟩) 1 1, .slice none 0 0] 26)).heap.size = w.heap.size + 1 := by simp
  have hr := row_const (w.alloc (.cells #[.int .i64 z, .slice (some ⟨w.heap.size + 1, 0, none⟩) 1 1, .slice none 0 0] 26)) [x] (0, 0) (by simpa using hx)
  rw [hs] at hr
  exact ⟨hb.below ((Below.refl _ _).alloc (Nat.le_refl _) _) (by omega), ((Below.refl _ _).alloc (Nat.le_refl _) _).alloc (by omega) _, hr⟩
set_option maxHeartbeats 1000000 in
theorem rbool_any (b : Bool) (w : World) : Calls Tryd.prog 32 #[.bool b] w (GivesNode (boolT b) w) := by
  cases b
  · obtain ⟨h1, h2, h3⟩ := byte_at w 0 1 (by omega)
    have H1 := Lib.hid h1
    have H2 := Lib.hid h2
    have H3 := Lib.hid h3
    clear h1 h2 h3
    go_enter Tryd.func32, Tryd.ntmps32
    go_wp2_with fail
    exact gives_at (z := 1) (zs := [0]) (c := 1) rfl rfl H1.out H2.out H3.out (fun _ => ⟨_, _, rfl, by omega⟩) (fun e => by cases e) rfl (by simp)
  · obtain ⟨h1, h2, h3⟩ := byte_at w 255 1 (by omega)
    have H1 := Lib.hid h1
    have H2 := Lib.hid h2
    have H3 := Lib.hid h3
    clear h1 h2 h3
    go_enter Tryd.func32, Tryd.ntmps32
    go_wp2_with fail
    exact gives_at (z := 1) (zs := [255]) (c := 1) rfl rfl H1.out H2.out H3.out (fun _ => ⟨_, _, rfl, by omega⟩) (fun e => by cases e) rfl (by simp)

/-- True's answer. -/
def trueZ (t : T) : Bool × Int := if sameT t (boolT true) = true then (true, 0) else if sameT t (boolT false) = true then (false, 0) else (false, 2)
def GivesTruth (x : Bool × Int) (w : World) (e : Ending) (w' : World) : Prop := e = .returned (.tuple #[.bool x.1, .int .i64 x.2]) ∧ Below w.heap.size w w'
theorem GivesTruth.of {x : Bool × Int} {b : Bool} {n : Int} {w w' : World} (h : x = (b, n)) (hb : Below w.heap.size w w') : GivesTruth x w (.returned (.tuple #[.bool b, .int .i64 n])) w' := by subst h; exact ⟨rfl, hb⟩

set_option maxHeartbeats 2000000 in
set_option maxRecDepth 100000 in
theorem rtrue_any (t : T) (v : Value) (w : World) (hin : t.In w v) : Calls Tryd.prog 30 #[v] w (GivesTruth (trueZ t) w) := by
  obtain ⟨A, n, c, K, m, d, rfl, hw, hr, hn, hc, hm, hm', hks⟩ := hin.open
  have B2 := Lib.hid (Box.start hin)
  have GZ : Hid (trueZ t = if sameT t (boolT true) = true then (true, 0) else if sameT t (boolT false) = true then (false, 0) else (false, 2)) := rfl
  clear hr hks hc hin hm hm' hw hn
  go_enter Tryd.func30, Tryd.ntmps30
  generalize hw2 : w.alloc (.cells #[.int .i64 t.tag, .slice A n c, .slice K m d] 26) = w2 at B2
  obtain ⟨l0, l1, l2⟩ := B2.out.laters
  have CB := Lib.hid (fun W (hW : Ext w2 W) => rbool_any true W)
  have CS := Lib.hid (fun W (hW : Ext w2 W) u (x : T) (hx : x.In W u) => same_any t x _ u W (T.In.below hW t B2.out.has) hx)
  go_wp2_with fail
  clear hw2
  refine wp_region_ord Ext Ext.refl (fun _ _ _ => Ext.trans) ((0, false) :: (1, true) :: (2, true) :: []) (by kernel_rfl) (by kernel_rfl) rfl (by kernel_rfl) (fun _ _ _ _ _ h => h) ?_
  repeat (refine ord_take _ rfl (by rfl) (fun W hW => by go_simp; first | done | rfl) ?_; simp only [Act.put, List.setIfInBounds_toArray, List.set_cons_zero, List.set_cons_succ])
  clear l0 l1 l2
  refine ord_sole rfl (by rfl) (fun K1 hK1 => ?_)
  go_simp
  refine (CB.out _ (Ext.of_drew (Ext.refl _))).mono ?_
  rintro e w3 ⟨A3, n3, c3, K3, m3, d3, rfl, hin3, hb3⟩
  have E3 : Hid (Ext w2 w3) := Ext.of_drew hb3
  have H3 := Lib.hid (T.InP.in _ hin3)
  refine hK1 _ _ hb3 ?_
  clear hK1 K1 CB hb3 hin3
  refine ord_sole rfl (by rfl) (fun K1 hK1 => ?_)
  go_simp
  refine (CS.out _ E3.out _ _ H3.out).mono ?_
  rintro e w4 ⟨rfl, hb4⟩
  have E4 : Hid (Ext w2 w4) := Ext.trans E3.out hb4
  refine hK1 _ _ hb4 ?_
  clear hK1 K1 CS hb4 H3 E3
  have B4 := Lib.hid (B2.out.go E4.out)
  clear B2 E4
  cases hs : sameT t (boolT true)
  · have F0 : Hid (trueZ t = if sameT t (boolT false) = true then (false, 0) else (false, 2)) := by rw [GZ.out, hs]; rfl
    clear GZ
    refine ord_end ?_
    obtain ⟨l0, l1, l2⟩ := B4.out.laters
    have CB := Lib.hid (fun W (hW : Ext w4 W) => rbool_any false W)
    have CS := Lib.hid (fun W (hW : Ext w4 W) u (x : T) (hx : x.In W u) => same_any t x _ u W (T.In.below hW t B4.out.has) hx)
    go_wp2_with fail
    refine wp_region_ord Ext Ext.refl (fun _ _ _ => Ext.trans) ((0, false) :: (1, true) :: (2, true) :: []) (by kernel_rfl) (by kernel_rfl) rfl (by kernel_rfl) (fun _ _ _ _ _ h => h) ?_
    repeat (refine ord_take _ rfl (by rfl) (fun W hW => by go_simp; first | done | rfl) ?_; simp only [Act.put, List.setIfInBounds_toArray, List.set_cons_zero, List.set_cons_succ])
    clear l0 l1 l2
    refine ord_sole rfl (by rfl) (fun K1 hK1 => ?_)
    go_simp
    refine (CB.out _ (Ext.of_drew (Ext.refl _))).mono ?_
    rintro e w5 ⟨A5, n5, c5, K5, m5, d5, rfl, hin5, hb5⟩
    have E5 : Hid (Ext w4 w5) := Ext.of_drew hb5
    have H5 := Lib.hid (T.InP.in _ hin5)
    refine hK1 _ _ hb5 ?_
    clear hK1 K1 CB hb5 hin5
    refine ord_sole rfl (by rfl) (fun K1 hK1 => ?_)
    go_simp
    refine (CS.out _ E5.out _ _ H5.out).mono ?_
    rintro e w6 ⟨rfl, hb6⟩
    have E6 : Hid (Ext w4 w6) := Ext.trans E5.out hb6
    refine hK1 _ _ hb6 ?_
    clear hK1 K1 CS hb6 H5 E5
    have B6 := Lib.hid (Below.step B4.out.below E6.out)
    clear B4 E6
    cases hs2 : sameT t (boolT false)
    · have F : Hid (trueZ t = (false, 2)) := by rw [F0.out, hs2]; rfl
      refine ord_end ?_
      go_wp2_with fail
      go_ret2
      exact GivesTruth.of F.out B6.out
    · have F : Hid (trueZ t = (false, 0)) := by rw [F0.out, hs2]; rfl
      refine ord_end ?_
      go_wp2_with fail
      go_ret2
      exact GivesTruth.of F.out B6.out
  · have F : Hid (trueZ t = (true, 0)) := by rw [GZ.out, hs]; rfl
    clear GZ
    refine ord_end ?_
    go_wp2_with fail
    go_ret2
    exact GivesTruth.of F.out B4.out.below

end Go.Proofs.YtjhffnoddhlikaaDoor

namespace Go.Proofs.YtjhffnoddhlikaaDoor
open Go.RowKit
set_option linter.unusedVariables false

/-- Sevens of a number, ahead of what is there. -/
def sevN (n : Nat) (acc : List Int) : List Int := if h : 128 ≤ n then sevN (n / 128) (((n / 128 % 128 : Nat) + 128 : Int) :: acc) else acc
termination_by n
decreasing_by omega
def sevenN (n : Nat) : List Int := sevN n [((n % 128 : Nat) : Int)]
def SevB (l n : Nat) : Prop := (l ≤ 1 ∨ n < 2 ^ 57) ∧ (l ≤ 2 ∨ n < 2 ^ 50) ∧ (l ≤ 3 ∨ n < 2 ^ 43) ∧ (l ≤ 4 ∨ n < 2 ^ 36) ∧ (l ≤ 5 ∨ n < 2 ^ 29) ∧ (l ≤ 6 ∨ n < 2 ^ 22) ∧ (l ≤ 7 ∨ n < 2 ^ 15) ∧ (l ≤ 8 ∨ n < 2 ^ 8) ∧ (l ≤ 9 ∨ n < 2 ^ 1) ∧ l ≤ 10 ∧ n < 2 ^ 64
theorem SevB.step {l n : Nat} (h : SevB l n) (hn : 128 ≤ n) : SevB (l + 1) (n / 128) := by
  unfold SevB at h ⊢
  omega
theorem sevN_more {n : Nat} (h : 128 ≤ n) (acc : List Int) : sevN n acc = sevN (n / 128) (((n / 128 % 128 : Nat) + 128 : Int) :: acc) := by rw [sevN, dif_pos h]
theorem sevN_end {n : Nat} (h : ¬ 128 ≤ n) (acc : List Int) : sevN n acc = acc := by rw [sevN, dif_neg h]
theorem sevN_byte (n : Nat) : ∀ acc : List Int, (∀ x ∈ acc, 0 ≤ x ∧ x ≤ 255) → ∀ x ∈ sevN n acc, 0 ≤ x ∧ x ≤ 255 := by
  induction n using Nat.strongRecOn with
  | ind n ih =>
    intro acc ha
    by_cases h : 128 ≤ n
    · rw [sevN_more h]
      refine ih _ (by omega) _ ?_
      intro x hx
      rcases List.mem_cons.1 hx with rfl | hx
      · omega
      · exact ha x hx
    · rw [sevN_end h]
      exact ha
theorem sevN_len (n : Nat) : ∀ acc : List Int, SevB acc.length n → (sevN n acc).length ≤ 10 := by
  induction n using Nat.strongRecOn with
  | ind n ih =>
    intro acc ha
    by_cases h : 128 ≤ n
    · rw [sevN_more h]
      exact ih _ (by omega) _ (ha.step h)
    · rw [sevN_end h]
      exact ha.2.2.2.2.2.2.2.2.2.1
theorem seven_byte (n : Nat) : ∀ x ∈ sevenN n, 0 ≤ x ∧ x ≤ 255 := sevN_byte n _ (by intro x hx; simp at hx; omega)
theorem seven_len {n : Nat} (h : n < 2 ^ 64) : (sevenN n).length ≤ 10 := sevN_len n _ (by unfold SevB; simp; omega)

theorem Out.wider {w W0 wr : World} {V : Value} {L : List Int} (h : Out W0 wr V L) (hb : Below w.heap.size w W0) : Out w wr V L := by
  refine ⟨⟨h.1.1, ?_⟩, Below.step hb h.2⟩
  rcases h.1.2 with h' | ⟨g, cap, cur, e, h1, h2⟩
  · exact .inl h'
  · exact .inr ⟨g, cap, cur, e, Nat.le_trans hb.size h1, h2⟩

set_option maxHeartbeats 1000000 in
set_option maxRecDepth 10000 in
theorem seven_any (n0 : Nat) (w : World) (hn0 : n0 < 2 ^ 64) : Calls Tryd.prog 55 #[.int .u64 n0] w (GivesNew (sevenN n0) w) := by
  have O0 := Lib.hid (out_one w ((n0 % 128 : Nat) : Int))
  have e0 : IntKind.u8.wrap ((n0 : Int) % 128) = ((n0 % 128 : Nat) : Int) := by rw [IntWalk.u8_in _ (by omega)]; omega
  go_enter Tryd.func55, Tryd.ntmps55
  go_wp2_with fail
  go_loopw [0, 3] (fun t V wr => ∃ (n : Nat) (L : List Int), t = .int .u64 (n : Int) ∧ SevB L.length n ∧ Out w wr V L ∧ (∀ x ∈ L, 0 ≤ x ∧ x ≤ 255) ∧ sevN n L = sevenN n0) (fun t _ _ => (intOf t).toNat)
  case atStart => exact ⟨n0, [((n0 % 128 : Nat) : Int)], rfl, by unfold SevB; simp; omega, O0.out, by intro x hx; simp at hx; omega, rfl⟩
  case round =>
    obtain ⟨n, L, rfl, hsb, ho, hby, hs⟩ := hrel
    have HS := Lib.hid hs
    have HO := Lib.hid ho
    obtain ⟨a, c, rfl, hr⟩ := ho.row hby
    have RW := Lib.hid hr
    have HB := Lib.hid hby
    have SB := Lib.hid hsb
    have hl10 : L.length ≤ 10 := hsb.2.2.2.2.2.2.2.2.2.1
    have hn64 : n < 2 ^ 64 := hsb.2.2.2.2.2.2.2.2.2.2
    clear hs ho hr hby hsb O0
    by_cases h : 128 ≤ n
    · have N : Hid (sevN (n / 128) (((n / 128 % 128 : Nat) + 128 : Int) :: L) = sevenN n0) := by rw [← sevN_more h]; exact HS
      have S2 := Lib.hid (SB.out.step h)
      clear HS SB
      have e1 : IntKind.u8.wrap ((n : Int) / 128 % 128 + 128) = ((n / 128 % 128 : Nat) + 128 : Int) := by rw [IntWalk.u8_in _ (by omega)]; omega
      have hx : (0 : Int) ≤ ((n / 128 % 128 : Nat) + 128 : Int) ∧ ((n / 128 % 128 : Nat) + 128 : Int) ≤ 255 := by omega
      generalize ((n / 128 % 128 : Nat) + 128 : Int) = x at *
      have O3 := Lib.hid (out_one wr x)
      have R3 := Lib.hid (RW.out.below ((Below.refl wr.heap.size wr).alloc (Nat.le_refl _) (.cells #[.int .u8 x] 5)))
      have NI := Lib.hid HO.out.nilc
      go_wp2_with (at_builtin; go_must (refine out_append (W0 := wr) (L := [x]) (zs := L) rfl _ _ rfl rfl O3.out rfl R3.out NI.out (by simp; omega) ?_; intro V4 w4 ho4; have O4 := Lib.hid (ho4.wider HO.out.2); clear ho4))
      go_roundw
      case rel => exact ⟨n / 128, x :: L, by first | rfl | simp, S2.out, O4.out, (by intro y hy; rcases List.mem_cons.1 hy with rfl | hy; exact hx; exact HB.out y hy), N.out⟩
      case measure => simp [intOf]; omega
    · have F : Hid (sevenN n0 = L) := by rw [← HS.out, sevN_end h]; exact Lib.hid rfl
      clear HS SB
      go_wp2_with fail
      go_ret
      exact ⟨_, rfl, by rw [F.out]; exact HO.out⟩

theorem numZ_range (zs : List Int) (hb : ∀ x ∈ zs, 0 ≤ x ∧ x ≤ 255) : ∀ n : Int, 0 ≤ n → n ≤ 18446744073709551615 → 0 ≤ (numZ n zs).1 ∧ (numZ n zs).1 ≤ 18446744073709551615 := by
  induction zs with
  | nil => intro n h0 h1; exact ⟨h0, h1⟩
  | cons x xs ih =>
    intro n h0 h1
    rw [numZ]
    split
    · exact ⟨by simp, by simp⟩
    · rename_i hc
      have hx := hb x (List.mem_cons_self ..)
      unfold B56 at hc
      exact ih (fun y hy => hb y (List.mem_cons_of_mem _ hy)) _ (by omega) (by omega)

/-- Uint's answer. -/
def uintZ (t : T) : Int × Int := if (numZ 0 t.body).2 = true ∧ sameT t (intT (numZ 0 t.body).1) = true then ((numZ 0 t.body).1, 0) else (0, 2)
def GivesUint (x : Int × Int) (w : World) (e : Ending) (w' : World) : Prop := e = .returned (.tuple #[.int .u64 x.1, .int .i64 x.2]) ∧ Below w.heap.size w w'
theorem GivesUint.of {x : Int × Int} {b : Int} {n : Int} {w w' : World} (h : x = (b, n)) (hb : Below w.heap.size w w') : GivesUint x w (.returned (.tuple #[.int .u64 b, .int .i64 n])) w' := by subst h; exact ⟨rfl, hb⟩

set_option maxHeartbeats 2000000 in
set_option maxRecDepth 100000 in
theorem ruint_any (t : T) (v : Value) (w : World) (hin : t.In w v) (hwt : t.body.length ≤ 1000000) : Calls Tryd.prog 17 #[v] w (GivesUint (uintZ t) w) := by
  obtain ⟨A, n, c, K, m, d, rfl, hw, hr, hn, hc, hm, hm', hks⟩ := hin.open
  have B2 := Lib.hid (Box.start hin)
  have GZ : Hid (uintZ t = if (numZ 0 t.body).2 = true ∧ sameT t (intT (numZ 0 t.body).1) = true then ((numZ 0 t.body).1, 0) else (0, 2)) := rfl
  have NR := numZ_range t.body hr.2.1 0 (by omega) (by omega)
  have hl := hr.1
  have CN := Lib.hid (rnum_any A n c t.body _ (hr.below B2.out.below) (by omega))
  obtain ⟨g0, g1, g2⟩ := B2.out.cells
  clear hr hks hc hin hm hm' hw hn hl
  generalize (numZ 0 t.body).1 = x at *
  generalize hz : (numZ 0 t.body).2 = is at *
  clear hz
  go_enter Tryd.func17, Tryd.ntmps17
  generalize hw2 : w.alloc (.cells #[.int .i64 t.tag, .slice A n c, .slice K m d] 26) = w2 at *
  go_wp2_with fail
  refine CN.out.mono ?_
  rintro e w3 ⟨rfl, rfl⟩
  clear hw2 CN
  go_wp2_with fail
  clear g0 g1 g2
  obtain ⟨l0, l1, l2⟩ := B2.out.laters
  have CB := Lib.hid (fun W => rint_any x W NR.1 NR.2)
  have CS := Lib.hid (fun W (hW : Ext w3 W) u (y : T) (hy : y.In W u) => same_any t y _ u W (T.In.below hW t B2.out.has) hy)
  refine wp_region_ord Ext Ext.refl (fun _ _ _ => Ext.trans) ((0, false) :: (1, false) :: (2, false) :: (3, false) :: (4, false) :: (5, true) :: (6, true) :: (7, false) :: (8, false) :: []) (by kernel_rfl) (by kernel_rfl) rfl (by kernel_rfl) (fun _ _ _ _ _ h => h) ?_
  cases is
  · have F : Hid (uintZ t = (0, 2)) := by rw [GZ.out]; simp [Hid]
    clear GZ CB CS
    repeat (first | (refine ord_take _ rfl (by rfl) (fun W hW => by go_simp; first | done | rfl) ?_; simp only [Act.put, List.setIfInBounds_toArray, List.set_cons_zero, List.set_cons_succ]) | (refine ord_skip rfl (by rfl) ?_; simp only [Act.put, List.setIfInBounds_toArray, List.set_cons_zero, List.set_cons_succ]))
    refine ord_end ?_
    go_wp2_with fail
    go_ret2
    exact GivesUint.of F.out (Ext.drew B2.out.below)
  have GX : Hid (uintZ t = if sameT t (intT x) = true then (x, 0) else (0, 2)) := by rw [GZ.out]; simp [Hid]
  clear GZ
  repeat (refine ord_take _ rfl (by rfl) (fun W hW => by go_simp; first | done | rfl) ?_; simp only [Act.put, List.setIfInBounds_toArray, List.set_cons_zero, List.set_cons_succ])
  clear l0 l1 l2
  refine ord_sole rfl (by rfl) (fun K1 hK1 => ?_)
  go_simp
  refine (CB.out _).mono ?_
  rintro e w4 ⟨A3, n3, c3, K3, m3, d3, rfl, hin3, hb3⟩
  have E3 : Hid (Ext w3 w4) := Ext.of_drew hb3
  have H3 := Lib.hid (T.InP.in _ hin3)
  refine hK1 _ _ hb3 ?_
  clear hK1 K1 CB hb3 hin3
  refine ord_sole rfl (by rfl) (fun K1 hK1 => ?_)
  go_simp
  refine (CS.out _ E3.out _ _ H3.out).mono ?_
  rintro e w5 ⟨rfl, hb4⟩
  have E4 : Hid (Ext w3 w5) := Ext.trans E3.out hb4
  refine hK1 _ _ hb4 ?_
  clear hK1 K1 CS hb4 H3 E3
  have B4 := Lib.hid (Below.step B2.out.below E4.out)
  clear B2 E4
  cases hs : sameT t (intT x)
  · have F : Hid (uintZ t = (0, 2)) := by rw [GX.out, hs]; rfl
    repeat (refine ord_take _ rfl (by rfl) (fun W hW => by go_simp; first | done | rfl) ?_; simp only [Act.put, List.setIfInBounds_toArray, List.set_cons_zero, List.set_cons_succ])
    refine ord_end ?_
    go_wp2_with fail
    go_ret2
    exact GivesUint.of F.out B4.out
  · have F : Hid (uintZ t = (x, 0)) := by rw [GX.out, hs]; rfl
    repeat (refine ord_take _ rfl (by rfl) (fun W hW => by go_simp; first | done | rfl) ?_; simp only [Act.put, List.setIfInBounds_toArray, List.set_cons_zero, List.set_cons_succ])
    refine ord_end ?_
    go_wp2_with fail
    go_ret2
    exact GivesUint.of F.out B4.out

end Go.Proofs.YtjhffnoddhlikaaDoor

namespace Go.Proofs.YtjhffnoddhlikaaDoor
open Go.RowKit
set_option linter.unusedVariables false

/-- A call that hands an element and an error back. -/
def GivesNodeE (x : T × Int) (w : World) (e : Ending) (w' : World) : Prop :=
  ∃ (A : Option Addr) (n c : Nat) (K : Option Addr) (m d : Nat), e = .returned (.tuple #[.agg #[.int .i64 x.1.tag, .slice A n c, .slice K m d], .int .i64 x.2]) ∧ x.1.InP (w.heap.size ≤ ·) w' (.agg #[.int .i64 x.1.tag, .slice A n c, .slice K m d]) ∧ Below w.heap.size w w'
theorem results_nodee {P : Program} {fn : Func} {p u : Tmp} {ty : TypeId} (h : fn.results = #[.cell p ty, .tmp u]) (tmps : Array Value) (w : World) (g : Nat) (t : TypeId) (cs : Array Value) (fr : Nat × Nat) (d : TypeDesc)
    (hp : tmps.getD p undef = .pointer (some ⟨g, 0, none⟩)) (hg : w.heap[g]? = some (.cells cs t fr))
    (hu : P.underlying ty = some d) (hd : (match d with | .struct _ | .array _ _ => true | _ => false) = true) (hi : (P.info? ty).map (·.size) = some cs.size) :
    (results fn tmps).run P w = .ok (.tuple #[.agg cs, tmps.getD u undef]) w := by
  rw [results_cell_tmp h, hp]
  simp [asAddr, run_loadVar_row w g t ty cs fr d hg hu hd hi, Result.andThen]
/-- The end of a way that hands back a leaf that lies in the result's block, and an error. -/
theorem gives_ate {w W : World} {tmps : Array Value} {fn : Func} {p u : Tmp} {x : T × Int} {z er : Int} {zs : List Int} {a : Option Addr} {c : Nat} (hx : x = (.node z zs [], er)) (hf : fn.results = #[.cell p 26, .tmp u]) (hp : tmps.getD p undef = .pointer (some ⟨w.heap.size, 0, none⟩)) (hu : tmps.getD u undef = .int .i64 er) (hblk : Blk W w.heap.size 26 #[.int .i64 z, .slice a zs.length c, .slice none 0 0]) (hbel : Below w.heap.size w W) (hr : Row W a zs.length zs) (hg : 0 < zs.length → ∃ b off, a = some ⟨b, off, none⟩ ∧ w.heap.size ≤ b) (hnil : a = none → c = 0) (hz : (Lit.int .i64 z).wf = true) (hn : zs.length ≤ 1000000) :
    bodyPost Tryd.prog fn (GivesNodeE x w) .ret { tmps := tmps, defers := [] } W := by
  subst hx
  have h := results_nodee (P := Tryd.prog) hf tmps W w.heap.size 26 #[.int .i64 z, .slice a zs.length c, .slice none 0 0] (0, 0) _ hp hblk Tryd.underlying26 rfl Tryd.sizeNode3
  rw [hu] at h
  exact bodyPost_ret h rfl ⟨a, zs.length, c, none, 0, 0, rfl, leaf_inP hz hr hn hnil hg, hbel⟩
/-- The same, where the box has been stored into. -/
theorem gives_leafe {w W : World} {tmps : Array Value} {fn : Func} {p u : Tmp} {x : T × Int} {z er : Int} {zs : List Int} {a : Option Addr} {c : Nat} (hx : x = (.node z zs [], er)) (hf : fn.results = #[.cell p 26, .tmp u]) (hp : tmps.getD p undef = .pointer (some ⟨w.heap.size, 0, none⟩)) (hu : tmps.getD u undef = .int .i64 er) (hrb : RB w W) (hr : Row W a zs.length zs) (hg : 0 < zs.length → ∃ b off, a = some ⟨b, off, none⟩ ∧ w.heap.size < b) (hnil : a = none → c = 0) (hz : (Lit.int .i64 z).wf = true) (hn : zs.length ≤ 1000000) :
    bodyPost Tryd.prog fn (GivesNodeE x w) .ret { tmps := tmps, defers := [] } (boxed w W (.int .i64 z) (.slice a zs.length c) (.slice none 0 0)) := by
  obtain ⟨h1, h2⟩ := hrb.boxed (.int .i64 z) (.slice a zs.length c) (.slice none 0 0)
  refine gives_ate hx hf hp hu h1 h2 (boxed_row hr (fun h0 => ?_) _ _ _) (fun h0 => ?_) hnil hz hn
  · obtain ⟨b, off, e, hb⟩ := hg h0
    exact ⟨b, off, e, by omega⟩
  · obtain ⟨b, off, e, hb⟩ := hg h0
    exact ⟨b, off, e, by omega⟩

def Fair (s : ByteArray) (k : Nat) : Prop := s.size ≤ 200 ∧ 32 ≤ nth s k ∧ nth s k ≤ 126
instance (s : ByteArray) (k : Nat) : Decidable (Fair s k) := by unfold Fair; infer_instance
def textZ (s : ByteArray) : T × Int := if ∀ k, k < s.size → Fair s k then (.node 22 (numsOf s) [], 0) else (zeroT, 1)

set_option maxHeartbeats 1000000 in
set_option maxRecDepth 10000 in
theorem rtextn_any (s : ByteArray) (w : World) (hs : s.size ≤ 1000000) : Calls Tryd.prog 34 #[.string s] w (GivesNodeE (textZ s) w) := by
  have S0 := Lib.hid (RB.start w)
  go_enter Tryd.func34, Tryd.ntmps34
  go_wp2_with fail
  generalize hw0 : w.alloc (.cells #[.int .i64 0, .slice none 0 0, .slice none 0 0] 26) = w0 at *
  clear hw0
  go_loopw [4] (fun i wr => ∃ k : Nat, k ≤ s.size ∧ i = .int .i64 (k : Int) ∧ wr = w0 ∧ ∀ j, j < k → Fair s j) (fun i _ => s.size - (intOf i).toNat)
  case atStart => exact ⟨0, by omega, rfl, rfl, fun j hj => by omega⟩
  case round =>
    obtain ⟨k, hk, rfl, rfl, hf⟩ := hrel
    have HF := Lib.hid hf
    clear hf
    by_cases hlt : k < s.size
    · have hi := str_at s k hlt _ rfl
      by_cases hfair : Fair s k
      · have N : Hid (∀ j, j < k + 1 → Fair s j) := fun j hj => by
          rcases Nat.lt_or_ge j k with h | h
          · exact HF.out j h
          · obtain rfl : j = k := by omega
            exact hfair
        obtain ⟨f1, f2, f3⟩ := hfair
        generalize nth s k = x at hi f2 f3
        clear HF
        go_wp2_with fail
        go_roundw
        case rel => exact ⟨k + 1, by omega, by go_num, trivial, N.out⟩
        case measure => simp [intOf]; omega
      · have F : Hid (textZ s = (.node 0 [] [], 1)) := if_neg (fun h => hfair (h k hlt))
        obtain ⟨p0, p1, p2, q0, q1, q2⟩ := S0.out.box.six
        unfold Fair at hfair
        have hx := nth_range s k
        generalize nth s k = x at hi hfair hx
        clear HF
        have RN := Lib.hid (Row.nil wr)
        by_cases b1 : 32 ≤ x
        · by_cases b2 : x ≤ 126
          · have b3 : 200 < s.size := by omega
            go_wp2_with fail
            exact gives_leafe (zs := []) (c := 0) F.out rfl rfl rfl S0.out (RN.out _) (fun h => absurd h (by simp)) (fun _ => rfl) rfl (by simp)
          · go_wp2_with fail
            exact gives_leafe (zs := []) (c := 0) F.out rfl rfl rfl S0.out (RN.out _) (fun h => absurd h (by simp)) (fun _ => rfl) rfl (by simp)
        · go_wp2_with fail
          exact gives_leafe (zs := []) (c := 0) F.out rfl rfl rfl S0.out (RN.out _) (fun h => absurd h (by simp)) (fun _ => rfl) rfl (by simp)
    · obtain rfl : k = s.size := by omega
      have F : Hid (textZ s = (.node 22 (numsOf s) [], 0)) := if_pos HF.out
      clear HF
      obtain ⟨cap, W1, hrun, hrow, hb1, hcap⟩ := Clk.bytes_of s wr
      have S1 := Lib.hid (S0.out.go hb1)
      have R1 := Lib.hid hrow
      obtain ⟨p0, p1, p2, q0, q1, q2⟩ := S1.out.box.six
      have hlt0 : w.heap.size < wr.heap.size := S0.out.box.lt
      have NL := numsOf_length s
      clear hrow hb1
      go_wp2_with fail
      rw [← NL]
      exact gives_leafe (zs := numsOf s) (c := cap) F.out rfl rfl rfl S1.out (by rw [NL]; exact R1.out) (fun _ => ⟨_, _, rfl, hlt0⟩) (fun e => by cases e) rfl (by omega)

end Go.Proofs.YtjhffnoddhlikaaDoor

namespace Go.Proofs.YtjhffnoddhlikaaDoor
open Go.RowKit
set_option linter.unusedVariables false

/-- Words' answer. -/
def wordsZ (t : T) : ByteArray × Int := if (textZ (strOfNums t.body)).2 = 0 ∧ sameT (textZ (strOfNums t.body)).1 t = true then (strOfNums t.body, 0) else (⟨#[]⟩, 2)
def GivesStr (x : ByteArray × Int) (w : World) (e : Ending) (w' : World) : Prop := e = .returned (.tuple #[.string x.1, .int .i64 x.2]) ∧ Below w.heap.size w w'
theorem GivesStr.of {x : ByteArray × Int} {b : ByteArray} {n : Int} {w w' : World} (h : x = (b, n)) (hb : Below w.heap.size w w') : GivesStr x w (.returned (.tuple #[.string b, .int .i64 n])) w' := by subst h; exact ⟨rfl, hb⟩
theorem text_err (s : ByteArray) : (textZ s).2 = 0 ∨ (textZ s).2 = 1 := by
  unfold textZ
  split
  · exact .inl rfl
  · exact .inr rfl

set_option maxHeartbeats 2000000 in
set_option maxRecDepth 100000 in
theorem rwords_any (t : T) (v : Value) (w : World) (hin : t.In w v) (hwt : t.body.length ≤ 1000000) : Calls Tryd.prog 36 #[v] w (GivesStr (wordsZ t) w) := by
  obtain ⟨A, n, c, K, m, d, rfl, hw, hr, hn, hc, hm, hm', hks⟩ := hin.open
  have B2 := Lib.hid (Box.start hin)
  have GZ : Hid (wordsZ t = if (textZ (strOfNums t.body)).2 = 0 ∧ sameT (textZ (strOfNums t.body)).1 t = true then (strOfNums t.body, 0) else (⟨#[]⟩, 2)) := rfl
  have hcv := conv_at c (hr.below B2.out.below)
  have CT := Lib.hid (rtextn_any (strOfNums t.body) (w.alloc (.cells #[.int .i64 t.tag, .slice A n c, .slice K m d] 26)) (by rw [strOfNums_size]; exact hwt))
  have HE := text_err (strOfNums t.body)
  have CV := Lib.hid (fun W (hW : Below w.heap.size w W) => conv_at c (hr.below hW))
  obtain ⟨g0, g1, g2⟩ := B2.out.cells
  clear hr hks hc hin hm hm' hw hn
  generalize strOfNums t.body = S at *
  generalize textZ S = X at *
  go_enter Tryd.func36, Tryd.ntmps36
  generalize hw2 : w.alloc (.cells #[.int .i64 t.tag, .slice A n c, .slice K m d] 26) = w2 at *
  go_wp2_with fail
  refine CT.out.mono ?_
  rintro e w3 ⟨A3, n3, c3, K3, m3, d3, rfl, hin3, hb3⟩
  have B3 := Lib.hid (B2.out.go hb3)
  have B4 := Lib.hid (B3.out.go ((Below.refl w3.heap.size w3).alloc (Nat.le_refl _) (.cells #[.int .i64 X.1.tag, .slice A3 n3 c3, .slice K3 m3 d3] 26)))
  have X4 := Lib.hid (T.In.below ((Below.refl w3.heap.size w3).alloc (Nat.le_refl _) (.cells #[.int .i64 X.1.tag, .slice A3 n3 c3, .slice K3 m3 d3] 26)) X.1 (T.InP.in _ hin3))
  clear hw2 CT g0 g1 g2 hin3 hb3
  obtain ⟨g0, g1, g2⟩ := B4.out.cells
  obtain ⟨xt, xe⟩ := X
  rcases HE with rfl | rfl
  · have GX : Hid (wordsZ t = if sameT xt t = true then (S, 0) else (⟨#[]⟩, 2)) := by rw [GZ.out]; simp [Hid]
    have CS := Lib.hid (same_any xt t _ _ _ X4.out B4.out.has)
    clear GZ X4
    go_wp2_with fail
    refine CS.out.mono ?_
    rintro e w5 ⟨rfl, hb5⟩
    have B5 := Lib.hid (B4.out.go hb5)
    clear hb5 CS B4 hcv g0 g1 g2
    cases hs : sameT xt t
    · have F : Hid (wordsZ t = (⟨#[]⟩, 2)) := by rw [GX.out, hs]; rfl
      go_wp2_with fail
      go_ret2
      exact GivesStr.of F.out B5.out.below
    · have F : Hid (wordsZ t = (S, 0)) := by rw [GX.out, hs]; rfl
      have hcv := CV.out w5 B5.out.below
      obtain ⟨g0, g1, g2⟩ := B5.out.cells
      go_wp2_with fail
      go_ret2
      exact GivesStr.of F.out B5.out.below
  · have F : Hid (wordsZ t = (⟨#[]⟩, 2)) := by rw [GZ.out]; simp [Hid]
    clear GZ
    go_wp2_with fail
    go_ret2
    exact GivesStr.of F.out B4.out.below

end Go.Proofs.YtjhffnoddhlikaaDoor

namespace Go.Proofs.YtjhffnoddhlikaaDoor
open Go.RowKit
set_option linter.unusedVariables false

def timeZ (S : ByteArray) (ok : Bool) : T × Int := if ok = true then (.node (if S.size = 13 then 23 else 24) (numsOf S) [], 0) else (zeroT, 1)
/-- Time's answer. -/
def GivesTime (s : Int) (w : World) (e : Ending) (w' : World) : Prop := ∃ S ok, Clk.TextR s S ok ∧ GivesNodeE (timeZ S ok) w e w'
theorem GivesTime.post {s : Int} {S : ByteArray} {ok : Bool} {w W : World} {a : Act} {fn : Func} (h : Clk.TextR s S ok) (hp : bodyPost Tryd.prog fn (GivesNodeE (timeZ S ok) w) .ret a W) : bodyPost Tryd.prog fn (GivesTime s w) .ret a W := by
  obtain ⟨hd, v, hr, hR⟩ := hp
  exact ⟨hd, v, hr, ⟨S, ok, h, hR⟩⟩
theorem time_size {s : Int} {S : ByteArray} {ok : Bool} (h : Clk.TextR s S ok) : S.size ≤ 15 := by
  rcases h with ⟨_, h⟩ | ⟨_, h⟩
  · rcases h with ⟨_, a, _, _, rfl⟩ | ⟨h, _⟩
    · rw [strOfNums_size]; simp [Clk.D6.long, Clk.D6.txt, Clk.digs_length]
    · cases h
  · rcases h with ⟨_, a, _, rfl⟩ | ⟨_, rfl, _⟩
    · rw [strOfNums_size]; simp [Clk.D6.long, Clk.D6.txt, Clk.digs_length]
    · exact Nat.zero_le _

set_option maxHeartbeats 1000000 in
set_option maxRecDepth 10000 in
theorem rtime_any (s : Int) (w : World) : Calls Tryd.prog 38 #[.int .i64 s] w (GivesTime s w) := by
  have S0 := Lib.hid (RB.start w)
  go_enter Tryd.func38, Tryd.ntmps38
  go_wp2_with fail
  generalize hw0 : w.alloc (.cells #[.int .i64 0, .slice none 0 0, .slice none 0 0] 26) = w0 at *
  clear hw0
  refine (Clk.rtext_any s w0).mono ?_
  rintro e w1 ⟨S, ok, hR, rfl, hb⟩
  have S1 := Lib.hid (S0.out.go hb)
  have hsz := time_size hR
  have TR := Lib.hid hR
  clear hR hb S0
  cases ok
  · have F : Hid (timeZ S false = (.node 0 [] [], 1)) := rfl
    have RN := Lib.hid (Row.nil w1)
    obtain ⟨p0, p1, p2, q0, q1, q2⟩ := S1.out.box.six
    go_wp2_with fail
    exact GivesTime.post TR.out (gives_leafe (zs := []) (c := 0) F.out rfl rfl rfl S1.out (RN.out _) (fun h => absurd h (by simp)) (fun _ => rfl) rfl (by simp))
  · obtain ⟨cap, W1, hrun, hrow, hb1, hcap⟩ := Clk.bytes_of S w1
    have S2 := Lib.hid (S1.out.go hb1)
    have R2 := Lib.hid hrow
    obtain ⟨p0, p1, p2, q0, q1, q2⟩ := S2.out.box.six
    have hlt0 : w.heap.size < w1.heap.size := S1.out.box.lt
    have NL := numsOf_length S
    clear hrow hb1
    by_cases h13 : S.size = 13
    · have F : Hid (timeZ S true = (.node 23 (numsOf S) [], 0)) := by simp [Hid, timeZ, h13]
      have t1 : ((S.size : Int) != 13) = false := by simp; omega
      go_wp2_with fail
      rw [show (13 : Nat) = (numsOf S).length by omega]
      exact GivesTime.post TR.out (gives_leafe (zs := numsOf S) (c := cap) F.out rfl rfl rfl S2.out (by rw [NL]; exact R2.out) (fun _ => ⟨_, _, rfl, hlt0⟩) (fun e => by cases e) rfl (by omega))
    · have F : Hid (timeZ S true = (.node 24 (numsOf S) [], 0)) := by simp [Hid, timeZ, h13]
      have t1 : ((S.size : Int) != 13) = true := by simp; omega
      go_wp2_with fail
      rw [← NL]
      exact GivesTime.post TR.out (gives_leafe (zs := numsOf S) (c := cap) F.out rfl rfl rfl S2.out (by rw [NL]; exact R2.out) (fun _ => ⟨_, _, rfl, hlt0⟩) (fun e => by cases e) rfl (by omega))

/-- When's answer. -/
def WhenR (t : T) (x : Int × Int) : Prop := ∃ S ok, Clk.TextR (Clk.readV (Clk.readD (numsOf (strOfNums t.body)) (t.tag == 24))) S ok ∧
  x = if Clk.readB (Clk.readD (numsOf (strOfNums t.body)) (t.tag == 24)) = true ∧ (timeZ S ok).2 = 0 ∧ sameT (timeZ S ok).1 t = true then (Clk.readV (Clk.readD (numsOf (strOfNums t.body)) (t.tag == 24)), 0) else (0, 2)
theorem WhenR.eq {t : T} {x y : Int × Int} (h : WhenR t x) (k : WhenR t y) : x = y := by
  obtain ⟨S, ok, h1, rfl⟩ := h
  obtain ⟨S', ok', k1, rfl⟩ := k
  obtain ⟨rfl, rfl⟩ := h1.eq k1
  rfl
def GivesWhen (t : T) (w : World) (e : Ending) (w' : World) : Prop := ∃ x, WhenR t x ∧ e = .returned (.tuple #[.int .i64 x.1, .int .i64 x.2]) ∧ Below w.heap.size w w'
theorem time_err (S : ByteArray) (ok : Bool) : (timeZ S ok).2 = 0 ∨ (timeZ S ok).2 = 1 := by
  unfold timeZ
  split
  · exact .inl rfl
  · exact .inr rfl

set_option maxHeartbeats 2000000 in
set_option maxRecDepth 100000 in
theorem rwhen_any (t : T) (v : Value) (w : World) (hin : t.In w v) : Calls Tryd.prog 40 #[v] w (GivesWhen t w) := by
  obtain ⟨A, n, c, K, m, d, rfl, hw, hr, hn, hc, hm, hm', hks⟩ := hin.open
  have B2 := Lib.hid (Box.start hin)
  have hcv := conv_at c (hr.below B2.out.below)
  have WR : Hid (∀ x, WhenR t x ↔ WhenR t x) := fun _ => Iff.rfl
  have WD : Hid (∀ S ok x, Clk.TextR (Clk.readV (Clk.readD (numsOf (strOfNums t.body)) (t.tag == 24))) S ok → (x = if Clk.readB (Clk.readD (numsOf (strOfNums t.body)) (t.tag == 24)) = true ∧ (timeZ S ok).2 = 0 ∧ sameT (timeZ S ok).1 t = true then (Clk.readV (Clk.readD (numsOf (strOfNums t.body)) (t.tag == 24)), 0) else (0, 2)) → WhenR t x) := fun S ok x h e => ⟨S, ok, h, e⟩
  have CR := Lib.hid (fun W => Clk.rread_any (strOfNums t.body) (t.tag == 24) W)
  obtain ⟨g0, g1, g2⟩ := B2.out.cells
  clear hr hks hc hin hm hm' hw hn WR
  generalize Clk.readD (numsOf (strOfNums t.body)) (t.tag == 24) = R at *
  generalize strOfNums t.body = S0 at *
  go_enter Tryd.func40, Tryd.ntmps40
  generalize hw2 : w.alloc (.cells #[.int .i64 t.tag, .slice A n c, .slice K m d] 26) = w2 at *
  go_wp2_with fail
  refine (CR.out _).mono ?_
  rintro e w3 ⟨rfl, hb3⟩
  have B3 := Lib.hid (B2.out.go hb3)
  clear hw2 CR B2 hb3 hcv g0 g1 g2
  generalize Clk.readV R = V at *
  generalize Clk.readB R = rb at *
  go_wp2_with fail
  refine (rtime_any V w3).mono ?_
  rintro e w4 ⟨S, ok, hR, A3, n3, c3, K3, m3, d3, rfl, hin3, hb3⟩
  have WX := Lib.hid (fun x => WD.out S ok x hR)
  have HE := time_err S ok
  clear hR WD
  generalize timeZ S ok = X at *
  have B4 := Lib.hid ((B3.out.go hb3).go ((Below.refl w4.heap.size w4).alloc (Nat.le_refl _) (.cells #[.int .i64 X.1.tag, .slice A3 n3 c3, .slice K3 m3 d3] 26)))
  have X4 := Lib.hid (T.In.below ((Below.refl w4.heap.size w4).alloc (Nat.le_refl _) (.cells #[.int .i64 X.1.tag, .slice A3 n3 c3, .slice K3 m3 d3] 26)) X.1 (T.InP.in _ hin3))
  clear hin3 hb3 B3
  obtain ⟨g0, g1, g2⟩ := B4.out.cells
  obtain ⟨xt, xe⟩ := X
  cases rb
  · have F := Lib.hid (WX.out (0, 2) (by simp))
    clear WX
    go_wp2_with fail
    go_ret2
    exact ⟨_, F.out, rfl, B4.out.below⟩
  rcases HE with rfl | rfl
  · have CS := Lib.hid (same_any xt t _ _ _ X4.out B4.out.has)
    clear X4
    go_wp2_with fail
    refine CS.out.mono ?_
    rintro e w5 ⟨rfl, hb5⟩
    have B5 := Lib.hid (B4.out.go hb5)
    clear hb5 CS B4 g0 g1 g2
    cases hs : sameT xt t
    · have F := Lib.hid (WX.out (0, 2) (by simp [hs]))
      clear WX
      go_wp2_with fail
      go_ret2
      exact ⟨_, F.out, rfl, B5.out.below⟩
    · have F := Lib.hid (WX.out (V, 0) (by simp [hs]))
      clear WX
      go_wp2_with fail
      go_ret2
      exact ⟨_, F.out, rfl, B5.out.below⟩
  · have F := Lib.hid (WX.out (0, 2) (by simp))
    clear WX
    go_wp2_with fail
    go_ret2
    exact ⟨_, F.out, rfl, B4.out.below⟩

end Go.Proofs.YtjhffnoddhlikaaDoor
