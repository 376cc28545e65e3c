/-
  Merged texts: BytesC, LeastC, Sc2, Sc3, OpenT, Cap, Sc4, Sc5, Sc6, ScH, Sc10, Sc11, Row32, Sc12, ScN, Sc15, Plain, SizeT, Right, Fork.
-/
import Derived.Test.YtgmefdmeeihgoaaDoorRows
import Derived.Test.YtgmefdmeeihgoaaDoorGrA
import Derived.WalkKit
import Derived.WalkSpells
import Derived.WalkLawsBesides
import Derived.Deep.QuietTactic
import Derived.BigQuiet
import Derived.Lib.Hide
import Derived.Lib.SmallJoins
import Derived.ChangeArms
import Derived.ChangeSlices
import Derived.Deep.Fields
import Derived.Handy
namespace Go.Proofs.YtgmefdmeeihgoaaDoor
open Go.RowKit

/-- The k big-endian bytes of a number, modulo 256^k. -/
def beZ : Nat → Int → List Int
  | 0, _ => []
  | k + 1, n => n / 256 ^ k % 256 :: beZ k n

theorem beZ_length (k : Nat) (n : Int) : (beZ k n).length = k := by
  induction k with
  | zero => rfl
  | succ k ih => simp [beZ, ih]

theorem beZ_byte (k : Nat) (n : Int) : ∀ x ∈ beZ k n, 0 ≤ x ∧ x ≤ 255 := by
  induction k with
  | zero => simp [beZ]
  | succ k ih =>
    intro x hx
    simp only [beZ, List.mem_cons] at hx
    rcases hx with rfl | hx
    · omega
    · exact ih x hx

/-- What stands in a row of m bytes when the last k are laid. -/
def layZ (m k : Nat) (n : Int) : List Int := List.replicate (m - k) 0 ++ beZ k n

theorem layZ_length {m k : Nat} (n : Int) (h : k ≤ m) : (layZ m k n).length = m := by
  simp [layZ, beZ_length]; omega

theorem layZ_set {m k : Nat} {n : Int} (h : k < m) : (layZ m k n).set (m - 1 - k) (n / 256 ^ k % 256) = layZ m (k + 1) n := by
  unfold layZ
  have e1 : m - k = (m - 1 - k) + 1 := by omega
  have e2 : m - (k + 1) = m - 1 - k := by omega
  rw [e1, e2, List.replicate_succ', List.append_assoc, List.set_append_right _ _ (by simp)]
  simp [beZ]

theorem lay_vals {m k : Nat} {n u : Int} (h : k < m) (hu : u = n / 256 ^ k % 256) :
    ((layZ m k n).map (Value.int .u8)).set (m - 1 - k) (.int .u8 u) = (layZ m (k + 1) n).map (Value.int .u8) := by
  rw [← layZ_set h, List.map_set, hu]

theorem div_step (n : Int) (k : Nat) : n / 256 ^ k / 256 = n / 256 ^ (k + 1) := by
  rw [Int.ediv_ediv_of_nonneg (Int.le_of_lt (Int.pow_pos (by decide))), Int.pow_succ]

theorem Tryd.info5 : (Tryd.prog.info? 5).map (fun i => (i.zero, i.size, i.bytes)) = some (some (.int .u8 0), 1, 1) := by kernel_rfl

/-- Bytes' answer. -/
def bytesZ (n many : Int) : List Int × Bool :=
  if 0 ≤ many ∧ many ≤ 64 then (if n / 256 ^ many.toNat = 0 then (beZ many.toNat n, true) else ([], false)) else ([], false)

/-- What a call of Bytes or Least leaves: a slice that reads as these bytes, in a world that has turned nothing that was there. -/
def GivesBytes (w : World) (zs : List Int) (ok : Bool) (e : Ending) (w' : World) : Prop :=
  ∃ a c, e = .returned (.tuple #[.slice a zs.length c, .bool ok]) ∧ Row w' a zs.length zs ∧ Below w.heap.size w w' ∧ zs.length ≤ c

/-- The world in a round of Bytes: the row that was made bears the last k bytes; s is what is left of the number. -/
def Laid (w : World) (m k : Nat) (n s : Int) (wr : World) : Prop :=
  wr.ownsRow w.heap.size 5 1 (.slice (some ⟨w.heap.size, 0, none⟩) m m) m ((layZ m k n).map (Value.int .u8)) ∧ Below w.heap.size w wr ∧ s = n / 256 ^ k

theorem bytes_start {w w1 : World} {m : Nat} {n : Int} (hown : w1.ownsRow w.heap.size 5 1 (.slice (some ⟨w.heap.size, 0, none⟩) m m) m (madeCells #[Value.int .u8 0] m).toList) (hg : w.grownBy w1 none) :
    Laid w m 0 n n w1 := by
  refine ⟨?_, (Below.refl _ _).grown hg (Nat.le_refl _) (fun k h => by cases h), by simp⟩
  have e : (madeCells #[Value.int .u8 0] m).toList = (layZ m 0 n).map (Value.int .u8) := by
    rw [toList_madeCells_one]
    simp [layZ, beZ]
  rw [← e]
  exact hown

theorem Laid.step {w wr : World} {m k : Nat} {n s : Int} (h : Laid w m k n s wr) (hk : k < m) :
    (∃ v, wr.cell? ⟨w.heap.size, m - 1 - k, none⟩ = some v) ∧ wr.frozen? ⟨w.heap.size, m - 1 - k, none⟩ = false ∧
    ∀ u, u = s % 256 → Laid w m (k + 1) n (s / 256) (wr.setCell ⟨w.heap.size, m - 1 - k, none⟩ (.int .u8 u)) := by
  obtain ⟨ho, hb, rfl⟩ := h
  have hl := layZ_length (m := m) (k := k) n (by omega)
  refine ⟨⟨_, (ho.cellAt (m - 1 - k) (by omega)).trans (List.getElem?_eq_getElem (by simp [hl]; omega))⟩, ho.frozenAt _, fun u hu => ⟨?_, hb.setCell (Nat.le_refl _) _, div_step n k⟩⟩
  have := (ho.stored (m - 1 - k) (.int .u8 u)).1
  rw [lay_vals hk hu] at this
  exact this

theorem bytesZ_in (n : Int) (m : Nat) (hm : m ≤ 64) : bytesZ n m = if n / 256 ^ m = 0 then (beZ m n, true) else ([], false) := by
  rw [bytesZ, if_pos (by omega), Int.toNat_natCast]

theorem bytes_end {w wr : World} {m k : Nat} {n : Int} (hm : m ≤ 64) (hk : k = m) (h : Laid w m k n 0 wr) :
    GivesBytes w (bytesZ n m).1 (bytesZ n m).2 (.returned (.tuple #[.slice (some ⟨w.heap.size, 0, none⟩) m m, .bool true])) wr := by
  subst hk
  obtain ⟨ho, hb, hs⟩ := h
  rw [bytesZ_in n k hm, if_pos hs.symm]
  have e : layZ k k n = beZ k n := by simp [layZ]
  rw [e] at ho
  refine ⟨some ⟨w.heap.size, 0, none⟩, k, ?_, ?_, hb, ?_⟩
  · rw [beZ_length]
  · rw [beZ_length]
    exact Row.of_own ho (beZ_byte k n)
  · rw [beZ_length]
    exact Nat.le_refl _

theorem bytes_none {w wr : World} {m k : Nat} {n s : Int} (hm : m ≤ 64) (hk : k = m) (hs : ¬ s = 0) (h : Laid w m k n s wr) :
    GivesBytes w (bytesZ n m).1 (bytesZ n m).2 (.returned (.tuple #[.slice none 0 0, .bool false])) wr := by
  subst hk
  obtain ⟨_, hb, rfl⟩ := h
  rw [bytesZ_in n k hm, if_neg hs]
  exact ⟨none, 0, rfl, Row.nil _ _, hb, Nat.le_refl _⟩

set_option maxHeartbeats 400000 in
theorem bytes_in (n : Int) (m : Nat) (w : World) (h0 : 0 ≤ n) (h1 : n ≤ 18446744073709551615) (hm : m ≤ 64) :
    Calls Tryd.prog 78 #[.int .u64 n, .int .i64 (m : Int)] w (GivesBytes w (bytesZ n m).1 (bytesZ n m).2) := by
  obtain ⟨i0, hi, hz0, hz1, hz2⟩ := info_parts Tryd.info5
  have d1 : decide ((m : Int) < 0) = false := by simp
  have d2 : decide (64 < (m : Int)) = false := by simp; omega
  go_enter Tryd.func78, Tryd.ntmps78
  go_wp2_with (at_make; refine wpList_make_full _ rfl _ _ 22 rfl w.heap.size 5 i0 (.int .u8 0) 1 Tryd.underlying22 hi hz0 hz1 _ _ _ _ m rfl rfl rfl rfl ?b1 ?b2 ?b3 ?_)
  case b1 => rw [hz2]; omega
  case b2 => unfold maxLen; omega
  case b3 => exact Nat.le_refl _
  intro w1 hown0 hgrow
  have HB := Lib.hid (bytes_start (n := n) hown0 hgrow)
  clear hown0 hgrow hz2 hz1 hz0 hi
  go_wp2
  go_loopw [0, 17] (fun t i wr => ∃ k : Nat, ∃ s : Int, k ≤ m ∧ 0 ≤ s ∧ s ≤ 18446744073709551615 ∧ i = .int .i64 k ∧ t = .int .u64 s ∧ Laid w m k n s wr) (fun _ i _ => m - (intOf i).toNat)
  case atStart => exact ⟨0, n, Nat.zero_le _, h0, h1, rfl, rfl, by simpa using HB.out⟩
  case round =>
    obtain ⟨k, s, hk, hs0, hs1, rfl, rfl, hl⟩ := hrel
    by_cases hlt : k < m
    · obtain ⟨⟨v, hc⟩, hf, hnext⟩ := hl.step hlt
      have HN := Lib.hid hnext
      clear hl hnext
      go_wp2
      go_roundw
      case rel => exact ⟨k + 1, _, by omega, by omega, by omega, by go_num, rfl, HN.out _ (by omega)⟩
      case measure => simp [intOf]; omega
    · have HL := Lib.hid hl
      clear hl
      by_cases hs : s = 0
      · subst hs
        go_wp2
        go_ret2
        exact bytes_end hm (by omega) HL.out
      · have hs' : (s != 0) = true := by simpa using hs
        go_wp2
        go_ret2
        exact bytes_none hm (by omega) hs HL.out

theorem bytesZ_out {n many : Int} (h : many < 0 ∨ 64 < many) : bytesZ n many = ([], false) := by
  rw [bytesZ, if_neg (by omega)]

set_option maxHeartbeats 400000 in
theorem bytes_out (n many : Int) (w : World) (h : many < 0 ∨ 64 < many) :
    Calls Tryd.prog 78 #[.int .u64 n, .int .i64 many] w (GivesBytes w (bytesZ n many).1 (bytesZ n many).2) := by
  rw [bytesZ_out h]
  rcases h with h | h
  · go_enter Tryd.func78, Tryd.ntmps78
    go_wp2
    go_ret2
    exact ⟨none, 0, rfl, Row.nil _ _, Below.refl _ _, Nat.le_refl _⟩
  · have h' : ¬ many < 0 := by omega
    go_enter Tryd.func78, Tryd.ntmps78
    go_wp2
    go_ret2
    exact ⟨none, 0, rfl, Row.nil _ _, Below.refl _ _, Nat.le_refl _⟩

theorem bytes_any (n many : Int) (w : World) (h0 : 0 ≤ n) (h1 : n ≤ 18446744073709551615) :
    Calls Tryd.prog 78 #[.int .u64 n, .int .i64 many] w (GivesBytes w (bytesZ n many).1 (bytesZ n many).2) := by
  by_cases h : many < 0 ∨ 64 < many
  · exact bytes_out n many w h
  · obtain ⟨m, rfl⟩ := Int.eq_ofNat_of_zero_le (show 0 ≤ many by omega)
    exact bytes_in n m w h0 h1 (by omega)

end Go.Proofs.YtgmefdmeeihgoaaDoor

namespace Go.Proofs.YtgmefdmeeihgoaaDoor
open Go.RowKit

/-- What a call of Bytes leaves where it goes well: m bytes. -/
def GivesM (w : World) (m : Nat) (zs : List Int) (e : Ending) (w' : World) : Prop :=
  ∃ a c, e = .returned (.tuple #[.slice a m c, .bool true]) ∧ Row w' a m zs ∧ Below w.heap.size w w' ∧ m ≤ c
def GivesNone (w : World) (e : Ending) (w' : World) : Prop :=
  ∃ a c, e = .returned (.tuple #[.slice a 0 c, .bool false]) ∧ Row w' a 0 [] ∧ Below w.heap.size w w'

theorem gives_ok {w w' : World} {n : Int} {m : Nat} {e : Ending} (hm : m ≤ 64) (hz : n / 256 ^ m = 0) (h : GivesBytes w (bytesZ n m).1 (bytesZ n m).2 e w') : GivesM w m (beZ m n) e w' := by
  rw [bytesZ_in n m hm, if_pos hz] at h
  obtain ⟨a, c, he, hr, hb, hc⟩ := h
  rw [beZ_length] at he hr hc
  exact ⟨a, c, he, hr, hb, hc⟩

theorem gives_no {w w' : World} {n : Int} {m : Nat} {e : Ending} (hm : m ≤ 64) (hz : ¬ n / 256 ^ m = 0) (h : GivesBytes w (bytesZ n m).1 (bytesZ n m).2 e w') : GivesNone w e w' := by
  rw [bytesZ_in n m hm, if_neg hz] at h
  obtain ⟨a, c, he, hr, hb, _⟩ := h
  exact ⟨a, c, he, hr, hb⟩

theorem bytes_ok (n many : Int) (m : Nat) (w : World) (hmany : many = m) (h0 : 0 ≤ n) (h1 : n ≤ 18446744073709551615) (hm : m ≤ 64) (hz : n / 256 ^ m = 0) :
    Calls Tryd.prog 78 #[.int .u64 n, .int .i64 many] w (GivesM w m (beZ m n)) := by
  subst hmany
  exact (bytes_any n m w h0 h1).mono fun _ _ h => gives_ok hm hz h

/-- m is the fewest bytes of n, but at least one. -/
def IsLeast (n : Int) (m : Nat) : Prop := 1 ≤ m ∧ m ≤ 8 ∧ n / 256 ^ m = 0 ∧ (m = 1 ∨ ¬ n / 256 ^ (m - 1) = 0)

theorem div_mono {n : Int} {i j : Nat} (h0 : 0 ≤ n) (hij : i ≤ j) (h : n / 256 ^ i = 0) : n / 256 ^ j = 0 := by
  have hi : (0 : Int) < 256 ^ i := Int.pow_pos (by decide)
  have hlt : n < 256 ^ i := by
    rcases Int.lt_or_le n (256 ^ i) with hl | hl
    · exact hl
    · have := (Int.le_ediv_iff_mul_le hi (a := 1) (b := n)).2 (by omega)
      omega
  have hle : (256 : Int) ^ i ≤ 256 ^ j := by
    have := Nat.pow_le_pow_right (n := 256) (by decide) hij
    rw [show (256 : Int) = ((256 : Nat) : Int) from rfl, ← Int.natCast_pow, ← Int.natCast_pow]
    exact Int.ofNat_le.2 this
  exact Int.ediv_eq_zero_of_lt h0 (by omega)

theorem div_eight {n : Int} {j : Nat} (h0 : 0 ≤ n) (h1 : n ≤ 18446744073709551615) (hj : 8 ≤ j) : n / 256 ^ j = 0 :=
  div_mono h0 hj (Int.ediv_eq_zero_of_lt h0 (by omega))

theorem IsLeast.eq {n : Int} {m k : Nat} (h0 : 0 ≤ n) (h : IsLeast n m) (h' : IsLeast n k) : m = k := by
  obtain ⟨a1, _, a3, a4⟩ := h
  obtain ⟨b1, _, b3, b4⟩ := h'
  rcases Nat.lt_trichotomy m k with hl | hl | hl
  · rcases b4 with b4 | b4
    · omega
    · exact absurd (div_mono h0 (show m ≤ k - 1 by omega) a3) b4
  · exact hl
  · rcases a4 with a4 | a4
    · omega
    · exact absurd (div_mono h0 (show k ≤ m - 1 by omega) b3) a4

def GivesLeast (w : World) (n : Int) (e : Ending) (w' : World) : Prop :=
  ∃ m a c, IsLeast n m ∧ e = .returned (.slice a m c) ∧ Row w' a m (beZ m n) ∧ Below w.heap.size w w' ∧ m ≤ c

set_option maxHeartbeats 400000 in
theorem least_any (n : Int) (w : World) (h0 : 0 ≤ n) (h1 : n ≤ 18446744073709551615) :
    Calls Tryd.prog 52 #[.int .u64 n] w (GivesLeast w n) := by
  go_enter Tryd.func52, Tryd.ntmps52
  go_wp2
  go_loop [3, 4] (fun i t => ∃ k : Nat, ∃ s : Int, k ≤ 7 ∧ 0 ≤ s ∧ s ≤ 18446744073709551615 ∧ i = .int .i64 ((k : Int) + 1) ∧ t = .int .u64 s ∧ s = n / 256 ^ (k + 1) ∧ (k = 0 ∨ ¬ n / 256 ^ k = 0)) (fun _ t => (intOf t).toNat)
  case atStart => exact ⟨0, n / 256, by omega, by omega, by omega, rfl, rfl, by simp, Or.inl rfl⟩
  case round =>
    obtain ⟨k, s, hk, hs0, hs1, rfl, rfl, hs, hl⟩ := hrel
    have HS := Lib.hid hs
    have HL := Lib.hid hl
    clear hs hl
    by_cases hz : s = 0
    · subst hz
      have HLe : Hid (IsLeast n (k + 1)) := ⟨by omega, by omega, HS.out.symm, by rcases HL.out with h | h; exact Or.inl (by omega); exact Or.inr h⟩
      go_wp2_with (go_at_call 78; refine (bytes_ok n _ (k + 1) _ (by omega) h0 h1 (by omega) HS.out.symm).mono ?_; rintro e w' ⟨a, c, rfl, hrow, hbel, hcap⟩)
      go_ret
      exact ⟨k + 1, a, c, HLe.out, rfl, hrow, hbel, hcap⟩
    · have hz' : (s != 0) = true := by simpa using hz
      have hk7 : k + 1 ≤ 7 := by
        rcases Nat.lt_or_ge (k + 1) 8 with h | h
        · omega
        · exact absurd (HS.out.trans (div_eight h0 h1 h)) hz
      go_wp2
      go_round
      case rel => exact ⟨k + 1, s / 256, hk7, by omega, by omega, by go_num, rfl, by rw [HS.out]; exact div_step n (k + 1), Or.inr (by rw [← HS.out]; exact hz)⟩
      case measure => simp [intOf]; omega

end Go.Proofs.YtgmefdmeeihgoaaDoor

namespace Go.Proofs.YtgmefdmeeihgoaaDoor
open Go.RowKit
set_option linter.unusedVariables false

theorem Blk.six {w : World} {g : Nat} {t : TypeId} {a b c : Value} (h : Blk w g t #[a, b, c]) : w.cell? ⟨g, 0, none⟩ = some a ∧ w.cell? ⟨g, 1, none⟩ = some b ∧ w.cell? ⟨g, 2, none⟩ = some c ∧ w.frozen? ⟨g, 0, none⟩ = false ∧ w.frozen? ⟨g, 1, none⟩ = false ∧ w.frozen? ⟨g, 2, none⟩ = false :=
  ⟨h.cell 0, h.cell 1, h.cell 2, h.free 0, h.free 1, h.free 2⟩
theorem Tryd.sizeNode3 : (Tryd.prog.info? 28).map (·.size) = some 3 := by kernel_rfl

/-- The zero element. -/
def zeroT : T := .node 0 [] []
/-- A call that hands an element back, as a value of three cells. -/
def GivesNode (t : T) (w : World) (e : Ending) (w' : World) : Prop :=
  ∃ (A : Option Addr) (n c : Nat) (K : Option Addr) (m d : Nat), e = .returned (.agg #[.int .i64 t.tag, .slice A n c, .slice K m d]) ∧ t.InP (w.heap.size ≤ ·) w' (.agg #[.int .i64 t.tag, .slice A n c, .slice K m d]) ∧ Below w.heap.size w w'
/-- An element without others within. -/
theorem leaf_inP {P : Nat → Prop} {w : World} {z : Int} {zs : List Int} {a : Option Addr} {c : Nat} (hz : (Lit.int .i64 z).wf = true) (hr : Row w a zs.length zs) (hn : zs.length ≤ 1000000) (hnil : (a = none → c = 0) ∧ zs.length ≤ c) (hp : 0 < zs.length → ∃ b off, a = some ⟨b, off, none⟩ ∧ P b) : (T.node z zs []).InP P w (.agg #[.int .i64 z, .slice a zs.length c, .slice none 0 0]) := by
  unfold T.InP
  exact ⟨a, zs.length, c, none, 0, 0, rfl, hz, hr, by unfold maxLen; omega, hnil.1, rfl, ⟨Nat.zero_le _, hnil.2, Nat.le_refl _⟩, hp, fun h => absurd h (by omega)⟩

/-- A result's box that was laid at a call's beginning. -/
structure RB (w W : World) : Prop where
  box : Blk W w.heap.size 28 #[.int .i64 0, .slice none 0 0, .slice none 0 0]
  below : Below w.heap.size w W
theorem RB.start (w : World) : RB w (w.alloc (.cells #[.int .i64 0, .slice none 0 0, .slice none 0 0] 28)) := ⟨Blk.new _ _ _, (Below.refl _ _).alloc (Nat.le_refl _) _⟩
theorem RB.go {w W W' : World} (h : RB w W) (hb : Below W.heap.size W W') : RB w W' := ⟨h.box.below hb h.box.lt, Below.step h.below hb⟩
/-- Stores into the box. -/
def boxed (w W : World) (a b c : Value) : World := ((W.setCell ⟨w.heap.size, 0, none⟩ a).setCell ⟨w.heap.size, 1, none⟩ b).setCell ⟨w.heap.size, 2, none⟩ c
theorem RB.boxed {w W : World} (h : RB w W) (a b c : Value) : Blk (boxed w W a b c) w.heap.size 28 #[a, b, c] ∧ Below w.heap.size w (boxed w W a b c) :=
  ⟨((h.box.set 0 a).set 1 b).set 2 c, ((h.below.setCell (Nat.le_refl _) _).setCell (Nat.le_refl _) _).setCell (Nat.le_refl _) _⟩
/-- What lies elsewhere lies there still. -/
theorem boxed_row {w W : World} {a : Option Addr} {n : Nat} {zs : List Int} (h : Row W a n zs) (hne : 0 < n → ∃ b off, a = some ⟨b, off, none⟩ ∧ b ≠ w.heap.size) (x y z : Value) : Row (boxed w W x y z) a n zs := by
  refine ((h.set w.heap.size 0 x hne).set w.heap.size 1 y hne).set w.heap.size 2 z hne
theorem out_off {w W : World} {a : Option Addr} {n c : Nat} {L : List Int} (h : Out w W (.slice a n c) L) (hw : 0 < L.length) : ∃ b off, a = some ⟨b, off, none⟩ ∧ w.heap.size ≤ b := by
  obtain ⟨g, cap, e, hg⟩ := h.form hw
  injection e with e1 e2 e3
  exact ⟨g, 0, e1, hg⟩
theorem boxed_in {w W W0 : World} {t : T} {v : Value} (h : t.InP (W0.heap.size ≤ ·) W v) (hW : w.heap.size < W0.heap.size) (a b c : Value) : t.InP (w.heap.size ≤ ·) (boxed w W a b c) v :=
  T.InP.keep (fun x _ hp => ⟨by have hp' : W0.heap.size ≤ x := hp; show w.heap.size ≤ x; omega, by
    have hp' : W0.heap.size ≤ x := hp
    have hx : x ≠ w.heap.size := by omega
    unfold boxed
    rw [heap_setCell_other _ ⟨w.heap.size, 2, none⟩ x c hx, heap_setCell_other _ ⟨w.heap.size, 1, none⟩ x b hx, heap_setCell_other _ ⟨w.heap.size, 0, none⟩ x a hx]⟩) (by simp [boxed]) _ h
/-- The end of a way that hands back a leaf whose bytes are the call's own. -/
theorem gives_leaf {w W W0 : World} {tmps : Array Value} {fn : Func} {p : Tmp} {z : Int} {zs : List Int} {a : Option Addr} {c : Nat} (hf : fn.results = #[.cell p 28]) (hp : tmps.getD p undef = .pointer (some ⟨w.heap.size, 0, none⟩)) (hrb : RB w W) (ho : Out W0 W (.slice a zs.length c) zs) (hW : w.heap.size < W0.heap.size) (hz : (Lit.int .i64 z).wf = true) (hb : ∀ x ∈ zs, 0 ≤ x ∧ x ≤ 255) (hn : zs.length ≤ 1000000) :
    bodyPost Tryd.prog fn (GivesNode (.node z zs []) w) .ret { tmps := tmps, defers := [] } (boxed w W (.int .i64 z) (.slice a zs.length c) (.slice none 0 0)) := by
  obtain ⟨h1, h2⟩ := hrb.boxed (.int .i64 z) (.slice a zs.length c) (.slice none 0 0)
  refine bodyPost_ret (results_cell_row hf _ _ w.heap.size 28 #[.int .i64 z, .slice a zs.length c, .slice none 0 0] (0, 0) _ hp h1 Tryd.underlying28 rfl Tryd.sizeNode3) rfl ⟨a, zs.length, c, none, 0, 0, rfl, leaf_inP hz ?_ hn ⟨ho.nilc, own_cap ho.1⟩ (fun h0 => by
    obtain ⟨b, off, e, hb⟩ := out_off ho h0
    exact ⟨b, off, e, by omega⟩), h2⟩
  obtain ⟨a', c', e, hr⟩ := ho.row hb
  injection e with e1 e2 e3
  subst e1
  exact boxed_row hr (fun h0 => by
    obtain ⟨b, off, e, hb⟩ := out_off ho h0
    exact ⟨b, off, e, by omega⟩) _ _ _

/-- The end of a way that hands back an element that a callee made. -/
theorem gives_copy {w W W0 : World} {tmps : Array Value} {fn : Func} {p : Tmp} {t : T} {A : Option Addr} {n c : Nat} {K : Option Addr} {m d : Nat} (hf : fn.results = #[.cell p 28]) (hp : tmps.getD p undef = .pointer (some ⟨w.heap.size, 0, none⟩)) (hrb : RB w W) (hin : t.InP (W0.heap.size ≤ ·) W (.agg #[.int .i64 t.tag, .slice A n c, .slice K m d])) (hW : w.heap.size < W0.heap.size) :
    bodyPost Tryd.prog fn (GivesNode t w) .ret { tmps := tmps, defers := [] } (boxed w W (.int .i64 t.tag) (.slice A n c) (.slice K m d)) := by
  obtain ⟨h1, h2⟩ := hrb.boxed (.int .i64 t.tag) (.slice A n c) (.slice K m d)
  refine bodyPost_ret (results_cell_row hf _ _ w.heap.size 28 #[.int .i64 t.tag, .slice A n c, .slice K m d] (0, 0) _ hp h1 Tryd.underlying28 rfl Tryd.sizeNode3) rfl ⟨A, n, c, K, m, d, rfl, boxed_in hin hW _ _ _, h2⟩

def bigZ (zs : List Int) : List Int := if bareZ zs = [] ∨ 128 ≤ (bareZ zs)[(0 : Nat)]?.getD 0 then 0 :: bareZ zs else bareZ zs
def bigT (zs : List Int) : T := .node 2 (bigZ zs) []
theorem big_byte {zs : List Int} (h : ∀ x ∈ zs, 0 ≤ x ∧ x ≤ 255) : ∀ x ∈ bigZ zs, 0 ≤ x ∧ x ≤ 255 := by
  intro x hx
  unfold bigZ at hx
  split at hx
  · rcases List.mem_cons.1 hx with rfl | hx
    · omega
    · exact h x (bare_mem hx)
  · exact h x (bare_mem hx)
theorem big_le (zs : List Int) : (bigZ zs).length ≤ zs.length + 1 := by
  have := bare_le zs
  unfold bigZ
  split
  · rw [List.length_cons]; omega
  · omega

end Go.Proofs.YtgmefdmeeihgoaaDoor

namespace Go.Proofs.YtgmefdmeeihgoaaDoor
open Go.RowKit
set_option linter.unusedVariables false

/-- How many bytes a number takes at least. -/
def leastM (n : Int) : Nat := if n / 256 ^ 1 = 0 then 1 else if n / 256 ^ 2 = 0 then 2 else if n / 256 ^ 3 = 0 then 3 else if n / 256 ^ 4 = 0 then 4 else if n / 256 ^ 5 = 0 then 5 else if n / 256 ^ 6 = 0 then 6 else if n / 256 ^ 7 = 0 then 7 else 8
theorem leastM_is {n : Int} (h0 : 0 ≤ n) (h1 : n ≤ 18446744073709551615) : IsLeast n (leastM n) := by
  have h8 := div_eight h0 h1 (Nat.le_refl 8)
  unfold leastM IsLeast
  by_cases c1 : n / 256 ^ 1 = 0
  · rw [if_pos c1]; exact ⟨by omega, by omega, c1, .inl rfl⟩
  rw [if_neg c1]
  by_cases c2 : n / 256 ^ 2 = 0
  · rw [if_pos c2]; exact ⟨by omega, by omega, c2, .inr c1⟩
  rw [if_neg c2]
  by_cases c3 : n / 256 ^ 3 = 0
  · rw [if_pos c3]; exact ⟨by omega, by omega, c3, .inr c2⟩
  rw [if_neg c3]
  by_cases c4 : n / 256 ^ 4 = 0
  · rw [if_pos c4]; exact ⟨by omega, by omega, c4, .inr c3⟩
  rw [if_neg c4]
  by_cases c5 : n / 256 ^ 5 = 0
  · rw [if_pos c5]; exact ⟨by omega, by omega, c5, .inr c4⟩
  rw [if_neg c5]
  by_cases c6 : n / 256 ^ 6 = 0
  · rw [if_pos c6]; exact ⟨by omega, by omega, c6, .inr c5⟩
  rw [if_neg c6]
  by_cases c7 : n / 256 ^ 7 = 0
  · rw [if_pos c7]; exact ⟨by omega, by omega, c7, .inr c6⟩
  rw [if_neg c7]
  exact ⟨by omega, by omega, h8, .inr c7⟩
/-- The fewest bytes of a number. -/
def leastZ (n : Int) : List Int := beZ (leastM n) n
theorem GivesLeast.is {w w' : World} {n : Int} {e : Ending} (h0 : 0 ≤ n) (h1 : n ≤ 18446744073709551615) (h : GivesLeast w n e w') : ∃ b off c, e = .returned (.slice (some ⟨b, off, none⟩) (leastM n) c) ∧ Row w' (some ⟨b, off, none⟩) (leastM n) (leastZ n) ∧ Below w.heap.size w w' ∧ leastM n ≤ c := by
  obtain ⟨m, a, c, hm, rfl, hr, hb, hc⟩ := h
  obtain rfl := IsLeast.eq h0 hm (leastM_is h0 h1)
  obtain ⟨b, off, rfl, _⟩ := hr.2.2 (by have := hm.1; omega)
  exact ⟨b, off, c, rfl, hr, hb, hc⟩
theorem leastM_le (n : Int) : leastM n ≤ 8 := by
  unfold leastM
  repeat (first | omega | split)

def intT (n : Int) : T := bigT (leastZ n)
theorem same_test (x y : T) (h : x = y) : sameT x y = true := by rw [h]; exact same_refl y
theorem same_no (x y : T) (h : ¬ x = y) : sameT x y = false := by
  cases hs : sameT x y
  · rfl
  · exact absurd (same_is x y hs) h

/-- Great's answer. -/
def greatZ (t : T) : List Int × Int := if sameT t (bigT (bareZ t.body)) = true then (bareZ t.body, 0) else ([], 2)
/-- A row of bytes and an error. -/
def GivesBE (x : List Int × Int) (w : World) (e : Ending) (w' : World) : Prop :=
  ∃ a c, e = .returned (.tuple #[.slice a x.1.length c, .int .i64 x.2]) ∧ Row w' a x.1.length x.1 ∧ (a = none → c = 0) ∧ x.1.length ≤ c ∧ Below w.heap.size w w'


end Go.Proofs.YtgmefdmeeihgoaaDoor

namespace Go.Proofs.YtgmefdmeeihgoaaDoor
open Go.RowKit Go.Deep Go.ChangeShapes Go.WideShapes
section
variable {H : Type} {enc : TypeId × Value → H}

theorem trod_three {P : Program} {w : World} {base : Nat} {spare : Nat → Bool} {held : Bool} {t : TypeId} {f0 f1 f2 : Field} {fuel : Nat} {cs : List Value} {x : DataW H × List MemPlace} (hs : P.underlying t = some (.struct #[f0, f1, f2])) (hone : oneCellFields P #[f0, f1, f2] = true) (hC : P.cellsOf t = 3)
    (h : DataW.trod enc P w base spare held fuel t cs = some x) :
    ∃ (n : Nat) (v0 v1 v2 : Value) (y0 y1 y2 : DataW H × List MemPlace), fuel = n + 1 ∧ cs = [v0, v1, v2] ∧
      DataW.trod enc P w base spare held n f0.type [v0] = some y0 ∧ DataW.trod enc P w base spare held n f1.type [v1] = some y1 ∧ DataW.trod enc P w base spare held n f2.type [v2] = some y2 := by
  obtain ⟨xs, n, hfu, _, hl, hlen, hf⟩ := DataW.trod_struct hs h
  rw [hC] at hl
  obtain ⟨o0, k0⟩ := hone_of hone 0 f0 rfl
  obtain ⟨o1, k1⟩ := hone_of hone 1 f1 rfl
  obtain ⟨o2, k2⟩ := hone_of hone 2 f2 rfl
  match cs, hl, xs, hlen with
  | [v0, v1, v2], _, [y0, y1, y2], _ =>
    exact ⟨n, v0, v1, v2, y0, y1, y2, hfu, rfl, by simpa [o0, k0] using hf 0 f0 rfl, by simpa [o1, k1] using hf 1 f1 rfl, by simpa [o2, k2] using hf 2 f2 rfl⟩

theorem listed {p : Nat → T → Prop} {len : Nat} (h : ∀ i, i < len → ∃ t, p i t) : ∃ ts : List T, ts.length = len ∧ ∀ (i : Nat) (hi : i < ts.length), p i ts[i] := by
  have h' : ∀ i, ∃ t, i < len → p i t := fun i => by
    by_cases hi : i < len
    · obtain ⟨t, ht⟩ := h i hi
      exact ⟨t, fun _ => ht⟩
    · exact ⟨.node 0 [] [], fun hl => absurd hl hi⟩
  obtain ⟨f, hf⟩ := Classical.axiomOfChoice h'
  refine ⟨(List.range len).map f, by simp, fun i hi => ?_⟩
  have hi' : i < len := by simpa using hi
  simpa using hf i hi'

theorem cells_node : Tryd.prog.cellsOf 28 = 3 := by kernel_rfl
theorem cells_byte : Tryd.prog.cellsOf 5 = 1 := by kernel_rfl

theorem open_node {w : World} {spare : Nat → Bool} {held : Bool} (hsp : ∀ b, spare b = true) (fuel : Nat) : ∀ (cs : List Value) (x : DataW H × List MemPlace), DataW.trod enc Tryd.prog w 0 spare held fuel 28 cs = some x →
    ∃ (v0 v1 v2 : Value) (t : T), cs = [v0, v1, v2] ∧ t.In w (.agg #[v0, v1, v2]) := by
  induction fuel using Nat.strongRecOn with
  | ind fuel ih =>
    intro cs x h
    obtain ⟨n, v0, v1, v2, y0, y1, y2, hfu, rfl, h0, h1, h2⟩ := trod_three Tryd.underlying28 (by kernel_rfl) cells_node h
    obtain ⟨tag, e0, _, hw⟩ := DataW.trod_int Tryd.underlying3 h0
    injection e0 with e0 _
    subst e0
    obtain ⟨A, m, c, body, e1, hr, hm, hnil, hmc⟩ : ∃ (A : Option Addr) (m c : Nat) (body : List Int), v1 = .slice A m c ∧ Row w A m body ∧ m ≤ maxLen ∧ (A = none → c = 0) ∧ m ≤ c := by
      rcases open_ints Tryd.underlying22 Tryd.underlying5 cells_byte h1 with ⟨hcs, _⟩ | ⟨a, len, cap, zs, hcs, _, hl, hm, hz, _, hcell, hwz⟩
      · injection hcs with e _
        exact ⟨none, 0, 0, [], e, Row.nil _ _, Nat.zero_le _, fun _ => rfl, Nat.le_refl _⟩
      · injection hcs with e _
        rw [hsp, if_pos rfl] at hz
        obtain ⟨r1, r2⟩ := row_of (w := w) (a := some a) (len := len) (cap := cap) (zs := zs) (.inr ⟨a, rfl, hl, hm, hz, hcell, hwz⟩)
        exact ⟨some a, len, cap, zs.take len, e, r1, r2, fun h => (by cases h), hl⟩
    subst e1
    obtain ⟨K, k, d, kids, e2, hk, hkm, hkd, hall⟩ : ∃ (K : Option Addr) (k d : Nat) (kids : List T), v2 = .slice K k d ∧ kids.length = k ∧ k ≤ maxLen ∧ k ≤ d ∧ (0 < k → ∃ b off, K = some ⟨b, off, none⟩ ∧ b < w.heap.size ∧ T.InAll w kids b off) := by
      rcases DataW.trod_slice Tryd.underlying26 h2 with ⟨hcs, _⟩ | ⟨a, len, cap, elems, rest, n', hn', hcs, _, _, hl, hm, hlen, hel, _, _⟩
      · injection hcs with e _
        exact ⟨none, 0, 0, [], e, rfl, Nat.zero_le _, Nat.le_refl _, fun h => absurd h (by omega)⟩
      · injection hcs with e _
        rw [cells_node] at hel
        obtain ⟨ts, hts, hp⟩ := listed (p := fun i t => ∃ v0 v1 v2 : Value, w.cell? ((a.add (i * 3)).add 0) = some v0 ∧ w.cell? ((a.add (i * 3)).add 1) = some v1 ∧ w.cell? ((a.add (i * 3)).add 2) = some v2 ∧ t.In w (.agg #[v0, v1, v2])) (len := len) (fun i hi => by
          have he := hel i hi
          rw [List.getElem?_eq_getElem (by omega)] at he
          obtain ⟨ci, hci, hti⟩ := Option.bind_eq_some_iff.1 he
          obtain ⟨u0, u1, u2, t, rfl, hin⟩ := ih n' (by omega) ci _ hti
          obtain ⟨_, _, hc⟩ := World.cells?_some hci
          exact ⟨t, u0, u1, u2, by simpa using hc 0 (by omega), by simpa using hc 1 (by omega), by simpa using hc 2 (by omega), hin⟩)
        refine ⟨some a, len, cap, ts, e, hts, by omega, by omega, fun hpos => ?_⟩
        obtain ⟨b, off, spot⟩ := a
        obtain ⟨u0, _, _, hc0, _, _, _⟩ := hp 0 (by omega)
        have hspot : spot = none := by simpa [Addr.add] using World.cell?_spot hc0
        subst hspot
        refine ⟨b, off, rfl, by have := cell_block hc0; simpa [Addr.add] using this, T.InAll.of fun i hi => ?_⟩
        obtain ⟨u0, u1, u2, g0, g1, g2, g3⟩ := hp i hi
        rw [Addr.add_lit] at g0 g1 g2
        rw [Addr.add_lit] at g0 g1 g2
        exact ⟨u0, u1, u2, g0, g1, g2, g3⟩
    subst e2
    refine ⟨_, _, _, .node tag body kids, rfl, ?_⟩
    unfold T.In
    exact ⟨A, m, c, K, k, d, rfl, hw, hr, hm, hnil, hk, ⟨hkm, hmc, hkd⟩, hall⟩
set_option maxRecDepth 100000 in
/-- An argument of type Node. -/
theorem open_arg {w : World} {r : Reach} {b0 : Nat} {held : Bool} {v : Value} {d : DataW H} {p : List MemPlace} (hv : Value.okWide Tryd.prog w r b0 28 v) (h : DataW.Trod enc Tryd.prog w 0 (fun _ => true) held 28 v d p) : ∃ t : T, t.In w v := by
  obtain ⟨cs, rfl, _⟩ := okWide_struct Tryd.underlying28 hv
  obtain ⟨fuel, hf⟩ := h
  obtain ⟨v0, v1, v2, t, hcs, hin⟩ := open_node (fun _ => rfl) fuel _ _ hf
  have e : cs = #[v0, v1, v2] := by
    obtain ⟨l⟩ := cs
    have hl : l = [v0, v1, v2] := hcs
    rw [hl]
  subst e
  exact ⟨t, hin⟩
set_option maxRecDepth 100000 in
/-- An argument of type []Node. -/
theorem open_args {w : World} {held : Bool} {K : Option Addr} {k d : Nat} {x : DataW H} {p : List MemPlace} (h : DataW.Trod enc Tryd.prog w 0 (fun _ => true) held 26 (.slice K k d) x p) :
    ∃ kids : List T, kids.length = k ∧ k ≤ maxLen ∧ (K = none → d = 0) ∧ (0 < k → ∃ b off, K = some ⟨b, off, none⟩ ∧ b < w.heap.size ∧ T.InAll w kids b off) := by
  obtain ⟨fuel, hf⟩ := h
  rcases DataW.trod_slice Tryd.underlying26 hf with ⟨hcs, _⟩ | ⟨a, len, cap, elems, rest, n', hn', hcs, _, _, hl, hm, hlen, hel, _, _⟩
  · simp [Value.cells] at hcs
    obtain ⟨rfl, rfl, rfl⟩ := hcs
    exact ⟨[], rfl, Nat.zero_le _, fun _ => rfl, fun h => absurd h (by omega)⟩
  · simp [Value.cells] at hcs
    obtain ⟨rfl, rfl, rfl⟩ := hcs
    rw [cells_node] at hel
    obtain ⟨ts, hts, hp⟩ := listed (p := fun i t => ∃ v0 v1 v2 : Value, w.cell? ((a.add (i * 3)).add 0) = some v0 ∧ w.cell? ((a.add (i * 3)).add 1) = some v1 ∧ w.cell? ((a.add (i * 3)).add 2) = some v2 ∧ t.In w (.agg #[v0, v1, v2])) (len := k) (fun i hi => by
      have he := hel i hi
      rw [List.getElem?_eq_getElem (by omega)] at he
      obtain ⟨ci, hci, hti⟩ := Option.bind_eq_some_iff.1 he
      obtain ⟨u0, u1, u2, t, rfl, hin⟩ := open_node (fun _ => rfl) n' ci _ hti
      obtain ⟨_, _, hc⟩ := World.cells?_some hci
      exact ⟨t, u0, u1, u2, by simpa using hc 0 (by omega), by simpa using hc 1 (by omega), by simpa using hc 2 (by omega), hin⟩)
    refine ⟨ts, hts, by omega, fun h => (by cases h), fun hpos => ?_⟩
    obtain ⟨b, off, spot⟩ := a
    obtain ⟨u0, _, _, hc0, _, _, _⟩ := hp 0 (by omega)
    have hspot : spot = none := by simpa [Addr.add] using World.cell?_spot hc0
    subst hspot
    refine ⟨b, off, rfl, by have := cell_block hc0; simpa [Addr.add] using this, T.InAll.of fun i hi => ?_⟩
    obtain ⟨u0, u1, u2, g0, g1, g2, g3⟩ := hp i hi
    rw [Addr.add_lit] at g0 g1 g2
    rw [Addr.add_lit] at g0 g1 g2
    exact ⟨u0, u1, u2, g0, g1, g2, g3⟩
end
end Go.Proofs.YtgmefdmeeihgoaaDoor

namespace Go.Proofs.YtgmefdmeeihgoaaDoor
open Go.RowKit Go.Deep Go.ChangeShapes Go.WideShapes
/-- The body's row of bytes has room for its bytes. -/
def Capped (v : Value) : Prop := ∀ z A n c y, v = .agg #[z, .slice A n c, y] → n ≤ c
theorem Capped.is {z : Value} {A : Option Addr} {n c : Nat} {y : Value} (h : Capped (.agg #[z, .slice A n c, y])) : n ≤ c := h _ _ _ _ _ rfl
section
variable {H : Type} {enc : TypeId × Value → H}
theorem cap_node {w : World} {spare : Nat → Bool} {held : Bool} {fuel : Nat} {cs : List Value} {x : DataW H × List MemPlace} (h : DataW.trod enc Tryd.prog w 0 spare held fuel 28 cs = some x) : Capped (.agg cs.toArray) := by
  obtain ⟨n, v0, v1, v2, y0, y1, y2, hfu, rfl, h0, h1, h2⟩ := trod_three Tryd.underlying28 (by kernel_rfl) cells_node h
  intro z A m c y e
  simp only [Value.agg.injEq] at e
  have e' := congrArg Array.toList e
  simp only [List.cons.injEq, and_true] at e'
  obtain ⟨_, rfl, _⟩ := e'
  rcases open_ints Tryd.underlying22 Tryd.underlying5 cells_byte h1 with ⟨hcs, _⟩ | ⟨a, len, cap, zs, hcs, _, hl, hm, hz, _, hcell, hwz⟩
  · injection hcs with e _
    injection e with e1 e2 e3
    omega
  · injection hcs with e _
    injection e with e1 e2 e3
    omega
set_option maxRecDepth 100000 in
/-- An argument of type Node. -/
theorem open_arg_cap {w : World} {r : Reach} {b0 : Nat} {held : Bool} {v : Value} {d : DataW H} {p : List MemPlace} (hv : Value.okWide Tryd.prog w r b0 28 v) (h : DataW.Trod enc Tryd.prog w 0 (fun _ => true) held 28 v d p) : Capped v := by
  obtain ⟨cs, rfl, _⟩ := okWide_struct Tryd.underlying28 hv
  obtain ⟨fuel, hf⟩ := h
  exact cap_node hf
end
end Go.Proofs.YtgmefdmeeihgoaaDoor

namespace Go.Proofs.YtgmefdmeeihgoaaDoor
open Go.RowKit
set_option linter.unusedVariables false

theorem Box.laters {w wr : World} {g : Nat} {t : T} {A : Option Addr} {n c : Nat} {K : Option Addr} {m d : Nat} (h : Box w wr g t A n c K m d) : (∀ W, Ext wr.drew W → W.cell? ⟨g, 0, none⟩ = some (.int .i64 t.tag)) ∧ (∀ W, Ext wr.drew W → W.cell? ⟨g, 1, none⟩ = some (.slice A n c)) ∧ (∀ W, Ext wr.drew W → W.cell? ⟨g, 2, none⟩ = some (.slice K m d)) :=
  ⟨cell_later h.cells.1, cell_later h.cells.2.1, cell_later h.cells.2.2⟩

end Go.Proofs.YtgmefdmeeihgoaaDoor

namespace Go.Proofs.YtgmefdmeeihgoaaDoor
open Go.RowKit
set_option linter.unusedVariables false

def boolT (b : Bool) : T := .node 1 [if b then 255 else 0] []
/-- The end of a way that hands back a leaf that lies in the result's block. -/
theorem gives_at {w W : World} {tmps : Array Value} {fn : Func} {p : Tmp} {z : Int} {zs : List Int} {a : Option Addr} {c : Nat} (hf : fn.results = #[.cell p 28]) (hp : tmps.getD p undef = .pointer (some ⟨w.heap.size, 0, none⟩)) (hblk : Blk W w.heap.size 28 #[.int .i64 z, .slice a zs.length c, .slice none 0 0]) (hbel : Below w.heap.size w W) (hr : Row W a zs.length zs) (hg : 0 < zs.length → ∃ b off, a = some ⟨b, off, none⟩ ∧ w.heap.size ≤ b) (hnil : (a = none → c = 0) ∧ zs.length ≤ c) (hz : (Lit.int .i64 z).wf = true) (hn : zs.length ≤ 1000000) :
    bodyPost Tryd.prog fn (GivesNode (.node z zs []) w) .ret { tmps := tmps, defers := [] } W :=
  bodyPost_ret (results_cell_row hf _ _ w.heap.size 28 #[.int .i64 z, .slice a zs.length c, .slice none 0 0] (0, 0) _ hp hblk Tryd.underlying28 rfl Tryd.sizeNode3) rfl ⟨a, zs.length, c, none, 0, 0, rfl, leaf_inP hz hr hn hnil hg, hbel⟩
theorem byte_at (w : World) (x z : Int) (hx : 0 ≤ x ∧ x ≤ 255) : let W := (w.alloc (.cells #[.int .i64 z, .slice (some ⟨w.heap.size + 1, 0, none⟩) 1 1, .slice none 0 0] 28)).alloc (.cells #[.int .u8 x] 5)
    Blk W w.heap.size 28 #[.int .i64 z, .slice (some ⟨w.heap.size + 1, 0, none⟩) 1 1, .slice none 0 0] ∧ Below w.heap.size w W ∧ Row W (some ⟨w.heap.size + 1, 0, none⟩) 1 [x] := by
  intro W
  have hb := Blk.new w 28 #[.int .i64 z, .slice (some ⟨w.heap.size + 1, 0, none⟩) 1 1, .slice none 0 0]
  have hs : (w.alloc (.cells #[.int .i64 z, .slice (some ⟨w.heap.size + 1, 0, none⟩) 1 1, .slice none 0 0] 28)).heap.size = w.heap.size + 1 := by simp
  have hr := row_const (w.alloc (.cells #[.int .i64 z, .slice (some ⟨w.heap.size + 1, 0, none⟩) 1 1, .slice none 0 0] 28)) [x] (0, 0) (by simpa using hx)
  rw [hs] at hr
  exact ⟨hb.below ((Below.refl _ _).alloc (Nat.le_refl _) _) (by omega), ((Below.refl _ _).alloc (Nat.le_refl _) _).alloc (by omega) _, hr⟩
/-- True's answer. -/
def trueZ (t : T) : Bool × Int := if sameT t (boolT true) = true then (true, 0) else if sameT t (boolT false) = true then (false, 0) else (false, 2)
def GivesTruth (x : Bool × Int) (w : World) (e : Ending) (w' : World) : Prop := e = .returned (.tuple #[.bool x.1, .int .i64 x.2]) ∧ Below w.heap.size w w'
theorem GivesTruth.of {x : Bool × Int} {b : Bool} {n : Int} {w w' : World} (h : x = (b, n)) (hb : Below w.heap.size w w') : GivesTruth x w (.returned (.tuple #[.bool b, .int .i64 n])) w' := by subst h; exact ⟨rfl, hb⟩

end Go.Proofs.YtgmefdmeeihgoaaDoor

namespace Go.Proofs.YtgmefdmeeihgoaaDoor
open Go.RowKit
set_option linter.unusedVariables false

/-- Sevens of a number, ahead of what is there. -/
def sevN (n : Nat) (acc : List Int) : List Int := if h : 128 ≤ n then sevN (n / 128) (((n / 128 % 128 : Nat) + 128 : Int) :: acc) else acc
termination_by n
decreasing_by omega
def sevenN (n : Nat) : List Int := sevN n [((n % 128 : Nat) : Int)]
def SevB (l n : Nat) : Prop := (l ≤ 1 ∨ n < 2 ^ 57) ∧ (l ≤ 2 ∨ n < 2 ^ 50) ∧ (l ≤ 3 ∨ n < 2 ^ 43) ∧ (l ≤ 4 ∨ n < 2 ^ 36) ∧ (l ≤ 5 ∨ n < 2 ^ 29) ∧ (l ≤ 6 ∨ n < 2 ^ 22) ∧ (l ≤ 7 ∨ n < 2 ^ 15) ∧ (l ≤ 8 ∨ n < 2 ^ 8) ∧ (l ≤ 9 ∨ n < 2 ^ 1) ∧ l ≤ 10 ∧ n < 2 ^ 64
theorem SevB.step {l n : Nat} (h : SevB l n) (hn : 128 ≤ n) : SevB (l + 1) (n / 128) := by
  unfold SevB at h ⊢
  omega
theorem sevN_more {n : Nat} (h : 128 ≤ n) (acc : List Int) : sevN n acc = sevN (n / 128) (((n / 128 % 128 : Nat) + 128 : Int) :: acc) := by rw [sevN, dif_pos h]
theorem sevN_end {n : Nat} (h : ¬ 128 ≤ n) (acc : List Int) : sevN n acc = acc := by rw [sevN, dif_neg h]
theorem sevN_byte (n : Nat) : ∀ acc : List Int, (∀ x ∈ acc, 0 ≤ x ∧ x ≤ 255) → ∀ x ∈ sevN n acc, 0 ≤ x ∧ x ≤ 255 := by
  induction n using Nat.strongRecOn with
  | ind n ih =>
    intro acc ha
    by_cases h : 128 ≤ n
    · rw [sevN_more h]
      refine ih _ (by omega) _ ?_
      intro x hx
      rcases List.mem_cons.1 hx with rfl | hx
      · omega
      · exact ha x hx
    · rw [sevN_end h]
      exact ha
theorem sevN_len (n : Nat) : ∀ acc : List Int, SevB acc.length n → (sevN n acc).length ≤ 10 := by
  induction n using Nat.strongRecOn with
  | ind n ih =>
    intro acc ha
    by_cases h : 128 ≤ n
    · rw [sevN_more h]
      exact ih _ (by omega) _ (ha.step h)
    · rw [sevN_end h]
      exact ha.2.2.2.2.2.2.2.2.2.1
theorem seven_byte (n : Nat) : ∀ x ∈ sevenN n, 0 ≤ x ∧ x ≤ 255 := sevN_byte n _ (by intro x hx; simp at hx; omega)
theorem seven_len {n : Nat} (h : n < 2 ^ 64) : (sevenN n).length ≤ 10 := sevN_len n _ (by unfold SevB; simp; omega)


theorem numZ_range (zs : List Int) (hb : ∀ x ∈ zs, 0 ≤ x ∧ x ≤ 255) : ∀ n : Int, 0 ≤ n → n ≤ 18446744073709551615 → 0 ≤ (numZ n zs).1 ∧ (numZ n zs).1 ≤ 18446744073709551615 := by
  induction zs with
  | nil => intro n h0 h1; exact ⟨h0, h1⟩
  | cons x xs ih =>
    intro n h0 h1
    rw [numZ]
    split
    · exact ⟨by simp, by simp⟩
    · rename_i hc
      have hx := hb x (List.mem_cons_self ..)
      unfold B56 at hc
      exact ih (fun y hy => hb y (List.mem_cons_of_mem _ hy)) _ (by omega) (by omega)

/-- Uint's answer. -/
def uintZ (t : T) : Int × Int := if (numZ 0 t.body).2 = true ∧ sameT t (intT (numZ 0 t.body).1) = true then ((numZ 0 t.body).1, 0) else (0, 2)
def GivesUint (x : Int × Int) (w : World) (e : Ending) (w' : World) : Prop := e = .returned (.tuple #[.int .u64 x.1, .int .i64 x.2]) ∧ Below w.heap.size w w'
theorem GivesUint.of {x : Int × Int} {b : Int} {n : Int} {w w' : World} (h : x = (b, n)) (hb : Below w.heap.size w w') : GivesUint x w (.returned (.tuple #[.int .u64 b, .int .i64 n])) w' := by subst h; exact ⟨rfl, hb⟩

end Go.Proofs.YtgmefdmeeihgoaaDoor

namespace Go.Proofs.YtgmefdmeeihgoaaDoor
open Go.RowKit
set_option linter.unusedVariables false

/-- A call that hands an element and an error back. -/
def GivesNodeE (x : T × Int) (w : World) (e : Ending) (w' : World) : Prop :=
  ∃ (A : Option Addr) (n c : Nat) (K : Option Addr) (m d : Nat), e = .returned (.tuple #[.agg #[.int .i64 x.1.tag, .slice A n c, .slice K m d], .int .i64 x.2]) ∧ x.1.InP (w.heap.size ≤ ·) w' (.agg #[.int .i64 x.1.tag, .slice A n c, .slice K m d]) ∧ Below w.heap.size w w'
theorem results_nodee {P : Program} {fn : Func} {p u : Tmp} {ty : TypeId} (h : fn.results = #[.cell p ty, .tmp u]) (tmps : Array Value) (w : World) (g : Nat) (t : TypeId) (cs : Array Value) (fr : Nat × Nat) (d : TypeDesc)
    (hp : tmps.getD p undef = .pointer (some ⟨g, 0, none⟩)) (hg : w.heap[g]? = some (.cells cs t fr))
    (hu : P.underlying ty = some d) (hd : (match d with | .struct _ | .array _ _ => true | _ => false) = true) (hi : (P.info? ty).map (·.size) = some cs.size) :
    (results fn tmps).run P w = .ok (.tuple #[.agg cs, tmps.getD u undef]) w := by
  rw [results_cell_tmp h, hp]
  simp [asAddr, run_loadVar_row w g t ty cs fr d hg hu hd hi, Result.andThen]
/-- The end of a way that hands back a leaf that lies in the result's block, and an error. -/
theorem gives_ate {w W : World} {tmps : Array Value} {fn : Func} {p u : Tmp} {x : T × Int} {z er : Int} {zs : List Int} {a : Option Addr} {c : Nat} (hx : x = (.node z zs [], er)) (hf : fn.results = #[.cell p 28, .tmp u]) (hp : tmps.getD p undef = .pointer (some ⟨w.heap.size, 0, none⟩)) (hu : tmps.getD u undef = .int .i64 er) (hblk : Blk W w.heap.size 28 #[.int .i64 z, .slice a zs.length c, .slice none 0 0]) (hbel : Below w.heap.size w W) (hr : Row W a zs.length zs) (hg : 0 < zs.length → ∃ b off, a = some ⟨b, off, none⟩ ∧ w.heap.size ≤ b) (hnil : (a = none → c = 0) ∧ zs.length ≤ c) (hz : (Lit.int .i64 z).wf = true) (hn : zs.length ≤ 1000000) :
    bodyPost Tryd.prog fn (GivesNodeE x w) .ret { tmps := tmps, defers := [] } W := by
  subst hx
  have h := results_nodee (P := Tryd.prog) hf tmps W w.heap.size 28 #[.int .i64 z, .slice a zs.length c, .slice none 0 0] (0, 0) _ hp hblk Tryd.underlying28 rfl Tryd.sizeNode3
  rw [hu] at h
  exact bodyPost_ret h rfl ⟨a, zs.length, c, none, 0, 0, rfl, leaf_inP hz hr hn hnil hg, hbel⟩
/-- The same, where the box has been stored into. -/
theorem gives_leafe {w W : World} {tmps : Array Value} {fn : Func} {p u : Tmp} {x : T × Int} {z er : Int} {zs : List Int} {a : Option Addr} {c : Nat} (hx : x = (.node z zs [], er)) (hf : fn.results = #[.cell p 28, .tmp u]) (hp : tmps.getD p undef = .pointer (some ⟨w.heap.size, 0, none⟩)) (hu : tmps.getD u undef = .int .i64 er) (hrb : RB w W) (hr : Row W a zs.length zs) (hg : 0 < zs.length → ∃ b off, a = some ⟨b, off, none⟩ ∧ w.heap.size < b) (hnil : (a = none → c = 0) ∧ zs.length ≤ c) (hz : (Lit.int .i64 z).wf = true) (hn : zs.length ≤ 1000000) :
    bodyPost Tryd.prog fn (GivesNodeE x w) .ret { tmps := tmps, defers := [] } (boxed w W (.int .i64 z) (.slice a zs.length c) (.slice none 0 0)) := by
  obtain ⟨h1, h2⟩ := hrb.boxed (.int .i64 z) (.slice a zs.length c) (.slice none 0 0)
  refine gives_ate hx hf hp hu h1 h2 (boxed_row hr (fun h0 => ?_) _ _ _) (fun h0 => ?_) hnil hz hn
  · obtain ⟨b, off, e, hb⟩ := hg h0
    exact ⟨b, off, e, by omega⟩
  · obtain ⟨b, off, e, hb⟩ := hg h0
    exact ⟨b, off, e, by omega⟩
/-- A call that hands an element back, wherever it lies. -/
def HasNode (t : T) (w : World) (e : Ending) (w' : World) : Prop :=
  ∃ (A : Option Addr) (n c : Nat) (K : Option Addr) (m d : Nat), e = .returned (.agg #[.int .i64 t.tag, .slice A n c, .slice K m d]) ∧ t.In w' (.agg #[.int .i64 t.tag, .slice A n c, .slice K m d]) ∧ Below w.heap.size w w'
theorem GivesNode.has {t : T} {w w' : World} {e : Ending} (h : GivesNode t w e w') : HasNode t w e w' := by
  obtain ⟨A, n, c, K, m, d, e, hin, hb⟩ := h
  exact ⟨A, n, c, K, m, d, e, T.InP.in _ hin, hb⟩
/-- A call that hands an element and an error back, wherever the element lies. -/
def HasNodeE (x : T × Int) (w : World) (e : Ending) (w' : World) : Prop :=
  ∃ (A : Option Addr) (n c : Nat) (K : Option Addr) (m d : Nat), e = .returned (.tuple #[.agg #[.int .i64 x.1.tag, .slice A n c, .slice K m d], .int .i64 x.2]) ∧ x.1.In w' (.agg #[.int .i64 x.1.tag, .slice A n c, .slice K m d]) ∧ Below w.heap.size w w'
theorem GivesNodeE.has {x : T × Int} {w w' : World} {e : Ending} (h : GivesNodeE x w e w') : HasNodeE x w e w' := by
  obtain ⟨A, n, c, K, m, d, e, hin, hb⟩ := h
  exact ⟨A, n, c, K, m, d, e, T.InP.in _ hin, hb⟩

end Go.Proofs.YtgmefdmeeihgoaaDoor

namespace Go.Proofs.YtgmefdmeeihgoaaDoor
open Go.RowKit
set_option linter.unusedVariables false

def leftZ (zs : List Int) (many : Int) : Int := 8 * (zs.length : Int) - many
def FitBits (zs : List Int) (many : Int) : Prop := ¬ many < 0 ∧ ¬ 8 * (zs.length : Int) < many ∧ (zs.length : Int) = (many + 7) / 8
instance (zs : List Int) (many : Int) : Decidable (FitBits zs many) := by unfold FitBits; infer_instance
/-- Bits' answer. -/
def bitsZ (zs : List Int) (many : Int) : T × Int :=
  if FitBits zs many then (if 0 < leftZ zs many ∧ (zs[zs.length - 1]?.getD 0) % 2 ^ (leftZ zs many).toNat ≠ 0 then (zeroT, 1) else (.node 3 (leftZ zs many :: zs) [], 0)) else (zeroT, 1)

end Go.Proofs.YtgmefdmeeihgoaaDoor

namespace Go.Proofs.YtgmefdmeeihgoaaDoor
open Go.RowKit
set_option linter.unusedVariables false

/-- Of's answer. -/
def ofZ (t : T) : List Int × Int × Int :=
  if t.body = [] ∨ 7 < t.body[(0 : Nat)]?.getD 0 then ([], 0, 2)
  else if (bitsZ (t.body.drop 1) (8 * ((t.body.drop 1).length : Int) - t.body[(0 : Nat)]?.getD 0)).2 = 0 ∧ sameT (bitsZ (t.body.drop 1) (8 * ((t.body.drop 1).length : Int) - t.body[(0 : Nat)]?.getD 0)).1 t = true
  then (t.body.drop 1, 8 * ((t.body.drop 1).length : Int) - t.body[(0 : Nat)]?.getD 0, 0) else ([], 0, 2)
def GivesOf (x : List Int × Int × Int) (w : World) (e : Ending) (w' : World) : Prop :=
  ∃ a c, e = .returned (.tuple #[.slice a x.1.length c, .int .i64 x.2.1, .int .i64 x.2.2]) ∧ Row w' a x.1.length x.1 ∧ (a = none → c = 0) ∧ x.1.length ≤ c ∧ Below w.heap.size w w'
theorem gives_of_no {x : List Int × Int × Int} {w w' : World} (h : x = ([], 0, 2)) (hb : Below w.heap.size w w') : GivesOf x w (.returned (.tuple #[.slice none 0 0, .int .i64 0, .int .i64 2])) w' := by
  subst h
  exact ⟨Option.none, 0, rfl, Row.nil _ _, fun _ => rfl, Nat.le_refl _, hb⟩
theorem bits_err (zs : List Int) (many : Int) : (bitsZ zs many).2 = 0 ∨ (bitsZ zs many).2 = 1 := by
  unfold bitsZ
  split
  · split
    · exact .inr rfl
    · exact .inl rfl
  · exact .inr rfl

end Go.Proofs.YtgmefdmeeihgoaaDoor

namespace Go.Proofs.YtgmefdmeeihgoaaDoor
open Go.RowKit
set_option linter.unusedVariables false

/-- A slice value with n elements reads as the numbers zs, each a byte; where there is an element, it lies in a block of this world. -/
def Row32 (w : World) (a : Option Addr) (n : Nat) (zs : List Int) : Prop :=
  zs.length = n ∧ (∀ x ∈ zs, 0 ≤ x ∧ x ≤ 4294967295) ∧
  (0 < n → ∃ b off, a = some ⟨b, off, none⟩ ∧ b < w.heap.size ∧ ∀ i, i < n → w.cell? ⟨b, off + i, none⟩ = some (.int .u32 (zs[i]?.getD 0)))

theorem Row32.below {w w' : World} {a : Option Addr} {n : Nat} {zs : List Int} (h : Row32 w a n zs) (hb : Below w.heap.size w w') : Row32 w' a n zs := by
  refine ⟨h.1, h.2.1, fun hn => ?_⟩
  obtain ⟨b, off, e, hlt, hc⟩ := h.2.2 hn
  exact ⟨b, off, e, Nat.lt_of_lt_of_le hlt hb.size, fun i hi => (hb.cell (p := ⟨b, off + i, none⟩) hlt).trans (hc i hi)⟩

theorem Row32.drewN {w : World} {a : Option Addr} {n : Nat} {zs : List Int} (h : Row32 w a n zs) (k : Nat) : Row32 (w.drewN k) a n zs := h

theorem Row32.nil (w : World) (a : Option Addr) : Row32 w a 0 [] := ⟨rfl, by simp, fun h => absurd h (by omega)⟩

theorem Row32.num {w : World} {a : Option Addr} {n : Nat} {zs : List Int} (h : Row32 w a n zs) (k : Nat) : 0 ≤ zs[k]?.getD 0 ∧ zs[k]?.getD 0 ≤ 4294967295 := by
  rcases Nat.lt_or_ge k zs.length with hk | hk
  · rw [List.getElem?_eq_getElem hk]
    exact h.2.1 _ (List.getElem_mem hk)
  · rw [List.getElem?_eq_none hk]
    simp

/-- The row that was made reads as these numbers. -/
theorem Row32.of_own {w : World} {base g n cap : Nat} {zs : List Int} (h : w.ownsRow base 23 1 (.slice (some ⟨g, 0, none⟩) n cap) n (zs.map (Value.int .u32))) (hz : ∀ x ∈ zs, 0 ≤ x ∧ x ≤ 4294967295) :
    Row32 w (some ⟨g, 0, none⟩) n zs := by
  have hl : zs.length = n := by have := h.1; simpa using this
  refine ⟨hl, hz, fun hn => ⟨g, 0, rfl, ?_, fun i hi => ?_⟩⟩
  · exact (h.lt g rfl).2
  · rw [Nat.zero_add, h.cellAt i (by omega)]
    simp [show i < zs.length by omega]

theorem row32_of {w : World} {a : Option Addr} {len cap : Nat} {zs : List Int}
    (h : (a = none ∧ len = 0 ∧ cap = 0 ∧ zs = []) ∨
      ∃ x, a = some x ∧ len ≤ cap ∧ cap ≤ maxLen ∧ zs.length = cap ∧ (∀ i, i < zs.length → w.cell? (x.add i) = some (.int .u32 (zs.getD i 0))) ∧ ∀ n ∈ zs, (Lit.int .u32 n).wf = true) :
    Row32 w a len (zs.take len) ∧ len ≤ maxLen := by
  rcases h with ⟨rfl, rfl, rfl, rfl⟩ | ⟨x, rfl, hl, hm, hz, hcell, hwz⟩
  · exact ⟨Row32.nil _ _, Nat.zero_le _⟩
  · refine ⟨⟨by rw [List.length_take]; omega, fun y hy => ?_, fun hn => ?_⟩, by omega⟩
    · have := hwz y (List.mem_of_mem_take hy)
      have := bounds_u32 this
      omega
    · obtain ⟨b, off, spot⟩ := x
      have hc := hcell 0 (by omega)
      have hspot : spot = none := by simpa [Addr.add] using World.cell?_spot hc
      subst hspot
      refine ⟨b, off, rfl, by have := cell_block hc; simpa [Addr.add] using this, fun i hi => ?_⟩
      have := hcell i (by omega)
      rw [Addr.add_lit] at this
      rw [this, List.getD_eq_getElem?_getD, List.getElem?_take, if_pos hi]

theorem Tryd.info32 : (Tryd.prog.info? 23).map (fun i => (i.zero, i.size, i.bytes)) = some (some (.int .u32 0), 1, 4) := by kernel_rfl

/-- The slice V is the call's own, in memory newer than W0, and reads as the numbers L. -/
def Out32 (W0 wr : World) (V : Value) (L : List Int) : Prop := wr.ownsRow W0.heap.size 23 1 V L.length (L.map (Value.int .u32)) ∧ Below W0.heap.size W0 wr

theorem Out32.below {W0 wr w' : World} {V : Value} {L : List Int} (h : Out32 W0 wr V L) (hb : Below wr.heap.size wr w') : Out32 W0 w' V L := by
  refine ⟨⟨h.1.1, ?_⟩, h.2.trans (hb.mono h.2.size)⟩
  rcases h.1.2 with h' | ⟨g, cap, cur, e, h1, h2, h3⟩
  · exact .inl h'
  · exact .inr ⟨g, cap, cur, e, h1, (hb.block g (Array.getElem?_eq_some_iff.1 h2).1).trans h2, h3⟩

theorem Out32.row {W0 wr : World} {V : Value} {L : List Int} (h : Out32 W0 wr V L) (hL : ∀ x ∈ L, 0 ≤ x ∧ x ≤ 4294967295) : ∃ a c, V = .slice a L.length c ∧ Row32 wr a L.length L := by
  rcases h.1.2 with ⟨rfl, h0⟩ | ⟨g, cap, cur, rfl, _⟩
  · have : L = [] := List.eq_nil_of_length_eq_zero h0
    subst this
    exact ⟨none, 0, rfl, Row32.nil _ _⟩
  · exact ⟨_, cap, rfl, Row32.of_own h.1 hL⟩

theorem Row32.cells {w : World} {ad : Addr} {n : Nat} {zs : List Int} (h : Row32 w (some ad) n zs) : ∀ j u, (zs.map (Value.int .u32))[j]? = some u → w.cell? (ad.add j) = some u := by
  intro j u hu
  rw [List.getElem?_map] at hu
  rcases Nat.lt_or_ge j zs.length with hl | hl
  · have hn := h.1
    obtain ⟨b, off, e, _, hc⟩ := h.2.2 (by omega)
    injection e with e
    subst e
    rw [Addr.add_lit, hc j (by omega)]
    rw [List.getElem?_eq_getElem hl] at hu ⊢
    simpa using hu
  · rw [List.getElem?_eq_none hl] at hu
    cases hu

/-- Bytes are appended. -/
theorem out_append32 {ops : Array Oper} {rest : List Oper} {o : Oper} {a : Act} {Q : Exit → Act → World → Prop} {W0 w : World} {V : Value} {L zs : List Int} {A : Option Addr} {m c : Nat} (hgd : o.guard = none) (s x : Operand)
    (hop : o.op = .call { callee := .builtin .append, args := #[s, x], argTypes := #[65, 65] }) (hs : a.eval s = V) (hout : Out32 W0 w V L) (hx : a.eval x = .slice A m c) (hr : Row32 w A m zs) (hnil : A = none → c = 0) (hl : L.length + m ≤ 1000000)
    (h : ∀ V' w', Out32 W0 w' V' (L ++ zs) → wpList Tryd.prog ops Q rest (a.put o.dst V') w') : wpList Tryd.prog ops Q (o :: rest) a w := by
  obtain ⟨i0, hi5, hz0, hz1, hz2⟩ := info_parts Tryd.info32
  cases A with
  | none =>
    obtain rfl := hnil rfl
    have hm : m = 0 := by
      rcases Nat.eq_zero_or_pos m with h0 | h0
      · exact h0
      · obtain ⟨_, _, e, _⟩ := hr.2.2 h0
        cases e
    subst hm
    obtain rfl : zs = [] := List.eq_nil_of_length_eq_zero hr.1
    refine wpList_append_own_none hgd s x 65 hop W0.heap.size 23 i0 1 Tryd.underlying65 hi5 V L.length _ hs hout.1 hx ?_
    have := h V w (by simpa using hout)
    exact this
  | some ad =>
    refine wpList_append_own _ hgd s x 65 hop W0.heap.size 23 i0 (.int .u32 0) 1 4 Tryd.underlying65 hi5 hz0 hz1 hz2 rfl (by decide) V L.length (L.map (Value.int .u32)) hs hout.1 ad m c (zs.map (Value.int .u32)) hx (by rw [List.length_map, hr.1, Nat.mul_one]) hr.cells ?_ (by unfold maxLen; omega) (by omega) hout.2.size ?_
    · intro u hu
      obtain ⟨_, _, rfl⟩ := List.mem_map.1 hu
      rfl
    · intro V' w' hown hg _
      refine h V' w' ⟨?_, hout.2.grown hg hout.2.size (fun k hk => (hout.1.lt k hk).1)⟩
      rw [List.length_append, hr.1, List.map_append]
      exact hown

theorem Out32.alloc {W0 wr : World} {V : Value} {L : List Int} (h : Out32 W0 wr V L) (o : Obj) : Out32 W0 (wr.alloc o) V L := h.below ((Below.refl _ _).alloc (Nat.le_refl _) o)

theorem Out32.nilc {W0 wr : World} {a : Option Addr} {n c : Nat} {L : List Int} (h : Out32 W0 wr (.slice a n c) L) : a = none → c = 0 := by
  intro e
  subst e
  rcases h.1.2 with ⟨e, _⟩ | ⟨g, cap, cur, e, _⟩
  · injection e
  · cases e

/-- A new slice of one byte. -/
theorem out_one32 (w : World) (z : Int) : Out32 w (w.alloc (.cells #[.int .u32 z] 23)) (.slice (some ⟨w.heap.size, 0, none⟩) 1 1) [z] :=
  ⟨⟨rfl, .inr ⟨w.heap.size, 1, #[.int .u32 z], rfl, Nat.le_refl _, heap_alloc_new w _, Nat.le_refl _, by unfold maxLen; omega, rfl, rfl⟩⟩, (Below.refl _ _).alloc (Nat.le_refl _) _⟩
/-- A row of the call's own: where it lies. -/
theorem Out32.form {W0 wr : World} {V : Value} {L : List Int} (h : Out32 W0 wr V L) (h0 : 0 < L.length) : ∃ g cap, V = .slice (some ⟨g, 0, none⟩) L.length cap ∧ W0.heap.size ≤ g := by
  rcases h.1.2 with ⟨_, e⟩ | ⟨g, cap, cur, e, hb, _⟩
  · omega
  · exact ⟨g, cap, e, hb⟩
theorem own_cap32 {w : World} {base n cap m : Nat} {a : Option Addr} {vs : List Value} (h : w.ownsRow base 23 1 (.slice a n cap) m vs) : n ≤ cap := by
  rcases h.2 with ⟨e, _⟩ | ⟨g, cap', cur, e, h1, h2, h3⟩
  · injection e with _ e1 e2
    omega
  · injection e with e0 e1 e2
    omega
theorem Out32.wider {w W0 wr : World} {V : Value} {L : List Int} (h : Out32 W0 wr V L) (hb : Below w.heap.size w W0) : Out32 w wr V L := by
  refine ⟨⟨h.1.1, ?_⟩, Below.step hb h.2⟩
  rcases h.1.2 with h' | ⟨g, cap, cur, e, h1, h2⟩
  · exact .inl h'
  · exact .inr ⟨g, cap, cur, e, Nat.le_trans hb.size h1, h2⟩
theorem row32_const (w : World) (zs : List Int) (hz : ∀ x ∈ zs, 0 ≤ x ∧ x ≤ 4294967295) : Row32 (w.alloc (.cells (zs.map (Value.int .u32)).toArray 23)) (some ⟨w.heap.size, 0, none⟩) zs.length zs := by
  refine ⟨rfl, hz, fun _ => ⟨w.heap.size, 0, rfl, by simp, fun i hi => ?_⟩⟩
  rw [Nat.zero_add, (Blk.new w 23 (zs.map (Value.int .u32)).toArray).cell i]
  simp [hi]

end Go.Proofs.YtgmefdmeeihgoaaDoor

namespace Go.Proofs.YtgmefdmeeihgoaaDoor
open Go.RowKit
set_option linter.unusedVariables false

def OidOk (zs : List Int) : Prop := 2 ≤ zs.length ∧ zs.length ≤ 20 ∧ zs[(0 : Nat)]?.getD 0 ≤ 2 ∧ zs[(1 : Nat)]?.getD 0 ≤ 4294967200 ∧ (zs[(1 : Nat)]?.getD 0 ≤ 39 ∨ zs[(0 : Nat)]?.getD 0 = 2)
instance (zs : List Int) : Decidable (OidOk zs) := by unfold OidOk; infer_instance
def sevens (zs : List Int) : List Int := zs.flatMap fun z => sevenN z.toNat
theorem sevens_drop {zs : List Int} {k : Nat} (h : k < zs.length) : sevens (zs.drop k) = sevenN (zs[k]?.getD 0).toNat ++ sevens (zs.drop (k + 1)) := by
  unfold sevens
  rw [List.drop_eq_getElem_cons h, List.flatMap_cons, List.getElem?_eq_getElem h]
  rfl
def oidB (zs : List Int) : List Int := sevenN (40 * zs[(0 : Nat)]?.getD 0 + zs[(1 : Nat)]?.getD 0).toNat ++ sevens (zs.drop 2)
/-- Oid's answer. -/
def oidZ (zs : List Int) : T × Int := if OidOk zs then (.node 6 (oidB zs) [], 0) else (zeroT, 1)

end Go.Proofs.YtgmefdmeeihgoaaDoor

namespace Go.Proofs.YtgmefdmeeihgoaaDoor
open Go.RowKit
set_option linter.unusedVariables false

theorem numZ_nought (l : List Int) : numZ 0 (0 :: l) = numZ 0 l := by
  rw [numZ, if_neg (by unfold B56; omega)]
  rfl
theorem numZ_bare (l : List Int) : numZ 0 (bareZ l) = numZ 0 l := by
  induction l with
  | nil => rfl
  | cons z r ih =>
    rw [bareZ]
    split
    · rename_i h
      rw [ih, h, numZ_nought]
    · rfl
theorem numZ_big (l : List Int) : numZ 0 (bigZ l) = numZ 0 l := by
  unfold bigZ
  split
  · rw [numZ_nought, numZ_bare]
  · rw [numZ_bare]

end Go.Proofs.YtgmefdmeeihgoaaDoor

namespace Go.Proofs.YtgmefdmeeihgoaaDoor
open Go.RowKit
set_option linter.unusedVariables false

/-! ### Numbers -/
theorem bare_nought (l : List Int) : bareZ (0 :: l) = bareZ l := by rw [bareZ, if_pos rfl]
theorem bare_bare (l : List Int) : bareZ (bareZ l) = bareZ l := by
  induction l with
  | nil => rfl
  | cons z r ih =>
    rw [bareZ]
    split
    · exact ih
    · rename_i h
      rw [bareZ, if_neg h]
theorem bare_big (l : List Int) : bareZ (bigZ l) = bareZ l := by
  unfold bigZ
  split
  · rw [bare_nought, bare_bare]
  · rw [bare_bare]
theorem big_bare (l : List Int) : bigZ (bareZ l) = bigZ l := by
  unfold bigZ
  rw [bare_bare]
theorem bare_end (l : List Int) : bareZ l = l.drop (l.length - (bareZ l).length) := by
  induction l with
  | nil => rfl
  | cons z r ih =>
    have hle := bare_le r
    rw [bareZ]
    split
    · rw [List.length_cons, show r.length + 1 - (bareZ r).length = (r.length - (bareZ r).length) + 1 by omega, List.drop_succ_cons]
      exact ih
    · simp
/-- Great of Big. -/
theorem great_big (l : List Int) : greatZ (bigT l) = (bareZ l, 0) := by
  have e : bareZ (bigT l).body = bareZ l := bare_big l
  unfold greatZ
  rw [e, show bigT (bareZ l) = bigT l by unfold bigT; rw [big_bare], if_pos (same_refl _)]

/-! ### Bits -/
theorem fit_whole (l : List Int) : FitBits l (8 * (l.length : Int)) := by unfold FitBits; omega
theorem left_whole (l : List Int) : leftZ l (8 * (l.length : Int)) = 0 := by unfold leftZ; omega
theorem bits_whole (l : List Int) : bitsZ l (8 * (l.length : Int)) = (.node 3 (0 :: l) [], 0) := by
  unfold bitsZ
  rw [if_pos (fit_whole l), left_whole, if_neg (fun h => by omega)]
theorem of_bits (l : List Int) : ofZ (.node 3 (0 :: l) []) = (l, 8 * (l.length : Int), 0) := by
  have e : ((T.node 3 (0 :: l) []).body) = 0 :: l := rfl
  unfold ofZ
  rw [e, if_neg (by simp)]
  simp only [List.drop_succ_cons, List.drop_zero, List.getElem?_cons_zero, Option.getD_some, Int.sub_zero]
  rw [bits_whole, if_pos ⟨rfl, same_refl _⟩]


end Go.Proofs.YtgmefdmeeihgoaaDoor

namespace Go.Proofs.YtgmefdmeeihgoaaDoor
open Go.RowKit

/- The plain weight, and the depth. -/
mutual
def wt : T → Int
  | .node _ b ks => 1 + b.length + wtAll ks
def wtAll : List T → Int
  | [] => 0
  | x :: r => wt x + wtAll r
end
mutual
def dp : T → Int
  | .node _ _ ks => 1 + dpAll ks
def dpAll : List T → Int
  | [] => 0
  | x :: r => if dpAll r < dp x then dp x else dpAll r
end
theorem wt_eq (t : T) : wt t = 1 + t.body.length + wtAll t.kids := by
  obtain ⟨tag, b, ks⟩ := t
  rw [wt]
  rfl
theorem dp_eq (t : T) : dp t = 1 + dpAll t.kids := by
  obtain ⟨tag, b, ks⟩ := t
  rw [dp]
  rfl
theorem wtAll_ge (ks : List T) (h : ∀ k ∈ ks, 1 ≤ wt k) : 0 ≤ wtAll ks := by
  induction ks with
  | nil => rw [wtAll]; omega
  | cons k r ih =>
    rw [wtAll]
    have := h k (by simp)
    have := ih (fun x hx => h x (by simp [hx]))
    omega
theorem wt_ge (t : T) : 1 ≤ wt t := by
  refine T.each (p := fun t => 1 ≤ wt t) ?_ t
  intro t ih
  have := wtAll_ge t.kids ih
  rw [wt_eq]
  omega
theorem wtAll_pos (ks : List T) : 0 ≤ wtAll ks := wtAll_ge ks (fun k _ => wt_ge k)
theorem wtAll_mem {ks : List T} {k : T} (h : k ∈ ks) : wt k ≤ wtAll ks := by
  induction ks with
  | nil => simp at h
  | cons x r ih =>
    rw [wtAll]
    rcases List.mem_cons.1 h with rfl | h
    · have := wtAll_pos r
      omega
    · have := ih h
      have := wt_ge x
      omega
theorem dpAll_ge (ks : List T) : 0 ≤ dpAll ks := by
  induction ks with
  | nil => rw [dpAll]; omega
  | cons x r ih =>
    rw [dpAll]
    split <;> omega
theorem dpAll_mem {ks : List T} {k : T} (h : k ∈ ks) : dp k ≤ dpAll ks := by
  induction ks with
  | nil => simp at h
  | cons x r ih =>
    rw [dpAll]
    rcases List.mem_cons.1 h with rfl | h
    · split <;> omega
    · have := ih h
      split <;> omega
theorem dpAll_le {ks : List T} {b : Int} (h0 : 0 ≤ b) (h : ∀ k ∈ ks, dp k ≤ b) : dpAll ks ≤ b := by
  induction ks with
  | nil => rw [dpAll]; exact h0
  | cons x r ih =>
    rw [dpAll]
    have := h x (by simp)
    have := ih (fun y hy => h y (by simp [hy]))
    split <;> omega
theorem dp_ge (t : T) : 1 ≤ dp t := by
  rw [dp_eq]
  have := dpAll_ge t.kids
  omega

theorem weighAll_le (ks : List T) (deep : Nat) : ∀ a : Int, a ≤ weighAll ks deep a := by
  induction ks with
  | nil => intro a; rw [weighAll]; omega
  | cons k r ih =>
    intro a
    rw [weighAll]
    split
    · have := ih (a + weighT k (deep + 1))
      have := weigh_ge k (deep + 1)
      omega
    · omega
/-- What is light has its plain weight, and is not too deep. -/
theorem light_plain (t : T) : ∀ deep : Nat, weighT t deep < 30000 → weighT t deep = wt t ∧ dp t + deep ≤ 61 := by
  refine T.each (p := fun t => ∀ deep : Nat, weighT t deep < 30000 → weighT t deep = wt t ∧ dp t + deep ≤ 61) ?_ t
  intro t ih deep h
  rw [weighT_eq] at h ⊢
  have h60 : ¬ 60 < deep := by
    intro h'
    rw [if_pos h'] at h
    omega
  rw [if_neg h60] at h ⊢
  have hle := weighAll_le t.kids deep (1 + (if (t.body.length : Int) < 30000 then (t.body.length : Int) else 30000))
  have hb : (t.body.length : Int) < 30000 := by
    rcases (show (t.body.length : Int) < 30000 ∨ 30000 ≤ (t.body.length : Int) by omega) with h' | h'
    · exact h'
    · rw [if_neg (by omega)] at hle h
      omega
  rw [if_pos hb] at h ⊢
  have key : ∀ ks : List T, (∀ k ∈ ks, ∀ deep : Nat, weighT k deep < 30000 → weighT k deep = wt k ∧ dp k + deep ≤ 61) → ∀ a : Int, 0 ≤ a → weighAll ks deep a < 30000 → weighAll ks deep a = a + wtAll ks ∧ dpAll ks + 1 + deep ≤ 61 := by
    intro ks
    induction ks with
    | nil => intro _ a _ h; rw [weighAll, wtAll, dpAll]; omega
    | cons k r ihr =>
      intro hk a ha h
      rw [weighAll] at h ⊢
      by_cases h3 : a < 30000
      · rw [if_pos h3] at h ⊢
        have h4 := weighAll_le r deep (a + weighT k (deep + 1))
        have h5 := weigh_ge k (deep + 1)
        obtain ⟨e1, e2⟩ := hk k (by simp) (deep + 1) (by omega)
        obtain ⟨e3, e4⟩ := ihr (fun x hx => hk x (by simp [hx])) _ (by omega) h
        rw [wtAll, dpAll]
        refine ⟨by omega, ?_⟩
        split <;> omega
      · rw [if_neg h3] at h
        omega
  obtain ⟨e1, e2⟩ := key t.kids ih _ (by omega) h
  rw [wt_eq, dp_eq]
  omega
theorem light_wt {t : T} (h : lightT t = true) : wt t < 30000 ∧ dp t ≤ 61 := by
  unfold lightT at h
  have h' := of_decide_eq_true h
  have := light_plain t 0 h'
  omega

/- Tags. -/
def withinB (z : Int) : Bool := (z.tdiv 32).tmod 2 == 1
def tagB (z : Int) : Bool := decide (0 ≤ z) && (decide (z < 256) && (z % 32 != 31))

/- Lengths. -/
def lenLen (c : Int) : Int := if c < 128 then 1 else if c < 256 then 2 else 3
def lenB (c : Int) : List Int := if c < 128 then [c] else if c < 256 then [129, c] else [130, c / 256 % 256, c % 256]
theorem lenB_length (c : Int) : ((lenB c).length : Int) = lenLen c := by
  unfold lenB lenLen
  split
  · rfl
  · split <;> rfl
theorem lenB_byte {c : Int} (h0 : 0 ≤ c) : ∀ x ∈ lenB c, 0 ≤ x ∧ x ≤ 255 := by
  intro x hx
  unfold lenB at hx
  split at hx
  · have : x = c := by simpa using hx
    omega
  · split at hx
    · have : x = 129 ∨ x = c := by simpa using hx
      omega
    · have : x = 130 ∨ x = c / 256 % 256 ∨ x = c % 256 := by simpa using hx
      omega
theorem lenLen_range (c : Int) : 1 ≤ lenLen c ∧ lenLen c ≤ 3 := by
  unfold lenLen
  split
  · omega
  · split <;> omega

/- Sizes. -/
mutual
def bytesT : T → Int
  | .node t b ks => (if withinB t then bytesAll ks else b.length) + 1 + lenLen (if withinB t then bytesAll ks else b.length)
def bytesAll : List T → Int
  | [] => 0
  | x :: r => bytesT x + bytesAll r
end
mutual
def manyT : T → Int
  | .node t _ ks => 1 + (if withinB t then manyAll ks else 0)
def manyAll : List T → Int
  | [] => 0
  | x :: r => manyT x + manyAll r
end
mutual
def deepT : T → Int
  | .node t _ ks => (if withinB t then deepAll ks else 0) + 1
def deepAll : List T → Int
  | [] => 0
  | x :: r => if deepAll r < deepT x then deepT x else deepAll r
end
def inT (t : T) : Int := if withinB t.tag then bytesAll t.kids else t.body.length
theorem bytesT_eq (t : T) : bytesT t = inT t + 1 + lenLen (inT t) := by
  obtain ⟨tag, b, ks⟩ := t
  rw [bytesT]
  rfl
theorem manyT_eq (t : T) : manyT t = 1 + (if withinB t.tag then manyAll t.kids else 0) := by
  obtain ⟨tag, b, ks⟩ := t
  rw [manyT]
  rfl
theorem deepT_eq (t : T) : deepT t = (if withinB t.tag then deepAll t.kids else 0) + 1 := by
  obtain ⟨tag, b, ks⟩ := t
  rw [deepT]
  rfl

/-- Sizes are bounded by the weight. -/
theorem size_le (t : T) : 2 ≤ bytesT t ∧ bytesT t ≤ 5 * wt t ∧ 1 ≤ manyT t ∧ manyT t ≤ wt t ∧ 1 ≤ deepT t ∧ deepT t ≤ wt t := by
  refine T.each (p := fun t => 2 ≤ bytesT t ∧ bytesT t ≤ 5 * wt t ∧ 1 ≤ manyT t ∧ manyT t ≤ wt t ∧ 1 ≤ deepT t ∧ deepT t ≤ wt t) ?_ t
  intro t ih
  have key : ∀ ks : List T, (∀ t ∈ ks, 2 ≤ bytesT t ∧ bytesT t ≤ 5 * wt t ∧ 1 ≤ manyT t ∧ manyT t ≤ wt t ∧ 1 ≤ deepT t ∧ deepT t ≤ wt t) →
      0 ≤ bytesAll ks ∧ bytesAll ks ≤ 5 * wtAll ks ∧ 0 ≤ manyAll ks ∧ manyAll ks ≤ wtAll ks ∧ 0 ≤ deepAll ks ∧ deepAll ks ≤ wtAll ks := by
    intro ks
    induction ks with
    | nil => intro _; simp only [bytesAll, manyAll, deepAll, wtAll]; omega
    | cons k r ihr =>
      intro h
      have h1 := h k (by simp)
      have h2 := ihr (fun x hx => h x (by simp [hx]))
      simp only [bytesAll, manyAll, deepAll, wtAll]
      have h3 := wt_ge k
      refine ⟨by omega, by omega, by omega, by omega, ?_, ?_⟩ <;> split <;> omega
  have h := key t.kids ih
  have hl := lenLen_range (inT t)
  have hi : 0 ≤ inT t ∧ inT t ≤ t.body.length + 5 * wtAll t.kids := by
    unfold inT
    split <;> omega
  have hp := wtAll_pos t.kids
  rw [bytesT_eq, manyT_eq, deepT_eq, wt_eq]
  refine ⟨by omega, by omega, ?_, ?_, ?_, ?_⟩ <;> (try split) <;> omega
theorem bytesAll_range (ks : List T) : 0 ≤ bytesAll ks ∧ bytesAll ks ≤ 5 * wtAll ks ∧ 0 ≤ manyAll ks ∧ manyAll ks ≤ wtAll ks ∧ 0 ≤ deepAll ks ∧ deepAll ks ≤ wtAll ks := by
  induction ks with
  | nil => simp only [bytesAll, manyAll, deepAll, wtAll]; omega
  | cons k r ih =>
    have h1 := size_le k
    simp only [bytesAll, manyAll, deepAll, wtAll]
    refine ⟨by omega, by omega, by omega, by omega, ?_, ?_⟩ <;> split <;> omega
theorem inT_range (t : T) : 0 ≤ inT t ∧ inT t ≤ 5 * wt t := by
  have h := bytesAll_range t.kids
  have := wtAll_pos t.kids
  rw [wt_eq]
  unfold inT
  split <;> omega

end Go.Proofs.YtgmefdmeeihgoaaDoor

namespace Go.Proofs.YtgmefdmeeihgoaaDoor
open Go.RowKit

def GivesLen (z : Int) (w : World) (e : Ending) (w' : World) : Prop :=
  ∃ a c, e = .returned (.slice (some a) (lenB z).length c) ∧ Row w' (some a) (lenB z).length (lenB z) ∧ Below w.heap.size w w'
theorem gives_len {z : Int} {w : World} {zs : List Int} {n : Nat} (hz : lenB z = zs) (h0 : 0 ≤ z) (hn : n = zs.length) : GivesLen z w (.returned (.slice (some ⟨w.heap.size, 0, none⟩) n n)) (w.alloc (.cells (zs.map (Value.int .u8)).toArray 5 (0, 0))) := by
  subst hz
  subst hn
  exact ⟨_, _, rfl, row_const w (lenB z) (0, 0) (lenB_byte h0), (Below.refl _ _).alloc (Nat.le_refl _) _⟩
def GivesSize (t : T) (w : World) (e : Ending) (w' : World) : Prop :=
  e = .returned (.tuple #[.int .i64 (bytesT t), .int .i64 (manyT t), .int .i64 (deepT t)]) ∧ Below w.heap.size w w'
theorem size_kid {ks : List T} {i : Nat} {k : T} (h : ks[i]? = some k) : bytesAll (ks.drop i) = bytesT k + bytesAll (ks.drop (i + 1)) ∧ manyAll (ks.drop i) = manyT k + manyAll (ks.drop (i + 1)) := by
  obtain ⟨hi, rfl⟩ := List.getElem?_eq_some_iff.1 h
  rw [List.drop_eq_getElem_cons hi, bytesAll, manyAll]
  exact ⟨rfl, rfl⟩
theorem deep_kid {ks : List T} {i : Nat} {k : T} (h : ks[i]? = some k) : deepAll (ks.drop i) = if deepAll (ks.drop (i + 1)) < deepT k then deepT k else deepAll (ks.drop (i + 1)) := by
  obtain ⟨hi, rfl⟩ := List.getElem?_eq_some_iff.1 h
  rw [List.drop_eq_getElem_cons hi, deepAll]
theorem size_end {ks : List T} {i : Nat} (h : ks.length ≤ i) : bytesAll (ks.drop i) = 0 ∧ manyAll (ks.drop i) = 0 ∧ deepAll (ks.drop i) = 0 := by
  rw [List.drop_of_length_le h, bytesAll, manyAll, deepAll]
  exact ⟨rfl, rfl, rfl⟩
/-- Where the loop over the elements within one stands. -/
def SizeRel (t : T) (k : Nat) (a b z : Int) : Prop :=
  a + bytesAll (t.kids.drop k) = bytesAll t.kids ∧ b + manyAll (t.kids.drop k) = 1 + manyAll t.kids ∧ 0 ≤ a ∧ 0 ≤ b ∧ 0 ≤ z ∧
  (deepAll (t.kids.drop k) ≤ z → deepAll t.kids = z) ∧ (z ≤ deepAll (t.kids.drop k) → deepAll t.kids = deepAll (t.kids.drop k))
theorem sr_start (t : T) : SizeRel t 0 0 1 0 := by
  have := dpAll_ge t.kids
  have h := bytesAll_range t.kids
  unfold SizeRel
  rw [List.drop_zero]
  omega
theorem drop_range (t : T) (k : Nat) : 0 ≤ bytesAll (t.kids.drop k) ∧ 0 ≤ manyAll (t.kids.drop k) ∧ 0 ≤ deepAll (t.kids.drop k) := by
  have h := bytesAll_range (t.kids.drop k)
  omega
theorem sr_step {t x : T} {k : Nat} {a b z z' : Int} (h : SizeRel t k a b z) (hx : t.kids[k]? = some x) (hz : (z' = z ∧ deepT x ≤ z) ∨ (z' = deepT x ∧ z ≤ deepT x)) : SizeRel t (k + 1) (a + bytesT x) (b + manyT x) z' := by
  obtain ⟨h1, h2, h3, h4, h5, h6, h7⟩ := h
  obtain ⟨e1, e2⟩ := size_kid hx
  have e3 := deep_kid hx
  have hr := drop_range t (k + 1)
  have hx := size_le x
  rw [e1] at h1
  rw [e2] at h2
  rw [e3] at h6 h7
  unfold SizeRel
  refine ⟨by omega, by omega, by omega, by omega, by omega, ?_, ?_⟩
  · intro h
    split at h6
    · split at h7 <;> omega
    · split at h7 <;> omega
  · intro h
    split at h6
    · split at h7 <;> omega
    · split at h7 <;> omega
theorem sr_end {t : T} {k : Nat} {a b z : Int} (h : SizeRel t k a b z) (hk : t.kids.length ≤ k) : a = bytesAll t.kids ∧ b = 1 + manyAll t.kids ∧ z = deepAll t.kids := by
  obtain ⟨h1, h2, h3, h4, h5, h6, h7⟩ := h
  obtain ⟨e1, e2, e3⟩ := size_end hk
  omega
theorem sr_bound {t : T} {k : Nat} {a b z : Int} (h : SizeRel t k a b z) (hw : wt t < 40000) : a ≤ 200000 ∧ b ≤ 40000 ∧ z ≤ 40000 ∧ 0 ≤ a ∧ 0 ≤ b ∧ 0 ≤ z := by
  obtain ⟨h1, h2, h3, h4, h5, h6, h7⟩ := h
  have hr := drop_range t k
  have h8 := bytesAll_range t.kids
  have := wt_eq t
  omega
theorem wt_kid {t x : T} (hx : x ∈ t.kids) : wt x < wt t := by
  have := wtAll_mem hx
  have := wt_eq t
  omega

theorem lenB_three (c : Int) : (lenB c).length ≤ 3 := by
  have := lenB_length c
  have := lenLen_range c
  omega
theorem gives_size {t : T} {w w' : World} {a b z : Int} (h1 : a = bytesT t) (h2 : b = manyT t) (h3 : z = deepT t) (hb : Below w.heap.size w w') : GivesSize t w (.returned (.tuple #[.int .i64 a, .int .i64 b, .int .i64 z])) w' := by
  subst h1
  subst h2
  subst h3
  exact ⟨rfl, hb⟩

end Go.Proofs.YtgmefdmeeihgoaaDoor

namespace Go.Proofs.YtgmefdmeeihgoaaDoor
open Go.RowKit

mutual
def rightT : T → Bool
  | .node t b ks => tagB t && (!(withinB t && decide (0 < b.length)) && (!(!withinB t && decide (0 < ks.length)) && rightAll ks))
def rightAll : List T → Bool
  | [] => true
  | x :: r => rightT x && rightAll r
end
theorem rightT_eq (t : T) : rightT t = (tagB t.tag && (!(withinB t.tag && decide (0 < t.body.length)) && (!(!withinB t.tag && decide (0 < t.kids.length)) && rightAll t.kids))) := by
  obtain ⟨tag, b, ks⟩ := t
  rw [rightT]
  rfl
theorem right_kid {ks : List T} {i : Nat} {k : T} (h : ks[i]? = some k) : rightAll (ks.drop i) = (rightT k && rightAll (ks.drop (i + 1))) := by
  obtain ⟨hi, rfl⟩ := List.getElem?_eq_some_iff.1 h
  rw [List.drop_eq_getElem_cons hi, rightAll]
theorem right_end {ks : List T} {i : Nat} (h : ks.length ≤ i) : rightAll (ks.drop i) = true := by
  rw [List.drop_of_length_le h, rightAll]
theorem right_all {ks : List T} (h : rightAll ks = true) : ∀ k ∈ ks, rightT k = true := by
  induction ks with
  | nil => intro k hk; simp at hk
  | cons x r ih =>
    rw [rightAll, Bool.and_eq_true] at h
    intro k hk
    rcases List.mem_cons.1 hk with rfl | hk
    · exact h.1
    · exact ih h.2 k hk
theorem right_parts {t : T} (h : rightT t = true) : tagB t.tag = true ∧ (withinB t.tag = true → t.body = []) ∧ (withinB t.tag = false → t.kids = []) ∧ ∀ k ∈ t.kids, rightT k = true := by
  rw [rightT_eq] at h
  simp only [Bool.and_eq_true, Bool.not_eq_true', Bool.and_eq_false_iff] at h
  obtain ⟨h1, h2, h3, h4⟩ := h
  refine ⟨h1, fun e => ?_, fun e => ?_, right_all h4⟩
  · rcases h2 with h2 | h2
    · rw [e] at h2
      cases h2
    · simpa using h2
  · rcases h3 with h3 | h3
    · rw [e] at h3
      cases h3
    · simpa using h3

end Go.Proofs.YtgmefdmeeihgoaaDoor

namespace Go.Proofs.YtgmefdmeeihgoaaDoor
open Go.RowKit

/-- An order of our choosing: 'take': an operation that yields in every world that goes on from the one at hand; 'sole': one that comes up alone; 'fork': two that come up, either first. -/
inductive Plan where
  | fin
  | take (i : Nat) (p : Plan)
  | sole (i : Nat) (p : Plan)
  | fork (i : Nat) (p : Plan) (j : Nat) (q : Plan)
def Plan.len : Plan → Nat
  | .fin => 0
  | .take _ p => p.len + 1
  | .sole _ p => p.len + 1
  | .fork _ p _ _ => p.len + 1

section
variable {P : Program} {ops : Array Oper} {Q : Exit → Act → World → Prop} {R : World → World → Prop}

/-- One that makes memory. -/
def wpSole (P : Program) (l : List Oper) (R : World → World → Prop) (Q : Exit → Act → World → Prop) (i : Nat) (K : Act → World → Prop) (a : Act) (w : World) : Prop :=
  ∃ o, l[i]? = some o ∧ ((Region.wanted o (yielded l.toArray a.tmps) = false ∧ K (a.put o.dst undef) w) ∨
    (Region.wanted o (yielded l.toArray a.tmps) = true ∧ o.wp P a w (fun a' w' => R w w' ∧ K a' w') Q))
def wpPlan (P : Program) (l : List Oper) (R : World → World → Prop) (Q : Exit → Act → World → Prop) : Plan → Act → World → Prop
  | .fin, a, w => Q .normal a w
  | .take i p, a, w => ∃ o, l[i]? = some o ∧
    ((Region.wanted o (yielded l.toArray a.tmps) = false ∧ wpPlan P l R Q p (a.put o.dst undef) w) ∨
     (Region.wanted o (yielded l.toArray a.tmps) = true ∧ ∃ v, (∀ W, R w W → (execOp a.eval o).run P W = .ok (.value v) W) ∧ wpPlan P l R Q p (a.put o.dst v) w))
  | .sole i p, a, w => wpSole P l R Q i (wpPlan P l R Q p) a w
  | .fork i p j q, a, w => wpSole P l R Q i (wpPlan P l R Q p) a w ∧ wpSole P l R Q j (wpPlan P l R Q q) a w
def planB (l : List Oper) : Plan → Array Bool → Bool
  | .fin, listed => (Region.ready .any l.toArray listed).isEmpty
  | .take i p, listed => ((Region.ready .any l.toArray listed).contains i && Region.free .any l.toArray listed i) && planB l p (listed.setIfInBounds i true)
  | .sole i p, listed => (Region.ready .any l.toArray listed == [i]) && planB l p (listed.setIfInBounds i true)
  | .fork i p j q, listed => ((Region.ready .any l.toArray listed == [i, j]) && (p.len == q.len)) && (planB l p (listed.setIfInBounds i true) && planB l q (listed.setIfInBounds j true))

theorem held_sole {l : List Oper} (hrefl : ∀ w, R w w) (htrans : ∀ a b c, R a b → R b c → R a c) {i fuel : Nat} {listed : Array Bool} {K : Act → World → Prop} {a : Act} {w : World}
    (hK : ∀ a' w', K a' w' → wpAnyH P .any l.toArray Q (R w') fuel (listed.setIfInBounds i true) a' w') (h : wpSole P l R Q i K a w) :
    wpOp P l.toArray Q i (fun a' w' => R w w' ∧ wpAnyH P .any l.toArray Q (R w) fuel (listed.setIfInBounds i true) a' w') a w := by
  obtain ⟨o, ho, h⟩ := h
  have hi : l.toArray[i]? = some o := by simpa using ho
  unfold wpOp
  simp only [hi]
  rcases h with ⟨hw, h⟩ | ⟨hw, h⟩
  · rw [if_neg (by rw [hw]; simp)]
    exact ⟨hrefl w, hK _ _ h⟩
  · rw [if_pos hw]
    exact .inl (Oper.wp_mono (fun a' w' h' => ⟨h'.1, held_mono (fun W hW => htrans _ _ _ h'.1 hW) _ _ _ _ (hK _ _ h'.2)⟩) h)

theorem held_of_plan {l : List Oper} (hrefl : ∀ w, R w w) (htrans : ∀ a b c, R a b → R b c → R a c) (hs : Region.noSelect l.toArray = true) (hQ : ∀ d v c a w, Q (.panic c) (a.put d v) w → Q (.panic c) a w) :
    ∀ (p : Plan) (listed : Array Bool) (a : Act) (w : World), planB l p listed = true → wpPlan P l R Q p a w → wpAnyH P .any l.toArray Q (R w) p.len listed a w
  | .fin, listed, a, w, hB, h => by
    have : Region.ready .any l.toArray listed = [] := by simpa [planB] using hB
    exact wpAnyH_done this h _
  | .take i p, listed, a, w, hB, h => by
    obtain ⟨o, ho, h⟩ := h
    have hi : l.toArray[i]? = some o := by simpa using ho
    rw [planB, Bool.and_eq_true, Bool.and_eq_true] at hB
    obtain ⟨⟨h1, h2⟩, hB'⟩ := hB
    rcases h with ⟨hw, h⟩ | ⟨hw, v, hv, h⟩
    · exact wpAnyH_take hi hs h2 h1 (hQ _ _) (.inr ⟨hw, rfl⟩) (hrefl w) (held_of_plan hrefl htrans hs hQ p _ _ _ hB' h)
    · exact wpAnyH_take hi hs h2 h1 (hQ _ _) (.inl ⟨hw, hv⟩) (hrefl w) (held_of_plan hrefl htrans hs hQ p _ _ _ hB' h)
  | .sole i p, listed, a, w, hB, h => by
    rw [planB, Bool.and_eq_true] at hB
    have hr : Region.ready .any l.toArray listed = [i] := by simpa using hB.1
    refine wpAnyH_all hr (by simp) (fun j hj => ?_)
    obtain rfl : j = i := by simpa using hj
    exact held_sole hrefl htrans (fun a' w' h' => held_of_plan hrefl htrans hs hQ p _ a' w' hB.2 h') h
  | .fork i p j q, listed, a, w, hB, h => by
    rw [planB, Bool.and_eq_true, Bool.and_eq_true, Bool.and_eq_true] at hB
    obtain ⟨⟨h1, h2⟩, h3, h4⟩ := hB
    have hr : Region.ready .any l.toArray listed = [i, j] := by simpa using h1
    have hl : p.len = q.len := by simpa using h2
    refine wpAnyH_all hr (by simp) (fun x hx => ?_)
    have hx' : x = i ∨ x = j := by simpa using hx
    rcases hx' with rfl | rfl
    · exact held_sole hrefl htrans (fun a' w' h' => held_of_plan hrefl htrans hs hQ p _ a' w' h3 h') h.1
    · have := held_sole (fuel := q.len) (listed := listed) hrefl htrans (fun a' w' h' => held_of_plan hrefl htrans hs hQ q _ a' w' h4 h') h.2
      rw [← hl] at this
      exact this

/-- THE LAW: a region that asks the tape for its order. -/
theorem wp_region_plan {id : Nat} {a : Act} {w : World} {l : List Oper} (R : World → World → Prop) (hrefl : ∀ w, R w w) (htrans : ∀ a b c, R a b → R b c → R a c) (plan : Plan) (hm : P.follows .mixedOrders = true) (hs : Region.noSelect l.toArray = true) (hn : plan.len = l.length)
    (hB : planB l plan (Array.replicate l.length false) = true) (hQ : ∀ d v c a w, Q (.panic c) (a.put (some d) v) w → Q (.panic c) a w) (h : wpPlan P l R Q plan a w.drew) : (Code.region id l.toArray true).wp P Q a w := by
  refine wp_region_held (S := R w.drew) hm ?_
  have hQ' : ∀ d v c a w, Q (.panic c) (a.put d v) w → Q (.panic c) a w := fun d => by
    cases d with
    | none => exact fun _ _ _ _ h => h
    | some d => exact hQ d
  have := held_of_plan hrefl htrans hs hQ' plan (Array.replicate l.length false) a w.drew hB h
  rw [hn] at this
  simpa using this

section
variable {l : List Oper} {p q : Plan} {a : Act} {w : World} {i j : Nat} {o : Oper} {K : Act → World → Prop}
theorem plan_skip (ho : l[i]? = some o) (hw : Region.wanted o (yielded l.toArray a.tmps) = false) (h : wpPlan P l R Q p (a.put o.dst undef) w) : wpPlan P l R Q (.take i p) a w := ⟨o, ho, .inl ⟨hw, h⟩⟩
theorem plan_take (v : Value) (ho : l[i]? = some o) (hw : Region.wanted o (yielded l.toArray a.tmps) = true) (hv : ∀ W, R w W → (execOp a.eval o).run P W = .ok (.value v) W) (h : wpPlan P l R Q p (a.put o.dst v) w) : wpPlan P l R Q (.take i p) a w := ⟨o, ho, .inr ⟨hw, v, hv, h⟩⟩
theorem sole_take (ho : l[i]? = some o) (hw : Region.wanted o (yielded l.toArray a.tmps) = true) (h : ∀ K' : Act → World → Prop, (∀ a' w', R w w' → K a' w' → K' a' w') → o.wp P a w K' Q) : wpSole P l R Q i K a w :=
  ⟨o, ho, .inr ⟨hw, h _ (fun _ _ he h => ⟨he, h⟩)⟩⟩
theorem plan_sole (h : wpSole P l R Q i (wpPlan P l R Q p) a w) : wpPlan P l R Q (.sole i p) a w := h
theorem plan_fork (h1 : wpSole P l R Q i (wpPlan P l R Q p) a w) (h2 : wpSole P l R Q j (wpPlan P l R Q q) a w) : wpPlan P l R Q (.fork i p j q) a w := ⟨h1, h2⟩
theorem plan_end (h : Q .normal a w) : wpPlan P l R Q .fin a w := h
end
end
end Go.Proofs.YtgmefdmeeihgoaaDoor
