/-
  Plain facts on texts as numbers, and what radix.withoutPadding answers, for stage 2 (radix).
-/
import Derived.Test.YtmmcmiljnmbfcaaDoorEnc
import Derived.Lib.MinMax
namespace Go.Proofs.YtmmcmiljnmbfcaaDoor
open Go.RowKit

/-- The numbers of a text's letters. -/
def numsOf (s : ByteArray) : List Int := s.data.toList.map fun c => (c.toNat : Int)
theorem numsOf_length (s : ByteArray) : (numsOf s).length = s.size := by
  show (s.data.toList.map _).length = s.data.size
  rw [List.length_map, Array.length_toList]
def nth (s : ByteArray) (k : Nat) : Int := (numsOf s)[k]?.getD 0

theorem nums_byte (s : ByteArray) : ∀ x ∈ numsOf s, 0 ≤ x ∧ x ≤ 255 := by
  intro x hx
  obtain ⟨c, _, rfl⟩ := List.mem_map.1 hx
  have := UInt8.toNat_lt c
  omega
theorem nth_range (s : ByteArray) (k : Nat) : 0 ≤ nth s k ∧ nth s k ≤ 255 := by
  unfold nth
  rcases Nat.lt_or_ge k (numsOf s).length with h | h
  · rw [List.getElem?_eq_getElem h]
    exact nums_byte s _ (List.getElem_mem h)
  · rw [List.getElem?_eq_none h]
    simp

theorem str_at (s : ByteArray) (k : Nat) (h : k < s.size) (i : Int) (hi : i = k) (W : World) : (Instr.index 9 (.string s) (.int .i64 i)).run Tryd.prog W = .ok (.int .u8 (nth s k)) W := by
  subst hi
  rw [run_index_string W 9 s .i64 _ Tryd.underlying9, dif_pos ⟨by omega, by omega⟩]
  have e : (((s[(k : Int).toNat]'(by omega)).toNat : Nat) : Int) = nth s k := by
    simp only [nth, numsOf, Int.toNat_natCast]
    rw [List.getElem?_map, List.getElem?_eq_getElem (show k < s.data.toList.length from by rw [Array.length_toList]; exact h)]
    simp only [Option.map_some, Option.getD_some]
    rfl
  rw [e]

theorem nums_extract (s : ByteArray) (a b : Nat) : numsOf (s.extract a b) = ((numsOf s).drop a).take (b - a) := by
  unfold numsOf
  rw [ByteArray.data_extract, Array.toList_extract, List.extract_eq_take_drop, List.map_take, List.map_drop]

theorem nums_str (xs : List Int) (h : ∀ x ∈ xs, 0 ≤ x ∧ x ≤ 255) : numsOf (strOfNums xs) = xs := by
  unfold numsOf
  rw [strOfNums_data, List.map_map]
  conv => rhs; rw [← List.map_id xs]
  refine List.map_congr_left fun x hx => ?_
  have hb := h x hx
  simp only [Function.comp, id]
  rw [UInt8.toNat_ofNat', Nat.mod_eq_of_lt (by omega)]
  omega

theorem str_nums (s : ByteArray) : strOfNums (numsOf s) = s := by
  unfold strOfNums numsOf
  rw [List.map_map]
  have : s.data.toList.map ((fun n : Int => UInt8.ofNat n.toNat) ∘ fun c : UInt8 => (c.toNat : Int)) = s.data.toList := by
    conv => rhs; rw [← List.map_id s.data.toList]
    refine List.map_congr_left fun c _ => ?_
    simp
  rw [this]

/-- How many signs of padding, at most two, end the letters. -/
def pads (l : List Int) : Nat := if 0 < l.length ∧ l[l.length - 1]?.getD 0 = 61 then (if 1 < l.length ∧ l[l.length - 2]?.getD 0 = 61 then 2 else 1) else 0

theorem pads_le (s : ByteArray) : pads (numsOf s) ≤ 2 ∧ pads (numsOf s) ≤ s.size := by
  unfold pads
  rw [numsOf_length]
  repeat' split
  all_goals omega
theorem pads_is (s : ByteArray) (d : Nat) (h : d < pads (numsOf s)) : nth s (s.size - d - 1) = 61 := by
  unfold pads at h
  rw [numsOf_length] at h
  split at h
  · rename_i h1
    split at h
    · rename_i h2
      rcases (show d = 0 ∨ d = 1 by omega) with rfl | rfl
      · exact h1.2
      · exact h2.2
    · obtain rfl : d = 0 := by omega
      exact h1.2
  · omega
theorem pads_not (s : ByteArray) (h : pads (numsOf s) < 2) (h0 : pads (numsOf s) < s.size) : nth s (s.size - pads (numsOf s) - 1) ≠ 61 := by
  unfold pads at h h0 ⊢
  rw [numsOf_length] at h h0 ⊢
  split at h
  · rename_i h1
    split at h
    · omega
    · rename_i h2
      rw [if_pos h1, if_neg h2] at h0
      rw [if_pos h1, if_neg h2]
      exact fun e => h2 ⟨h0, e⟩
  · rename_i h1
    rw [if_neg h1] at h0
    rw [if_neg h1]
    exact fun e => h1 ⟨h0, e⟩

set_option maxHeartbeats 1000000 in
theorem pad_any (s : ByteArray) (w : World) (hs : s.size ≤ 20000) : Calls Tryd.prog 17 #[.string s] w fun e w' => e = .returned (.string (s.extract 0 (s.size - pads (numsOf s)))) ∧ w' = w := by
  have hp := pads_le s
  have H1 := Lib.hid (pads_is s)
  have H2 := Lib.hid (pads_not s)
  generalize pads (numsOf s) = p at hp H1 H2 ⊢
  go_enter Tryd.func17, Tryd.ntmps17
  go_wp2
  go_loopw [3] (fun i wr => ∃ d : Nat, d ≤ p ∧ i = .int .i64 ((s.size : Int) - (d : Int)) ∧ wr = w) (fun i _ => (intOf i).toNat)
  case atStart => exact ⟨0, by omega, by simp, rfl⟩
  case round =>
    obtain ⟨d, hd, rfl, rfl⟩ := hrel
    by_cases hlt : d < p
    · have hi := str_at s (s.size - d - 1) (by omega) ((s.size : Int) - (d : Int) - 1) (by omega)
      have hv := H1.out d hlt
      rw [hv] at hi
      have t1 : decide ((0 : Int) < (s.size : Int) - (d : Int)) = true := by simp; omega
      have t2 : (s.size : Int) - ((s.size : Int) - (d : Int)) = (d : Int) := by omega
      have t3 : decide ((d : Int) < 2) = true := by simp; omega
      clear hv H1 H2
      go_wp2
      go_roundw
      case rel => exact ⟨d + 1, by omega, by go_num, trivial⟩
      case measure => simp [intOf]; omega
    · obtain rfl : d = p := by omega
      have t2 : (s.size : Int) - ((s.size : Int) - (d : Int)) = (d : Int) := by omega
      by_cases h0 : d < s.size
      · have t1 : decide ((0 : Int) < (s.size : Int) - (d : Int)) = true := by simp; omega
        by_cases h2 : d < 2
        · have t3 : decide ((d : Int) < 2) = true := by simp; omega
          have hi := str_at s (s.size - d - 1) (by omega) ((s.size : Int) - (d : Int) - 1) (by omega)
          have hne := H2.out h2 h0
          generalize nth s (s.size - d - 1) = c at hi hne
          have t4 : (c == 61) = false := by simpa using hne
          clear hne H1 H2
          go_wp2
          go_ret
          exact ⟨rfl, rfl⟩
        · have t3 : decide ((d : Int) < 2) = false := by simp; omega
          clear H1 H2
          go_wp2
          go_ret
          exact ⟨rfl, rfl⟩
      · have t1 : decide ((0 : Int) < (s.size : Int) - (d : Int)) = false := by simp; omega
        clear H1 H2
        go_wp2
        go_ret
        exact ⟨rfl, rfl⟩

end Go.Proofs.YtmmcmiljnmbfcaaDoor
