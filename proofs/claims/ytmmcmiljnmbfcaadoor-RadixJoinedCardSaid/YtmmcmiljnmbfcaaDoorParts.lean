/-
  Plain facts on a text's lines (bytes cut at each 10, a 13 taken off each end), for stage 2 (radix). Nothing of the program is named here.
-/
import Derived.Test.YtmmcmiljnmbfcaaDoorMath
import Derived.Lib.SplitLaws
import Derived.Lib.IndexBytes
import Derived.Lib.Strings
namespace Go.Proofs.YtmmcmiljnmbfcaaDoor
open Go.RowKit

/-- Bytes, cut at each 10; what stands ahead of them belongs to the first part. -/
def cutG : List UInt8 → List UInt8 → List (List UInt8)
  | acc, [] => [acc]
  | acc, c :: r => if c = 10 then acc :: cutG [] r else cutG (acc ++ [c]) r
def trimR (p : List UInt8) : List UInt8 := Lib.trimSuffix p [13]
/-- What is left of the parts when an empty last one is left out. -/
def lopE (ps : List (List UInt8)) : List (List UInt8) := if ps.getLast? = some [] then ps.dropLast else ps
def linesL (l : List UInt8) : List (List UInt8) := lopE ((cutG [] l).map trimR)
def piece (l : List UInt8) (a k : Nat) : List UInt8 := (l.drop a).take (k - a)

theorem piece_snoc {l : List UInt8} {a k : Nat} (ha : a ≤ k) (h : k < l.length) : piece l a (k + 1) = piece l a k ++ [l[k]] := by
  unfold piece
  rw [show k + 1 - a = (k - a) + 1 by omega, List.take_succ_eq_append_getElem (by rw [List.length_drop]; omega), List.getElem_drop]
  congr 2
  congr 1
  omega
theorem piece_length {l : List UInt8} {a k : Nat} (ha : a ≤ k) (h : k ≤ l.length) : (piece l a k).length = k - a := by
  unfold piece
  rw [List.length_take, List.length_drop]
  omega
theorem piece_self (l : List UInt8) (k : Nat) : piece l k k = [] := by
  unfold piece
  rw [Nat.sub_self, List.take_zero]

theorem cut_step {l : List UInt8} {done : List (List UInt8)} {a k : Nat} (h : cutG [] l = done ++ cutG (piece l a k) (l.drop k)) (ha : a ≤ k) (hk : k < l.length) (hc : l[k] ≠ 10) :
    cutG [] l = done ++ cutG (piece l a (k + 1)) (l.drop (k + 1)) := by
  rw [h, List.drop_eq_getElem_cons hk, cutG, if_neg hc, piece_snoc ha hk]
theorem cut_ten {l : List UInt8} {done : List (List UInt8)} {a k : Nat} (h : cutG [] l = done ++ cutG (piece l a k) (l.drop k)) (hk : k < l.length) (hc : l[k] = 10) :
    cutG [] l = (done ++ [piece l a k]) ++ cutG (piece l (k + 1) (k + 1)) (l.drop (k + 1)) := by
  rw [h, List.drop_eq_getElem_cons hk, cutG, if_pos hc, piece_self]
  simp
theorem cut_end {l : List UInt8} {done : List (List UInt8)} {a k : Nat} (h : cutG [] l = done ++ cutG (piece l a k) (l.drop k)) (hk : l.length ≤ k) :
    cutG [] l = done ++ [piece l a k] := by
  rw [h, List.drop_of_length_le hk, cutG]
theorem cut_start (l : List UInt8) : cutG [] l = [] ++ cutG (piece l 0 0) (l.drop 0) := by
  rw [piece_self]
  rfl

/- A last 13. -/
theorem trimR_snoc (p : List UInt8) (c : UInt8) : trimR (p ++ [c]) = if c = 13 then p else p ++ [c] := by
  unfold trimR Lib.trimSuffix Lib.hasSuffix
  have e : ([13] : List UInt8).isSuffixOf (p ++ [c]) = decide (c = 13) := by
    rw [Bool.eq_iff_iff, List.isSuffixOf_iff_suffix, decide_eq_true_iff]
    constructor
    · rintro ⟨t, ht⟩
      have := List.append_inj_right' ht rfl
      simpa using this.symm
    · rintro rfl
      exact ⟨p, rfl⟩
  rw [e]
  by_cases h : c = 13
  · simp [h]
  · simp [h]
theorem trimR_nil : trimR [] = [] := rfl
theorem trimR_yes {l : List UInt8} {a k : Nat} (ha : a < k) (hk : k ≤ l.length) (hc : l[k - 1]? = some 13) : trimR (piece l a k) = piece l a (k - 1) := by
  obtain ⟨j, rfl⟩ : ∃ j, k = j + 1 := ⟨k - 1, by omega⟩
  rw [Nat.add_sub_cancel] at hc ⊢
  rw [List.getElem?_eq_getElem (by omega)] at hc
  rw [piece_snoc (by omega) (by omega), trimR_snoc, if_pos (Option.some.inj hc)]
theorem trimR_no {l : List UInt8} {a k : Nat} (ha : a ≤ k) (hk : k ≤ l.length) (hc : a < k → l[k - 1]? ≠ some 13) : trimR (piece l a k) = piece l a k := by
  rcases Nat.lt_or_ge a k with h | h
  · obtain ⟨j, rfl⟩ : ∃ j, k = j + 1 := ⟨k - 1, by omega⟩
    have hc := hc h
    rw [Nat.add_sub_cancel, List.getElem?_eq_getElem (by omega)] at hc
    rw [piece_snoc (by omega) (by omega), trimR_snoc, if_neg (fun e => hc (by rw [e]))]
  · obtain rfl : a = k := by omega
    rw [piece_self]
    rfl

theorem lopE_snoc (ps : List (List UInt8)) (p : List UInt8) : lopE (ps ++ [p]) = if p = [] then ps else ps ++ [p] := by
  unfold lopE
  by_cases h : p = []
  · subst h
    simp
  · simp [h]
theorem lines_end {l : List UInt8} {done : List (List UInt8)} {p : List UInt8} (h : cutG [] l = done ++ [p]) : linesL l = if trimR p = [] then done.map trimR else done.map trimR ++ [trimR p] := by
  unfold linesL
  rw [h, List.map_append, List.map_singleton, lopE_snoc]

/- The library's Split at one byte 10. -/
theorem cutG_none {acc l : List UInt8} (h : ∀ k : Nat, l[k]? ≠ some 10) : cutG acc l = [acc ++ l] := by
  induction l generalizing acc with
  | nil => simp [cutG]
  | cons c r ih =>
    have hc : c ≠ 10 := fun e => h 0 (by simp [e])
    rw [cutG, if_neg hc, ih (fun k => by simpa using h (k + 1))]
    simp
theorem cutG_first {acc l : List UInt8} {o : Nat} (h : l[o]? = some 10) (hb : ∀ k, k < o → l[k]? ≠ some 10) : cutG acc l = (acc ++ l.take o) :: cutG [] (l.drop (o + 1)) := by
  induction l generalizing acc o with
  | nil => simp at h
  | cons c r ih =>
    cases o with
    | zero =>
      obtain rfl : c = 10 := by simpa using h
      simp [cutG]
    | succ o =>
      have hc : c ≠ 10 := fun e => hb 0 (by omega) (by simp [e])
      rw [cutG, if_neg hc, ih (o := o) (by simpa using h) (fun k hk => by simpa using hb (k + 1) (by omega))]
      simp

theorem splitK_cut : ∀ (k : Nat) (l : List UInt8), Lib.count l [10] = k → Lib.splitK [10] 0 k l = cutG [] l
  | k, l, hk => by
    have hix := Lib.index_one l 10
    by_cases h : Lib.index l [10] = -1
    · have hn := Lib.indexByte_none (hix.symm.trans h)
      rw [cutG_none hn]
      have : Lib.count l [10] = 0 := Lib.count_miss h
      obtain rfl : k = 0 := by omega
      rfl
    · have hge := Lib.index_ge l [10]
      obtain ⟨i, hi⟩ : ∃ i : Nat, Lib.index l [10] = i := ⟨(Lib.index l [10]).toNat, by omega⟩
      have hs := Lib.indexByte_some (hix.symm.trans hi)
      have hc := Lib.count_hit (s := l) (sub := [10]) (by simp) hi
      simp only [List.length_singleton] at hc
      rw [hk] at hc
      rw [cutG_first hs.1 hs.2]
      cases k with
      | zero => omega
      | succ k =>
        have ih := splitK_cut k (l.drop (i + 1)) (by omega)
        rw [Lib.splitK, if_neg (by rw [hi]; intro e; have := beq_iff_eq.1 e; omega), hi]
        simp only [Int.toNat_natCast, List.length_singleton, Nat.add_zero, List.nil_append, ih]
theorem split_cut (s : ByteArray) : (Lib.splitB ⟨#[10]⟩ 0 (Lib.countB s ⟨#[10]⟩) s).map (·.data.toList) = cutG [] s.data.toList := by
  rw [Lib.splitB_data]
  exact splitK_cut _ _ rfl

/- Lines that are put together, each with an end. -/
def eol (long : Bool) : List UInt8 := if long then [13, 10] else [10]
def joinL (long : Bool) (ls : List (List UInt8)) : List UInt8 := (ls.map fun p => p ++ eol long).flatten
theorem joinL_snoc (long : Bool) (ls : List (List UInt8)) (p : List UInt8) : joinL long (ls ++ [p]) = joinL long ls ++ p ++ eol long := by
  unfold joinL
  simp
theorem cutG_app {acc p r : List UInt8} (h : ∀ x ∈ p, x ≠ 10) : cutG acc (p ++ 10 :: r) = (acc ++ p) :: cutG [] r := by
  induction p generalizing acc with
  | nil => simp [cutG]
  | cons c p ih =>
    rw [List.cons_append, cutG, if_neg (h c (by simp)), ih (fun x hx => h x (by simp [hx]))]
    simp
theorem cut_join (long : Bool) : ∀ (ls : List (List UInt8)), (∀ p ∈ ls, ∀ x ∈ p, x ≠ 10 ∧ x ≠ 13) → (cutG [] (joinL long ls)).map trimR = ls ++ [[]]
  | [], _ => rfl
  | p :: ls, h => by
    have hp := h p (by simp)
    have ih := cut_join long ls (fun q hq => h q (by simp [hq]))
    have e : joinL long (p :: ls) = p ++ eol long ++ joinL long ls := by
      unfold joinL
      simp
    have t : trimR p = p := by
      rcases List.eq_nil_or_concat p with rfl | ⟨q, c, rfl⟩
      · rfl
      · rw [List.concat_eq_append] at hp ⊢
        rw [trimR_snoc, if_neg (hp c (by simp)).2]
    rw [e]
    cases long
    · rw [show p ++ eol false ++ joinL false ls = p ++ 10 :: joinL false ls by simp [eol], cutG_app (fun x hx => (hp x hx).1), List.map_cons, ih, List.nil_append, t]
      rfl
    · rw [show p ++ eol true ++ joinL true ls = (p ++ [13]) ++ 10 :: joinL true ls by simp [eol], cutG_app (fun x hx => by
        rcases List.mem_append.1 hx with hx | hx
        · exact (hp x hx).1
        · obtain rfl : x = 13 := by simpa using hx
          decide), List.map_cons, ih, List.nil_append, trimR_snoc, if_pos rfl]
      rfl
theorem lines_join (long : Bool) (ls : List (List UInt8)) (h : ∀ p ∈ ls, ∀ x ∈ p, x ≠ 10 ∧ x ≠ 13) : linesL (joinL long ls) = ls := by
  unfold linesL
  rw [cut_join long ls h, lopE_snoc, if_pos rfl]
theorem joinL_length (long : Bool) (ls : List (List UInt8)) (h : ∀ p ∈ ls, p.length ≤ 100) : (joinL long ls).length ≤ 102 * ls.length := by
  induction ls with
  | nil => simp [joinL]
  | cons p ls ih =>
    have := ih (fun q hq => h q (by simp [hq]))
    have hp := h p (by simp)
    have he : (eol long).length ≤ 2 := by cases long <;> simp [eol]
    have e : joinL long (p :: ls) = p ++ eol long ++ joinL long ls := by
      unfold joinL
      simp
    rw [e]
    simp only [List.length_append, List.length_cons]
    omega

end Go.Proofs.YtmmcmiljnmbfcaaDoor
