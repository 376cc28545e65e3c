/-
  How texts of digits are ordered, for stage 3 (clock): plain facts on lists.
-/
import Derived.Test.YtebefamnmmbdnaaBack
import Derived.Test.YtebefamnmmbdnaaSame
namespace Go.Proofs.Ytebefamnmmbdnaa
open Go.RowKit

/-- The order of lists of numbers, one by one. -/
def ltZ : List Int → List Int → Bool
  | [], [] => false
  | [], _ :: _ => true
  | _ :: _, [] => false
  | x :: xs, y :: ys => if x < y then true else if y < x then false else ltZ xs ys

theorem ltZ_same : ∀ xs : List Int, ltZ xs xs = false
  | [] => rfl
  | x :: xs => by rw [ltZ, if_neg (by omega), if_neg (by omega)]; exact ltZ_same xs

/-- Pieces of as many numbers: the first that parts decides. -/
theorem ltZ_app : ∀ (xs ys us vs : List Int), xs.length = ys.length → ltZ (xs ++ us) (ys ++ vs) = if xs = ys then ltZ us vs else ltZ xs ys
  | [], [], us, vs, _ => by simp
  | [], _ :: _, _, _, h => by simp at h
  | _ :: _, [], _, _, h => by simp at h
  | x :: xs, y :: ys, us, vs, h => by
    have ih := ltZ_app xs ys us vs (by simpa using h)
    simp only [List.cons_append, ltZ, List.cons.injEq]
    by_cases h1 : x < y
    · rw [if_pos h1, if_pos h1, if_neg (by omega)]
    · rw [if_neg h1, if_neg h1]
      by_cases h2 : y < x
      · rw [if_pos h2, if_pos h2, if_neg (by omega)]
      · rw [if_neg h2, if_neg h2, ih]
        have : x = y := by omega
        simp [this]

theorem digs_lt : ∀ (k : Nat) (n m : Int), 0 ≤ n → 0 ≤ m → n < 10 ^ k → m < 10 ^ k → ltZ (digs k n) (digs k m) = decide (n < m)
  | 0, n, m, h0, h1, h2, h3 => by
    simp at h2 h3
    have e1 : n = 0 := by omega
    have e2 : m = 0 := by omega
    subst e1 e2
    rfl
  | k + 1, n, m, h0, h1, h2, h3 => by
    have q : ∀ x : Int, x < 10 ^ (k + 1) → x / 10 < 10 ^ k := fun x hx => by
      rw [Int.pow_succ] at hx
      generalize (10 : Int) ^ k = p at *
      omega
    have ih := digs_lt k (n / 10) (m / 10) (by omega) (by omega) (q n h2) (q m h3)
    rw [digs, digs, ltZ_app _ _ _ _ (by rw [digs_length, digs_length])]
    by_cases e : n / 10 = m / 10
    · rw [if_pos (by rw [e])]
      simp only [ltZ]
      by_cases c : 48 + n % 10 < 48 + m % 10
      · rw [if_pos c]; symm; simpa using (by omega : n < m)
      · rw [if_neg c]
        have : ¬ n < m := by omega
        split <;> simpa using this
    · have hne : digs k (n / 10) ≠ digs k (m / 10) := by
        intro he
        have a := nz_digs k (n / 10) (by omega) (q n h2)
        have b := nz_digs k (m / 10) (by omega) (q m h3)
        rw [he, b] at a
        injection a with a
        exact e a.symm
      rw [if_neg hne, ih]
      by_cases c : n / 10 < m / 10
      · have : n < m := by omega
        simp [c, this]
      · have : ¬ n < m := by omega
        simp [c, this]
theorem digs_eq {k : Nat} {n m : Int} (h0 : 0 ≤ n) (h1 : 0 ≤ m) (h2 : n < 10 ^ k) (h3 : m < 10 ^ k) : (digs k n = digs k m) ↔ n = m := by
  constructor
  · intro he
    have a := nz_digs k n h0 h2
    have b := nz_digs k m h1 h3
    rw [he, b] at a
    injection a with a
    exact a.symm
  · rintro rfl; rfl

theorem part_lt {k : Nat} {n m : Int} {us vs : List Int} (h0 : 0 ≤ n) (h1 : 0 ≤ m) (h2 : n < 10 ^ k) (h3 : m < 10 ^ k) : ltZ (digs k n ++ us) (digs k m ++ vs) = if n = m then ltZ us vs else decide (n < m) := by
  rw [ltZ_app _ _ _ _ (by rw [digs_length, digs_length]), digs_lt k n m h0 h1 h2 h3]
  by_cases e : n = m
  · rw [if_pos e, if_pos (by rw [e])]
  · rw [if_neg e, if_neg (fun he => e ((digs_eq h0 h1 h2 h3).1 he))]

/-- Later dates have greater texts. -/
theorem long_lt {a b : D6} (ha : a.ok) (hb : b.ok) : ltZ a.long b.long = true ↔ a.lt b := by
  obtain ⟨h1, h2, h3, h4, h5, h6, h7, h8, h9, h10, h11, h12⟩ := ha
  obtain ⟨g1, g2, g3, g4, g5, g6, g7, g8, g9, g10, g11, g12⟩ := hb
  have la := ml_rng a.y a.m
  have lb := ml_rng b.y b.m
  have e : ∀ c : D6, c.long = digs 4 c.y ++ (digs 2 c.m ++ (digs 2 c.d ++ (digs 2 c.h ++ (digs 2 c.i ++ (digs 2 c.s ++ [90]))))) := fun c => by simp [D6.long, D6.txt]
  have p4 : (10 : Int) ^ 4 = 10000 := rfl
  have p2 : (10 : Int) ^ 2 = 100 := rfl
  rw [e a, e b, part_lt (by omega) (by omega) (by omega) (by omega), part_lt (by omega) (by omega) (by omega) (by omega), part_lt (by omega) (by omega) (by omega) (by omega), part_lt (by omega) (by omega) (by omega) (by omega), part_lt (by omega) (by omega) (by omega) (by omega), part_lt (by omega) (by omega) (by omega) (by omega), ltZ_same]
  unfold D6.lt
  by_cases c1 : a.y = b.y
  · rw [if_pos c1]
    by_cases c2 : a.m = b.m
    · rw [if_pos c2]
      by_cases c3 : a.d = b.d
      · rw [if_pos c3]
        by_cases c4 : a.h = b.h
        · rw [if_pos c4]
          by_cases c5 : a.i = b.i
          · rw [if_pos c5]
            by_cases c6 : a.s = b.s
            · rw [if_pos c6]; simp; omega
            · rw [if_neg c6]; simp; omega
          · rw [if_neg c5]; simp; omega
        · rw [if_neg c4]; simp; omega
      · rw [if_neg c3]; simp; omega
    · rw [if_neg c2]; simp; omega
  · rw [if_neg c1]; simp; omega

theorem str_list (xs : List Int) : (strOfNums xs).toList = xs.map fun n => UInt8.ofNat n.toNat := by
  rw [ByteArray.toList_eq, strOfNums_data]
theorem less_list : ∀ (xs ys : List Int), (∀ x ∈ xs, 0 ≤ x ∧ x ≤ 255) → (∀ y ∈ ys, 0 ≤ y ∧ y ≤ 255) → Op.bytesLess (xs.map fun n => UInt8.ofNat n.toNat) (ys.map fun n => UInt8.ofNat n.toNat) = ltZ xs ys
  | [], [], _, _ => rfl
  | [], _ :: _, _, _ => rfl
  | _ :: _, [], _, _ => rfl
  | x :: xs, y :: ys, hx, hy => by
    have ih := less_list xs ys (fun z hz => hx z (by simp [hz])) (fun z hz => hy z (by simp [hz]))
    have bx := hx x (by simp)
    have b_y := hy y (by simp)
    have ex : (UInt8.ofNat x.toNat).toNat = x.toNat := by rw [UInt8.toNat_ofNat', Nat.mod_eq_of_lt (by omega)]
    have ey : (UInt8.ofNat y.toNat).toNat = y.toNat := by rw [UInt8.toNat_ofNat', Nat.mod_eq_of_lt (by omega)]
    simp only [List.map_cons, Op.bytesLess, ltZ, ih]
    by_cases h1 : x < y
    · rw [if_pos h1]
      have : UInt8.ofNat x.toNat < UInt8.ofNat y.toNat := by rw [UInt8.lt_iff_toNat_lt, ex, ey]; omega
      simp [this]
    · rw [if_neg h1]
      have n1 : ¬ UInt8.ofNat x.toNat < UInt8.ofNat y.toNat := by rw [UInt8.lt_iff_toNat_lt, ex, ey]; omega
      by_cases h2 : y < x
      · rw [if_pos h2]
        have n2 : ¬ UInt8.ofNat x.toNat = UInt8.ofNat y.toNat := by
          intro e
          have := congrArg UInt8.toNat e
          rw [ex, ey] at this
          omega
        simp [n1, n2]
      · rw [if_neg h2]
        have e : x = y := by omega
        subst e
        simp [n1]
theorem less_str {xs ys : List Int} (hx : ∀ x ∈ xs, 0 ≤ x ∧ x ≤ 255) (hy : ∀ y ∈ ys, 0 ≤ y ∧ y ≤ 255) : Op.bytesLess (strOfNums xs).toList (strOfNums ys).toList = ltZ xs ys := by
  rw [str_list, str_list, less_list xs ys hx hy]

/-- All that the law asks of two dates. -/
def Ans (a b : D6) (L E : Bool) : Prop := decide (secs a < secs b) = L ∧ Op.bytesLess (strOfNums a.long).toList (strOfNums b.long).toList = L ∧ (secs a == secs b) = E ∧ same6 a.y a.m a.d a.h a.i a.s b.y b.m b.d b.h b.i b.s = E
theorem ans_lt {a b : D6} (ha : a.ok) (hb : b.ok) (h : a.lt b) : Ans a b true false := by
  have k := secs_lt ha hb h
  refine ⟨by simpa using k, by rw [less_str (D6.long_byte a) (D6.long_byte b)]; exact (long_lt ha hb).2 h, by simp; omega, ?_⟩
  cases hs : same6 a.y a.m a.d a.h a.i a.s b.y b.m b.d b.h b.i b.s with
  | false => rfl
  | true => exact absurd (same6_iff.1 hs) (lt_not h).2
theorem ans_gt {a b : D6} (ha : a.ok) (hb : b.ok) (h : b.lt a) : Ans a b false false := by
  have k := secs_lt hb ha h
  refine ⟨by simp; omega, ?_, by simp; omega, ?_⟩
  · rw [less_str (D6.long_byte a) (D6.long_byte b)]
    cases hs : ltZ a.long b.long with
    | false => rfl
    | true => exact absurd ((long_lt ha hb).1 hs) (lt_not h).1
  · cases hs : same6 a.y a.m a.d a.h a.i a.s b.y b.m b.d b.h b.i b.s with
    | false => rfl
    | true => exact absurd (same6_iff.1 hs).symm (lt_not h).2
theorem ans_eq (a : D6) : Ans a a false true :=
  ⟨by simp, by rw [less_str (D6.long_byte a) (D6.long_byte a)]; exact ltZ_same _, by simp, same6_refl ..⟩

end Go.Proofs.Ytebefamnmmbdnaa
