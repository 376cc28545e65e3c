/-
  What the reference's Decode answers, for stage 2 (radix): the same as Decode.
-/
import Derived.Test.YtmmcmiljnmbfcaaRefEnc
import Derived.Test.YtmmcmiljnmbfcaaCode
import Derived.Deep.QuietTactic
import Derived.BigQuiet
namespace Go.Proofs.Ytmmcmiljnmbfcaa
open Go.RowKit

/-- The bits of four letters, whatever they are. -/
def wN (l : List Int) : Int := wth (l[0]?.getD 0) * 262144 + wth (l[1]?.getD 0) * 4096 + wth (l[2]?.getD 0) * 64 + wth (l[3]?.getD 0)
theorem wN_range (l : List Int) : 0 ≤ wN l ∧ wN l < 16777216 := by
  have h0 := wth_range (l[0]?.getD 0)
  have h1 := wth_range (l[1]?.getD 0)
  have h2 := wth_range (l[2]?.getD 0)
  have h3 := wth_range (l[3]?.getD 0)
  unfold wN
  omega
def wB (l : List Int) : List Int := [wN l / 65536 % 256, wN l / 256 % 256, wN l % 256]
/-- Four letters by four. -/
def wD : List Int → List Int
  | a :: b :: c :: d :: r => wB [a, b, c, d] ++ wD r
  | _ => []

theorem wD_append : ∀ (k : Nat) (xs ys : List Int), xs.length = 4 * k → wD (xs ++ ys) = wD xs ++ wD ys
  | 0, xs, ys, h => by
    have : xs = [] := List.eq_nil_of_length_eq_zero (by omega)
    subst this
    rfl
  | k + 1, xs, ys, h => by
    match xs, h with
    | a :: b :: c :: d :: r, h =>
      have := wD_append k r ys (by simp at h; omega)
      simp [wD, this]
    | [], h => simp at h
    | [_], h => simp at h; omega
    | [_, _], h => simp at h; omega
    | [_, _, _], h => simp at h; omega

theorem wD_take {l : List Int} {k : Nat} (h : 4 * k + 3 < l.length) : wD (l.take (4 * (k + 1))) = wD (l.take (4 * k)) ++ wB [l[4 * k]?.getD 0, l[4 * k + 1]?.getD 0, l[4 * k + 2]?.getD 0, l[4 * k + 3]?.getD 0] := by
  have e : l.take (4 * (k + 1)) = l.take (4 * k) ++ [l[4 * k]?.getD 0, l[4 * k + 1]?.getD 0, l[4 * k + 2]?.getD 0, l[4 * k + 3]?.getD 0] := by
    rw [show 4 * (k + 1) = 4 * k + 4 by omega, List.take_add]
    congr 1
    rw [List.drop_eq_getElem_cons (by omega), List.drop_eq_getElem_cons (by omega), List.drop_eq_getElem_cons (by omega), List.drop_eq_getElem_cons (by omega), List.getElem?_eq_getElem (by omega), List.getElem?_eq_getElem (by omega), List.getElem?_eq_getElem (by omega), List.getElem?_eq_getElem (by omega)]
    rfl
  rw [e, wD_append k _ _ (by rw [List.length_take]; omega)]
  simp [wD]

theorem wD_length : ∀ (k : Nat) (l : List Int), l.length ≤ k → (wD l).length = l.length / 4 * 3
  | 0, [], _ => rfl
  | 0, _ :: _, h => by simp at h
  | _ + 1, [], _ => rfl
  | _ + 1, [_], _ => by simp [wD]
  | _ + 1, [_, _], _ => by simp [wD]
  | _ + 1, [_, _, _], _ => by simp [wD]
  | k + 1, a :: b :: c :: d :: r, h => by
    have := wD_length k r (by simp at h; omega)
    simp [wD, wB, this]
    omega
theorem wD_byte : ∀ (k : Nat) (l : List Int), l.length ≤ k → ∀ x ∈ wD l, 0 ≤ x ∧ x ≤ 255
  | 0, [], _ => by simp [wD]
  | 0, _ :: _, h => by simp at h
  | _ + 1, [], _ => by simp [wD]
  | _ + 1, [_], _ => by simp [wD]
  | _ + 1, [_, _], _ => by simp [wD]
  | _ + 1, [_, _, _], _ => by simp [wD]
  | k + 1, a :: b :: c :: d :: r, h => by
    intro x hx
    rw [wD, List.mem_append] at hx
    rcases hx with hx | hx
    · simp [wB] at hx
      rcases hx with rfl | rfl | rfl <;> omega
    · exact wD_byte k r (by simp at h; omega) x hx

theorem wth_sg {v : Int} (h0 : 0 ≤ v) (h1 : v < 64) : wth (sgZ v) = v := by
  unfold wth
  rw [vlZ_sgZ h0 h1, if_pos h1]
theorem wth_pad : wth 61 = 0 := by decide

/-- Bytes, read four letters by four, with zeros where signs of padding stand. -/
theorem wD_encZ : ∀ (k : Nat) (zs : List Int), zs.length ≤ k → (∀ x ∈ zs, 0 ≤ x ∧ x ≤ 255) → wD (encZ zs) = zs ++ List.replicate (padN zs.length) 0
  | _, [], _, _ => rfl
  | _, [x], _, h => by
    have hx := h x (by simp)
    rw [encZ, enc3_1, wD, wB, wN]
    simp only [List.getElem?_cons_zero, List.getElem?_cons_succ, Option.getD_some, wth_pad]
    rw [wth_sg (by omega) (by omega), wth_sg (by omega) (by omega)]
    simp [padN, wD]
    omega
  | _, [x, y], _, h => by
    have hx := h x (by simp)
    have hy := h y (by simp)
    rw [encZ, enc3_2, wD, wB, wN]
    simp only [List.getElem?_cons_zero, List.getElem?_cons_succ, Option.getD_some, wth_pad]
    rw [wth_sg (by omega) (by omega), wth_sg (by omega) (by omega), wth_sg (by omega) (by omega)]
    simp [padN, wD]
    omega
  | 0, x :: y :: z :: r, h, _ => by simp at h
  | k + 1, x :: y :: z :: r, h, hb => by
    have hx := hb x (by simp)
    have hy := hb y (by simp)
    have hz := hb z (by simp)
    have ih := wD_encZ k r (by simp at h; omega) (fun x hx => hb x (by simp [hx]))
    have e : padN (x :: y :: z :: r).length = padN r.length := by unfold padN; simp only [List.length_cons]; omega
    rw [encZ, enc3_3, e]
    simp only [List.cons_append, List.nil_append]
    rw [wD, ih, wB, wN]
    simp only [List.getElem?_cons_zero, List.getElem?_cons_succ, Option.getD_some]
    rw [wth_sg (by omega) (by omega), wth_sg (by omega) (by omega), wth_sg (by omega) (by omega), wth_sg (by omega) (by omega)]
    simp
    omega

/-- How many bytes the reference takes off. -/
def cnt (l : List Int) : Nat := if l.length < 4 then 0 else pads l
def refOut (l : List Int) : List Int := (wD l).take ((wD l).length - cnt l)

theorem refOut_byte (l : List Int) : ∀ x ∈ refOut l, 0 ≤ x ∧ x ≤ 255 := fun x hx => wD_byte _ l (Nat.le_refl _) x (List.mem_of_mem_take hx)

theorem refOut_encZ {zs : List Int} (h : ∀ x ∈ zs, 0 ≤ x ∧ x ≤ 255) : refOut (encZ zs) = zs := by
  have hl := encZ_length _ zs (Nat.le_refl _)
  have hp : pads (encZ zs) = padN zs.length := by rw [encZ_encB _ zs (Nat.le_refl _)]; exact pads_of _ (by unfold padN; omega) (encB_letter _ zs (Nat.le_refl _))
  have hc : cnt (encZ zs) = padN zs.length := by
    unfold cnt
    rw [hp]
    split
    · have : zs.length = 0 := by omega
      rw [this]; rfl
    · rfl
  rw [refOut, hc, wD_encZ _ zs (Nat.le_refl _) h, List.length_append, List.length_replicate, Nat.add_sub_cancel, List.take_left]

/-- The reference answers as Decode does. -/
theorem ref_some {l zs : List Int} (hb : ∀ x ∈ l, 0 ≤ x ∧ x ≤ 255) (h : decS l = some zs) : refOut l = zs ∧ encZ (refOut l) = l := by
  obtain ⟨e1, e2⟩ := encZ_decS hb h
  have : refOut l = zs := by rw [← e1]; exact refOut_encZ e2
  exact ⟨this, by rw [this, e1]⟩
theorem ref_none {l : List Int} (h : decS l = none) : encZ (refOut l) ≠ l := by
  intro e
  have := decS_encZ (refOut_byte l)
  rw [e, h] at this
  cases this

end Go.Proofs.Ytmmcmiljnmbfcaa
