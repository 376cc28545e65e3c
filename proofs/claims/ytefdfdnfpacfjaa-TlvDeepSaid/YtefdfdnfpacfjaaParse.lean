/-
  What the bytes of an element are read as, on lists, for stage 4 (tlv). Nothing of the program is named here.
-/
import Derived.Test.YtefdfdnfpacfjaaLay
namespace Go.Proofs.Ytefdfdnfpacfjaa
open Go.RowKit

def at0 (l : List Int) (i : Nat) : Int := l[i]?.getD 0

/-- How many bytes the tag and the length take, and the length; or why not. -/
def headL (l : List Int) : Except Int (Nat × Nat) :=
  if l.length < 1 then .error 3
  else if at0 l 0 % 32 = 31 then .error 2
  else if l.length < 2 then .error 3
  else if at0 l 1 < 128 then .ok (2, (at0 l 1).toNat)
  else if at0 l 1 = 129 then (if l.length < 3 then .error 3 else if at0 l 2 < 128 then .error 2 else .ok (3, (at0 l 2).toNat))
  else if at0 l 1 = 130 then (if l.length < 4 then .error 3 else if at0 l 2 = 0 then .error 2 else .ok (4, (at0 l 2 * 256 + at0 l 3).toNat))
  else .error 2

/-- One element, and what stands behind it. -/
def elemW (rec : Nat → List Int → Except Int (List T)) (deep : Nat) (l : List Int) : Except Int (T × List Int) :=
  match headL l with
  | .error e => .error e
  | .ok (h, n) =>
    if (l.drop h).length < n then .error 3
    else if 32 ≤ deep then .error 4
    else if withinB (at0 l 0) then
      match rec (deep + 1) ((l.drop h).take n) with
      | .error e => .error (if e = 3 then 2 else e)
      | .ok ks => .ok (.node (at0 l 0) [] ks, (l.drop h).drop n)
    else .ok (.node (at0 l 0) ((l.drop h).take n) [], (l.drop h).drop n)
def kidsZ : Nat → Nat → List Int → Except Int (List T)
  | 0, _, _ => .ok []
  | f + 1, deep, l =>
    if l = [] then .ok []
    else match elemW (kidsZ f) deep l with
      | .error e => .error e
      | .ok (t, r) => match kidsZ f deep r with
        | .error e => .error e
        | .ok ks => .ok (t :: ks)

theorem head_ok {l : List Int} {h n : Nat} (e : headL l = .ok (h, n)) : 2 ≤ h ∧ h ≤ 4 ∧ h ≤ l.length := by
  unfold headL at e
  split at e
  · cases e
  split at e
  · cases e
  split at e
  · cases e
  split at e
  · cases e; omega
  split at e
  · split at e
    · cases e
    split at e
    · cases e
    · cases e; omega
  split at e
  · split at e
    · cases e
    split at e
    · cases e
    · cases e; omega
  · cases e
theorem elemW_rest {rec : Nat → List Int → Except Int (List T)} {deep : Nat} {l r : List Int} {t : T} (e : elemW rec deep l = .ok (t, r)) : r.length < l.length := by
  unfold elemW at e
  split at e
  · cases e
  rename_i h n hh
  have := head_ok hh
  split at e
  · cases e
  split at e
  · cases e
  split at e
  · split at e
    · cases e
    · cases e
      rw [List.length_drop, List.length_drop]
      omega
  · cases e
    rw [List.length_drop, List.length_drop]
    omega
theorem elemW_congr {f g : Nat → List Int → Except Int (List T)} {deep : Nat} {l : List Int} (h : ∀ d (x : List Int), x.length < l.length → f d x = g d x) : elemW f deep l = elemW g deep l := by
  unfold elemW
  split
  · rfl
  rename_i hh n e
  have hk := head_ok e
  have hx : (List.take n (List.drop hh l)).length < l.length := by
    rw [List.length_take, List.length_drop]
    omega
  rw [h (deep + 1) _ hx]
/-- More fuel does not matter. -/
theorem kids_fuel : ∀ (f : Nat) (deep : Nat) (l : List Int), l.length < f → kidsZ f deep l = kidsZ (l.length + 1) deep l := by
  intro f
  induction f using Nat.strongRecOn with
  | _ f ih =>
    intro deep l hl
    match f, ih, hl with
    | 0, _, hl => omega
    | f + 1, ih, hl =>
      by_cases h0 : l = []
      · subst h0
        rfl
      have hpos : 0 < l.length := List.length_pos_iff.2 h0
      have key : ∀ d (x : List Int), x.length < l.length → kidsZ f d x = kidsZ l.length d x := by
        intro d x hx
        rw [ih f (by omega) d x (by omega)]
        rcases Nat.lt_or_ge l.length (f + 1) with h | h
        · exact (ih l.length h d x hx).symm
        · omega
      rw [kidsZ, kidsZ, if_neg h0, if_neg h0, elemW_congr key]
      split
      · rfl
      rename_i t r e
      rw [key deep r (elemW_rest e)]

/-- The elements of bytes; one element of bytes. -/
def kidsC (deep : Nat) (l : List Int) : Except Int (List T) := kidsZ (l.length + 1) deep l
def elemC (deep : Nat) (l : List Int) : Except Int (T × List Int) := elemW kidsC deep l
theorem kidsC_nil (deep : Nat) : kidsC deep [] = .ok [] := rfl
theorem kidsC_eq {deep : Nat} {l : List Int} (h0 : l ≠ []) : kidsC deep l = match elemC deep l with
      | .error e => .error e
      | .ok (t, r) => match kidsC deep r with
        | .error e => .error e
        | .ok ks => .ok (t :: ks) := by
  have hpos : 0 < l.length := List.length_pos_iff.2 h0
  have key : ∀ d (x : List Int), x.length < l.length → kidsZ l.length d x = kidsC d x := fun d x hx => kids_fuel l.length d x hx
  unfold elemC
  conv => lhs; unfold kidsC
  rw [kidsZ, if_neg h0, elemW_congr key]
  split
  · rfl
  rename_i t r e
  rw [key deep r (elemW_rest e)]
theorem elemC_rest {deep : Nat} {l r : List Int} {t : T} (e : elemC deep l = .ok (t, r)) : r.length < l.length := elemW_rest e

/-- Read's answer. -/
def readZ (l : List Int) : Except Int T :=
  if 20000 < l.length then .error 5
  else match elemC 0 l with
    | .error e => .error e
    | .ok (t, r) => if r = [] then .ok t else .error 2

theorem at0_drop (l : List Int) (k i : Nat) : at0 (l.drop k) i = at0 l (k + i) := by
  unfold at0
  rw [List.getElem?_drop]
theorem at0_take (l : List Int) (k i : Nat) (h : i < k) : at0 (l.take k) i = at0 l i := by
  unfold at0
  rw [List.getElem?_take, if_pos h]
theorem at0_byte {l : List Int} (h : ∀ z ∈ l, 0 ≤ z ∧ z ≤ 255) (i : Nat) : 0 ≤ at0 l i ∧ at0 l i ≤ 255 := by
  unfold at0
  rcases Nat.lt_or_ge i l.length with hi | hi
  · rw [List.getElem?_eq_getElem hi]
    exact h _ (List.getElem_mem hi)
  · rw [List.getElem?_eq_none hi]
    simp

end Go.Proofs.Ytefdfdnfpacfjaa
