/-
  What octet.Unhex answers, for stage 1 (octet): the bytes of a text of digits, in new memory, and it changes nothing that was there.
-/
import Derived.Test.YtgldoppcillljaaDoorHexC
import Derived.Test.YtgldoppcillljaaDoorBytesC
namespace Go.Proofs.YtgldoppcillljaaDoor
open Go.RowKit

/-- A digit's worth; nothing where it is none. -/
def dv (c : Int) : Option Int := if 48 ≤ c ∧ c ≤ 57 then some (c - 48) else if 97 ≤ c ∧ c ≤ 102 then some (c - 87) else none

theorem dv_range {c v : Int} (h : dv c = some v) : 0 ≤ v ∧ v ≤ 15 := by
  unfold dv at h
  split at h
  · injection h with h; omega
  · split at h
    · injection h with h; omega
    · cases h

/-- Unhex' answer on the numbers of a text's letters. -/
def unhexZ : List Int → Option (List Int)
  | [] => some []
  | [_] => none
  | c :: d :: r => match dv c, dv d with
    | some x, some y => (unhexZ r).map (fun zs => (x * 16 + y) :: zs)
    | _, _ => none

def unhexR (l : List Int) : List Int × Bool := match unhexZ l with
  | some zs => (zs, true)
  | none => ([], false)

set_option maxHeartbeats 400000 in
theorem dv_yes (c v : Int) (w : World) (h : dv c = some v) (h0 : 0 ≤ c) (h1 : c ≤ 255) : Calls Tryd.prog 23 #[.int .u8 c] w fun e w' => e = .returned (.tuple #[.int .u8 v, .bool true]) ∧ w' = w := by
  by_cases ha : 48 ≤ c ∧ c ≤ 57
  · have e : c - 48 = v := by rw [dv, if_pos ha] at h; injection h
    obtain ⟨a1, a2⟩ := ha
    have E := Lib.hid e
    clear h e
    go_enter Tryd.func23, Tryd.ntmps23
    go_wp2
    go_ret2
    rw [← E.out]
    exact ⟨rfl, rfl⟩
  · by_cases hb : 97 ≤ c ∧ c ≤ 102
    · have e : c - 87 = v := by rw [dv, if_neg ha, if_pos hb] at h; injection h
      obtain ⟨a1, a2⟩ := hb
      have t : (57 : Int) < c := by omega
      have E := Lib.hid e
      clear h e ha
      go_enter Tryd.func23, Tryd.ntmps23
      go_wp2
      go_ret2
      rw [← E.out, show c - 87 = c - 97 + 10 by omega]
      exact ⟨rfl, rfl⟩
    · rw [dv, if_neg ha, if_neg hb] at h
      cases h

set_option maxHeartbeats 400000 in
theorem dv_no (c : Int) (w : World) (h : dv c = none) : Calls Tryd.prog 23 #[.int .u8 c] w fun e w' => e = .returned (.tuple #[.int .u8 0, .bool false]) ∧ w' = w := by
  have ha : ¬ (48 ≤ c ∧ c ≤ 57) := fun ha => by rw [dv, if_pos ha] at h; cases h
  have hb : ¬ (97 ≤ c ∧ c ≤ 102) := fun hb => by rw [dv, if_neg ha, if_pos hb] at h; cases h
  clear h
  rcases (show c < 48 ∨ (57 < c ∧ c < 97) ∨ 102 < c by omega) with h | ⟨h, h'⟩ | h
  all_goals
    clear ha hb
    go_enter Tryd.func23, Tryd.ntmps23
    go_wp2
    go_ret2
    exact ⟨rfl, rfl⟩

/-- One pair of digits more. -/
theorem unhexZ_pair {l : List Int} {k : Nat} (h : 2 * k + 1 < l.length) : unhexZ (l.drop (2 * k)) = match dv (l[2 * k]?.getD 0), dv (l[2 * k + 1]?.getD 0) with
    | some x, some y => (unhexZ (l.drop (2 * (k + 1)))).map (fun zs => (x * 16 + y) :: zs)
    | _, _ => none := by
  rw [List.drop_eq_getElem_cons (show 2 * k < l.length by omega), List.drop_eq_getElem_cons (show 2 * k + 1 < l.length by omega), unhexZ, List.getElem?_eq_getElem (show 2 * k < l.length by omega), List.getElem?_eq_getElem h]
  rfl

theorem unhexZ_odd : ∀ (n : Nat) (l : List Int), l.length = 2 * n + 1 → unhexZ l = none
  | 0, l, h => by
    match l, h with
    | [_], _ => rfl
  | n + 1, l, h => by
    match l, h with
    | c :: d :: r, h =>
      have := unhexZ_odd n r (by simp at h; omega)
      rw [unhexZ, this]
      cases dv c <;> cases dv d <;> rfl

/-- What the letters ahead of the k-th pair have come to: pre; what is to come decides the rest. -/
def Upto (l : List Int) (k : Nat) (pre : List Int) : Prop := pre.length = k ∧ (∀ x ∈ pre, 0 ≤ x ∧ x ≤ 255) ∧ unhexZ l = (unhexZ (l.drop (2 * k))).map (fun zs => pre ++ zs)

theorem Upto.start (l : List Int) : Upto l 0 [] := ⟨rfl, by simp, by simp⟩

theorem Upto.more {l pre : List Int} {k : Nat} {x y : Int} (h : Upto l k pre) (hk : 2 * k + 1 < l.length) (hx : dv (l[2 * k]?.getD 0) = some x) (hy : dv (l[2 * k + 1]?.getD 0) = some y) : Upto l (k + 1) (pre ++ [x * 16 + y]) := by
  obtain ⟨h1, h2, h3⟩ := h
  have bx := dv_range hx
  have b_y := dv_range hy
  refine ⟨by simp [h1], fun z hz => ?_, ?_⟩
  · rcases List.mem_append.1 hz with hz | hz
    · exact h2 z hz
    · simp at hz
      omega
  · rw [h3, unhexZ_pair hk, hx, hy]
    cases unhexZ (l.drop (2 * (k + 1))) <;> simp

theorem Upto.bad {l pre : List Int} {k : Nat} (h : Upto l k pre) (hk : 2 * k + 1 < l.length) (hx : dv (l[2 * k]?.getD 0) = none ∨ dv (l[2 * k + 1]?.getD 0) = none) : unhexR l = ([], false) := by
  have h3 : unhexZ l = none := by
    rw [h.2.2, unhexZ_pair hk]
    rcases hx with hx | hx
    · rw [hx]; rfl
    · rw [hx]; cases dv (l[2 * k]?.getD 0) <;> rfl
  rw [unhexR, h3]

theorem Upto.done {l pre : List Int} {k : Nat} (h : Upto l k pre) (hk : l.length = 2 * k) : unhexR l = (pre, true) := by
  have h3 := h.2.2
  rw [List.drop_of_length_le (by omega)] at h3
  rw [unhexR, h3]
  simp [unhexZ]

theorem unhexR_odd {l : List Int} (h : l.length % 2 = 1) : unhexR l = ([], false) := by
  rw [unhexR, unhexZ_odd (l.length / 2) l (by omega)]

end Go.Proofs.YtgldoppcillljaaDoor
