/-
  What was read is written as it stood, on lists, for stage 4 (tlv). Nothing of the program is named here.
-/
import Derived.Test.YtefdfdnfpacfjaaTrip
namespace Go.Proofs.Ytefdfdnfpacfjaa
open Go.RowKit

theorem head_inv {l : List Int} {h n : Nat} (hb : ∀ z ∈ l, 0 ≤ z ∧ z ≤ 255) (e : headL l = .ok (h, n)) :
    at0 l 0 % 32 ≠ 31 ∧ ∃ x, l = at0 l 0 :: (lenB (n : Int) ++ x) ∧ l.drop h = x := by
  unfold headL at e
  split at e
  · cases e
  split at e
  · cases e
  rename_i h0 h31
  refine ⟨h31, ?_⟩
  split at e
  · cases e
  rename_i h2
  match l, hb, h0, h2, e with
  | a :: b :: x, hb, _, _, e =>
    have e0 : at0 (a :: b :: x) 0 = a := rfl
    have e1 : at0 (a :: b :: x) 1 = b := rfl
    have bb := hb b (by simp)
    rw [e1] at e
    rw [e0]
    split at e
    · rename_i hl
      cases e
      refine ⟨x, ?_, rfl⟩
      unfold lenB
      rw [if_pos (by omega), Int.toNat_of_nonneg bb.1]
      rfl
    split at e
    · rename_i hl h129
      split at e
      · cases e
      rename_i h3
      match x, hb, h3, e with
      | c :: x, hb, _, e =>
        have e2 : at0 (a :: b :: c :: x) 2 = c := rfl
        have bc := hb c (by simp)
        rw [e2] at e
        split at e
        · cases e
        rename_i hc
        cases e
        refine ⟨x, ?_, rfl⟩
        unfold lenB
        rw [if_neg (by omega), if_pos (by omega), Int.toNat_of_nonneg bc.1, h129]
        rfl
      | [], _, h3, _ => exact absurd (by simp) h3
    split at e
    · rename_i hl _ h130
      split at e
      · cases e
      rename_i h4
      match x, hb, h4, e with
      | c :: d :: x, hb, _, e =>
        have e2 : at0 (a :: b :: c :: d :: x) 2 = c := rfl
        have e3 : at0 (a :: b :: c :: d :: x) 3 = d := rfl
        have bc := hb c (by simp)
        have bd := hb d (by simp)
        rw [e2, e3] at e
        split at e
        · cases e
        rename_i hc
        cases e
        refine ⟨x, ?_, rfl⟩
        unfold lenB
        rw [Int.toNat_of_nonneg (by omega), if_neg (by omega), if_neg (by omega), show (c * 256 + d) / 256 % 256 = c by omega, show (c * 256 + d) % 256 = d by omega, h130]
        rfl
      | [c], _, h4, _ => exact absurd (by simp) h4
      | [], _, h4, _ => exact absurd (by simp) h4
    · cases e
  | [a], _, _, h2, _ => exact absurd (by simp) h2
  | [], _, h0, _, _ => exact absurd (by simp) h0

theorem rightAll_of {ks : List T} (h : ∀ k ∈ ks, rightT k = true) : rightAll ks = true := by
  induction ks with
  | nil => rfl
  | cons x r ih => rw [rightAll, h x (by simp), ih (fun k hk => h k (by simp [hk])), Bool.and_self]
theorem tagB_of {z : Int} (h : 0 ≤ z ∧ z ≤ 255) (h31 : z % 32 ≠ 31) : tagB z = true := by
  unfold tagB
  simp only [Bool.and_eq_true, decide_eq_true_eq, bne_iff_ne, ne_eq]
  exact ⟨h.1, by omega, h31⟩

theorem elem_inv {l r : List Int} {deep : Nat} {t : T} (hb : ∀ z ∈ l, 0 ≤ z ∧ z ≤ 255)
    (IH : ∀ (x : List Int) (deep : Nat) (ks : List T), x.length < l.length → (∀ z ∈ x, 0 ≤ z ∧ z ≤ 255) → deep ≤ 32 → kidsC deep x = .ok ks → x = layAll ks ∧ (∀ k ∈ ks, rightT k = true) ∧ (deep : Int) + deepAll ks ≤ 32)
    (e : elemC deep l = .ok (t, r)) : l = layT t ++ r ∧ rightT t = true ∧ (deep : Int) + deepT t ≤ 32 := by
  unfold elemC elemW at e
  split at e
  · cases e
  rename_i h n hh
  obtain ⟨h31, x, hl, hx⟩ := head_inv hb hh
  have hlen : x.length < l.length := by
    rw [hl, List.length_cons, List.length_append]
    omega
  have hbx : ∀ z ∈ x, 0 ≤ z ∧ z ≤ 255 := fun z hz => hb z (by rw [hl]; simp [hz])
  have ha : 0 ≤ at0 l 0 ∧ at0 l 0 ≤ 255 := at0_byte hb 0
  rw [hx] at e
  split at e
  · cases e
  rename_i hn
  split at e
  · cases e
  rename_i hd
  have hcut : x = x.take n ++ x.drop n := (List.take_append_drop n x).symm
  have hnl : (x.take n).length = n := by
    rw [List.length_take]
    omega
  split at e
  · rename_i hw
    split at e
    · cases e
    rename_i ks hk
    cases e
    obtain ⟨g1, g2, g3⟩ := IH (x.take n) (deep + 1) ks (by rw [List.length_take]; omega) (fun z hz => hbx z (List.mem_of_mem_take hz)) (by omega) hk
    have hkl : (layAll ks).length = n := by rw [← g1, hnl]
    refine ⟨?_, ?_, ?_⟩
    · rw [layT]
      have z0 : ((([] : List Int).length + (layAll ks).length : Nat) : Int) = (n : Int) := by rw [hkl]; simp
      rw [z0, ← g1, List.nil_append, List.cons_append, List.append_assoc, ← hcut]
      exact hl
    · rw [rightT, tagB_of ha h31, hw, rightAll_of g2]
      simp
    · rw [deepT, if_pos hw]
      omega
  · rename_i hw
    cases e
    refine ⟨?_, ?_, ?_⟩
    · rw [layT]
      have z0 : (((x.take n).length + (layAll []).length : Nat) : Int) = (n : Int) := by rw [hnl, layAll]; simp
      rw [z0, layAll, List.append_nil, List.cons_append, List.append_assoc, ← hcut]
      exact hl
    · have hw' : withinB (at0 l 0) = false := by simpa using hw
      rw [rightT, tagB_of ha h31, hw', rightAll]
      simp
    · rw [deepT, if_neg hw]
      omega

theorem kids_inv : ∀ (m : Nat) (x : List Int) (deep : Nat) (ks : List T), x.length < m → (∀ z ∈ x, 0 ≤ z ∧ z ≤ 255) → deep ≤ 32 → kidsC deep x = .ok ks → x = layAll ks ∧ (∀ k ∈ ks, rightT k = true) ∧ (deep : Int) + deepAll ks ≤ 32
  | 0, x, _, _, h, _, _, _ => absurd h (by omega)
  | m + 1, x, deep, ks, h, hb, hd, e => by
    by_cases h0 : x = []
    · subst h0
      rw [kidsC_nil] at e
      cases e
      refine ⟨by rw [layAll], by simp, ?_⟩
      rw [deepAll]
      omega
    rw [kidsC_eq h0] at e
    split at e
    · cases e
    rename_i t r he
    have hr := elemC_rest he
    obtain ⟨g1, g2, g3⟩ := elem_inv hb (fun y d js hy => kids_inv m y d js (by omega)) he
    split at e
    · cases e
    rename_i js hj
    cases e
    obtain ⟨k1, k2, k3⟩ := kids_inv m r deep js (by omega) (fun z hz => hb z (by rw [g1]; simp [hz])) hd hj
    refine ⟨?_, ?_, ?_⟩
    · rw [layAll, ← k1]
      exact g1
    · intro k hk
      rcases List.mem_cons.1 hk with rfl | hk
      · exact g2
      · exact k2 k hk
    · rw [deepAll]
      split <;> omega

/-- A right element weighs no more than its bytes. -/
theorem wt_le (t : T) : rightT t = true → wt t ≤ bytesT t := by
  refine T.each (p := fun t => rightT t = true → wt t ≤ bytesT t) ?_ t
  intro t ih hr
  obtain ⟨_, hbody, hkids, hks⟩ := right_parts hr
  have key : ∀ ks : List T, (∀ k ∈ ks, wt k ≤ bytesT k) → wtAll ks ≤ bytesAll ks := by
    intro ks
    induction ks with
    | nil => intro _; simp [wtAll, bytesAll]
    | cons k r ihr =>
      intro h
      rw [wtAll, bytesAll]
      have := h k (by simp)
      have := ihr (fun x hx => h x (by simp [hx]))
      omega
  have hk := key t.kids (fun k hm => ih k hm (hks k hm))
  have hl := lenLen_range (inT t)
  rw [wt_eq, bytesT_eq]
  unfold inT at hl ⊢
  cases hw : withinB t.tag
  · rw [hw] at hl
    rw [hkids hw]
    simp only [wtAll, Bool.false_eq_true, if_false] at hl ⊢
    omega
  · rw [hw] at hl
    rw [hbody hw]
    simp only [List.length_nil, if_true] at hl ⊢
    omega
/-- What was read is written as it stood. -/
theorem write_read {l : List Int} {t : T} (hb : ∀ z ∈ l, 0 ≤ z ∧ z ≤ 255) (h : readZ l = .ok t) : writeZ t = (l, 0) ∧ rightT t = true := by
  unfold readZ at h
  split at h
  · cases h
  rename_i hl
  split at h
  · cases h
  rename_i t' r e
  split at h
  · rename_i hr
    cases h
    subst hr
    obtain ⟨g1, g2, g3⟩ := elem_inv hb (fun y d js _ => kids_inv (y.length + 1) y d js (by omega)) e
    rw [List.append_nil] at g1
    have hll := lay_len t g2
    rw [← g1] at hll
    exact ⟨by rw [write_ok g2 (by omega) (by omega), ← g1], g2⟩
  · cases h

end Go.Proofs.Ytefdfdnfpacfjaa
