/-
  What is written reads as what it was, on lists, for stage 4 (tlv). Nothing of the program is named here.
-/
import Derived.Test.YtefdfdnfpacfjaaParse
import Derived.Test.YtefdfdnfpacfjaaRight
import Derived.Test.YtefdfdnfpacfjaaWriteT
namespace Go.Proofs.Ytefdfdnfpacfjaa
open Go.RowKit

theorem head_lay {tag c : Int} (x : List Int) (h0 : 0 ≤ c) (h1 : c < 65536) (ht : tag % 32 ≠ 31) : headL (tag :: (lenB c ++ x)) = .ok (1 + (lenB c).length, c.toNat) := by
  by_cases a : c < 128
  · have e : lenB c = [c] := by unfold lenB; rw [if_pos a]
    rw [e]
    unfold headL
    rw [if_neg (by simp), if_neg (by simpa [at0] using ht), if_neg (by simp), if_pos (by simpa [at0] using a)]
    simp [at0]
  by_cases b : c < 256
  · have e : lenB c = [129, c] := by unfold lenB; rw [if_neg a, if_pos b]
    rw [e]
    unfold headL
    rw [if_neg (by simp), if_neg (by simpa [at0] using ht), if_neg (by simp), if_neg (by simp [at0]), if_pos (by simp [at0]), if_neg (by simp), if_neg (by simpa [at0] using a)]
    simp [at0]
  · have e : lenB c = [130, c / 256 % 256, c % 256] := by unfold lenB; rw [if_neg a, if_neg b]
    rw [e]
    unfold headL
    rw [if_neg (by simp), if_neg (by simpa [at0] using ht), if_neg (by simp), if_neg (by simp [at0]), if_neg (by simp [at0]), if_pos (by simp [at0]), if_neg (by simp), if_neg (by simp only [at0, List.cons_append, List.getElem?_cons_succ, List.getElem?_cons_zero, Option.getD_some]; omega)]
    simp only [at0, List.cons_append, List.getElem?_cons_succ, List.getElem?_cons_zero, Option.getD_some]
    rw [show c / 256 % 256 * 256 + c % 256 = c by omega]
    rfl

theorem bytesAll_pos (ks : List T) : 0 ≤ bytesAll ks := by
  induction ks with
  | nil => simp [bytesAll]
  | cons x r ih =>
    rw [bytesAll]
    have := (size_le x).1
    omega

/-- How long the written bytes are. -/
theorem lay_len (t : T) : rightT t = true → ((layT t).length : Int) = bytesT t := by
  refine T.each (p := fun t => rightT t = true → ((layT t).length : Int) = bytesT t) ?_ t
  intro t ih hr
  obtain ⟨_, hbody, hkids, hks⟩ := right_parts hr
  have key : ∀ ks : List T, (∀ k ∈ ks, ((layT k).length : Int) = bytesT k) → ((layAll ks).length : Int) = bytesAll ks := by
    intro ks
    induction ks with
    | nil => intro _; simp [layAll, bytesAll]
    | cons k r ihr =>
      intro h
      rw [layAll, bytesAll, List.length_append]
      have := h k (by simp)
      have := ihr (fun x hx => h x (by simp [hx]))
      omega
  have hk := key t.kids (fun k hm => ih k hm (hks k hm))
  have hin : inT t = ((t.body.length + (layAll t.kids).length : Nat) : Int) := by
    unfold inT
    cases hw : withinB t.tag
    · rw [hkids hw]
      simp [layAll]
    · rw [hbody hw]
      simp [hk]
  rw [layT_eq, bytesT_eq, hin, List.length_cons, List.length_append, List.length_append]
  have := lenB_length ((t.body.length + (layAll t.kids).length : Nat) : Int)
  omega
theorem layAll_len {ks : List T} (h : ∀ k ∈ ks, rightT k = true) : ((layAll ks).length : Int) = bytesAll ks := by
  induction ks with
  | nil => simp [layAll, bytesAll]
  | cons k r ih =>
    rw [layAll, bytesAll, List.length_append]
    have := lay_len k (h k (by simp))
    have := ih (fun x hx => h x (by simp [hx]))
    omega
theorem in_len {t : T} (hr : rightT t = true) : inT t = ((t.body.length + (layAll t.kids).length : Nat) : Int) := by
  have h1 := lay_len t hr
  rw [layT_eq, bytesT_eq, List.length_cons, List.length_append, List.length_append] at h1
  obtain ⟨_, hbody, hkids, hks⟩ := right_parts hr
  have hk := layAll_len hks
  unfold inT
  cases hw : withinB t.tag
  · rw [hkids hw]
    simp [layAll]
  · rw [hbody hw]
    simp [hk]

/-- The elements within, each read behind the other. -/
theorem kids_trip : ∀ (ks : List T), (∀ k ∈ ks, ∀ (deep : Nat) (r : List Int), (deep : Int) + deepT k ≤ 32 → bytesT k < 65536 → elemC deep (layT k ++ r) = .ok (k, r)) →
    ∀ deep : Nat, (deep : Int) + deepAll ks ≤ 32 → bytesAll ks < 65536 → kidsC deep (layAll ks) = .ok ks
  | [], _, deep, _, _ => by
    rw [layAll]
    exact kidsC_nil deep
  | x :: r, h, deep, hd, hb => by
    rw [layAll]
    have hne : layT x ++ layAll r ≠ [] := by
      rw [layT_eq]
      simp
    have hp := bytesAll_pos r
    have hx := (size_le x).1
    rw [bytesAll] at hb
    have hd' : (deep : Int) + deepT x ≤ 32 ∧ (deep : Int) + deepAll r ≤ 32 := by
      rw [deepAll] at hd
      split at hd <;> omega
    rw [kidsC_eq hne, h x (by simp) deep (layAll r) hd'.1 (by omega)]
    simp only []
    rw [kids_trip r (fun k hk => h k (by simp [hk])) deep hd'.2 (by omega)]

/-- One element, with whatever stands behind it. -/
theorem elem_trip (t : T) : ∀ (deep : Nat) (r : List Int), rightT t = true → (deep : Int) + deepT t ≤ 32 → bytesT t < 65536 → elemC deep (layT t ++ r) = .ok (t, r) := by
  refine T.each (p := fun t => ∀ (deep : Nat) (r : List Int), rightT t = true → (deep : Int) + deepT t ≤ 32 → bytesT t < 65536 → elemC deep (layT t ++ r) = .ok (t, r)) ?_ t
  clear t
  intro t ih deep r hr hd hb
  obtain ⟨htag, hbody, hkids, hks⟩ := right_parts hr
  have hil := in_len hr
  have hbe := bytesT_eq t
  have hll := lenLen_range (inT t)
  have hde := deepT_eq t
  have hdp := (size_le t).2.2.2.2.1
  have hc : ((t.body.length + (layAll t.kids).length : Nat) : Int) < 65536 := by omega
  have h31 : t.tag % 32 ≠ 31 := by
    unfold tagB at htag
    simp only [Bool.and_eq_true, bne_iff_ne, ne_eq] at htag
    exact htag.2.2
  have e : layT t ++ r = t.tag :: (lenB ((t.body.length + (layAll t.kids).length : Nat) : Int) ++ ((t.body ++ layAll t.kids) ++ r)) := by
    rw [layT_eq]
    simp
  have ed : ∀ y : List Int, (t.tag :: (lenB ((t.body.length + (layAll t.kids).length : Nat) : Int) ++ y)).drop (1 + (lenB ((t.body.length + (layAll t.kids).length : Nat) : Int)).length) = y := by
    intro y
    rw [Nat.add_comm, List.drop_succ_cons, List.drop_left]
  have et : ((t.body ++ layAll t.kids) ++ r).take (t.body.length + (layAll t.kids).length) = t.body ++ layAll t.kids := by
    rw [← List.length_append, List.take_left]
  have er : ((t.body ++ layAll t.kids) ++ r).drop (t.body.length + (layAll t.kids).length) = r := by
    rw [← List.length_append, List.drop_left]
  have e0 : ∀ y : List Int, at0 (t.tag :: y) 0 = t.tag := fun _ => rfl
  rw [e]
  unfold elemC elemW
  rw [head_lay _ (by omega) hc h31]
  simp only []
  rw [ed, Int.toNat_natCast, et, er, e0, if_neg (by rw [List.length_append, List.length_append]; omega), if_neg (by omega)]
  have eta : T.node t.tag t.body t.kids = t := by
    obtain ⟨tag, body, kids⟩ := t
    rfl
  rcases Bool.eq_false_or_eq_true (withinB t.tag) with hw | hw
  · rw [if_pos hw] at hde
    have hbb : bytesAll t.kids < 65536 := by
      have := layAll_len hks
      omega
    have hk := kids_trip t.kids (fun k hk d x h1 h2 => ih k hk d x (hks k hk) h1 h2) (deep + 1) (by omega) hbb
    rw [if_pos hw, hbody hw, List.nil_append, hk]
    rw [hbody hw] at eta
    simp only []
    rw [eta]
  · rw [if_neg (by rw [hw]; simp), hkids hw]
    rw [hkids hw] at eta
    rw [layAll, List.append_nil, eta]

/-- What Write answers reads as what it was given. -/
theorem read_write {t : T} (h : (writeZ t).2 = 0) : readZ (writeZ t).1 = .ok t := by
  unfold writeZ at h ⊢
  split at h
  · simp at h
  · rename_i h1
    split at h
    · simp at h
    · rename_i h2
      split at h
      · simp at h
      · rename_i h3
        rw [if_neg h1, if_neg h2, if_neg h3]
        have hr : rightT t = true := by simpa using h1
        have hl := lay_len t hr
        show readZ (layT t) = .ok t
        unfold readZ
        rw [if_neg (by omega)]
        have := elem_trip t 0 [] hr (by omega) (by omega)
        rw [List.append_nil] at this
        rw [this]
        rfl

end Go.Proofs.Ytefdfdnfpacfjaa
