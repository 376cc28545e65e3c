/-
  Merged texts: WriteT, Trip, Pirt, SkP, Pk1, Pk2, Pk3, Pk4, Shelf, Pk5, Pk6, Pk7.
-/
import Derived.Test.YtgmefdmeeihgoaaGreatDoorGrD
import Derived.Test.YtgmefdmeeihgoaaGreatDoorGrC
import Derived.Shelf.Small.Bits
import Derived.Test.YtgmefdmeeihgoaaGreatDoorProg
namespace Go.Proofs.YtgmefdmeeihgoaaGreatDoor
open Go.RowKit
def writeZ (t : T) : List Int × Int := if rightT t = false then ([], 2) else if 32 < deepT t then ([], 4) else if 20000 < bytesT t then ([], 5) else (layT t, 0)
def GivesWrite (x : List Int × Int) (w : World) (e : Ending) (w' : World) : Prop :=
  ∃ a c, e = .returned (.tuple #[.slice a x.1.length c, .int .i64 x.2]) ∧ Row w' a x.1.length x.1 ∧ (a = none → c = 0) ∧ Below w.heap.size w w'
theorem gives_none {x : List Int × Int} {w w' : World} {z : Int} (h : x = ([], z)) (hb : Below w.heap.size w w') : GivesWrite x w (.returned (.tuple #[.slice none 0 0, .int .i64 z])) w' := by
  subst h
  exact ⟨none, 0, rfl, Row.nil _ _, fun _ => rfl, hb⟩
theorem write_right {t : T} (h : rightT t = false) : writeZ t = ([], 2) := if_pos h
theorem write_deep {t : T} (h : rightT t = true) (h1 : 32 < deepT t) : writeZ t = ([], 4) := by rw [writeZ, if_neg (by rw [h]; simp), if_pos h1]
theorem write_large {t : T} (h : rightT t = true) (h1 : ¬ 32 < deepT t) (h2 : 20000 < bytesT t) : writeZ t = ([], 5) := by rw [writeZ, if_neg (by rw [h]; simp), if_neg h1, if_pos h2]
theorem write_ok {t : T} (h : rightT t = true) (h1 : ¬ 32 < deepT t) (h2 : ¬ 20000 < bytesT t) : writeZ t = (layT t, 0) := by rw [writeZ, if_neg (by rw [h]; simp), if_neg h1, if_neg h2]
set_option maxHeartbeats 2000000 in
theorem rwrite_big (t : T) (v : Value) (w : World) (hin : t.In w v) (hwt : wt t < 40000) : Calls Tryz.prog 44 #[v] w (GivesWrite (writeZ t) w) := by
  obtain ⟨A, n, c, K, m, d, rfl, _⟩ := hin.open
  have BX := Lib.hid (Box.start hin)
  clear hin
  cases hrt : rightT t
  · have F := Lib.hid (write_right hrt)
    have RT := Lib.hid hrt
    clear hrt
    go_enter Tryz.func44, Tryz.ntmps44
    go_wp2_with fail
    refine (right_any t _ _ BX.out.has).mono ?_
    rintro e w2 ⟨rfl, hb2⟩
    rw [RT.out]
    have B2 := Lib.hid (Below.step BX.out.below hb2)
    clear hb2
    go_wp2_with fail
    go_ret2
    exact gives_none F.out B2.out
  have RT := Lib.hid hrt
  have hsz := size_le t
  have key : ∃ x, x = writeZ t ∧ ((32 < deepT t ∧ x = ([], 4)) ∨ (¬ 32 < deepT t ∧ 20000 < bytesT t ∧ x = ([], 5)) ∨ (¬ 32 < deepT t ∧ ¬ 20000 < bytesT t ∧ x = (layT t, 0))) := by
    refine ⟨_, rfl, ?_⟩
    by_cases h1 : 32 < deepT t
    · exact .inl ⟨h1, write_deep hrt h1⟩
    · by_cases h2 : 20000 < bytesT t
      · exact .inr (.inl ⟨h1, h2, write_large hrt h1 h2⟩)
      · exact .inr (.inr ⟨h1, h2, write_ok hrt h1 h2⟩)
  obtain ⟨x, hx, hways⟩ := key
  rw [← hx]
  clear hx hrt
  rcases hways with ⟨h1, hx⟩ | ⟨h1, h2, hx⟩ | ⟨h1, h2, hx⟩
  all_goals
    have HX := Lib.hid hx
    clear hx
    go_enter Tryz.func44, Tryz.ntmps44
    go_wp2_with fail
    refine (right_any t _ _ BX.out.has).mono ?_
    rintro e w2 ⟨rfl, hb2⟩
    rw [RT.out]
    have BX2 := Lib.hid (BX.out.go hb2)
    obtain ⟨g0, g1, g2⟩ := BX2.out.cells
    clear hb2
    go_wp2_with fail
    refine (rsize_big t _ _ BX2.out.has hwt).mono ?_
    rintro e w3 ⟨rfl, hb3⟩
    have BX3 := Lib.hid (BX2.out.go hb3)
    clear g0 g1 g2 hb3
    obtain ⟨g0, g1, g2⟩ := BX3.out.cells
    go_wp2_with fail
  · go_ret2
    exact gives_none HX.out BX3.out.below
  · go_ret2
    exact gives_none HX.out BX3.out.below
  · refine (rlay_big t _ _ BX3.out.has (right_parts RT.out).1 RT.out hwt).mono ?_
    rintro e w4 ⟨a, cc, rfl, hrow, hnil, hb4⟩
    have B4 := Lib.hid (Below.step BX3.out.below hb4)
    have R4 := Lib.hid hrow
    have N4 := Lib.hid hnil
    clear hrow hnil hb4
    go_wp2_with fail
    go_ret2
    rw [HX.out]
    exact ⟨a, cc, rfl, R4.out, N4.out, B4.out⟩
end Go.Proofs.YtgmefdmeeihgoaaGreatDoor
namespace Go.Proofs.YtgmefdmeeihgoaaGreatDoor
open Go.RowKit
theorem head_lay {tag c : Int} (x : List Int) (h0 : 0 ≤ c) (h1 : c < 65536) (ht : tag % 32 ≠ 31) : headL (tag :: (lenB c ++ x)) = .ok (1 + (lenB c).length, c.toNat) := by
  by_cases a : c < 128
  · have e : lenB c = [c] := by unfold lenB; rw [if_pos a]
    rw [e]
    unfold headL
    rw [if_neg (by simp), if_neg (by simpa [at0] using ht), if_neg (by simp), if_pos (by simpa [at0] using a)]
    simp [at0]
  by_cases b : c < 256
  · have e : lenB c = [129, c] := by unfold lenB; rw [if_neg a, if_pos b]
    rw [e]
    unfold headL
    rw [if_neg (by simp), if_neg (by simpa [at0] using ht), if_neg (by simp), if_neg (by simp [at0]), if_pos (by simp [at0]), if_neg (by simp), if_neg (by simpa [at0] using a)]
    simp [at0]
  · have e : lenB c = [130, c / 256 % 256, c % 256] := by unfold lenB; rw [if_neg a, if_neg b]
    rw [e]
    unfold headL
    rw [if_neg (by simp), if_neg (by simpa [at0] using ht), if_neg (by simp), if_neg (by simp [at0]), if_neg (by simp [at0]), if_pos (by simp [at0]), if_neg (by simp), if_neg (by simp only [at0, List.cons_append, List.getElem?_cons_succ, List.getElem?_cons_zero, Option.getD_some]; omega)]
    simp only [at0, List.cons_append, List.getElem?_cons_succ, List.getElem?_cons_zero, Option.getD_some]
    rw [show c / 256 % 256 * 256 + c % 256 = c by omega]
    rfl
theorem bytesAll_pos (ks : List T) : 0 ≤ bytesAll ks := by
  induction ks with
  | nil => simp [bytesAll]
  | cons x r ih =>
    rw [bytesAll]
    have := (size_le x).1
    omega
theorem lay_len (t : T) : rightT t = true → ((layT t).length : Int) = bytesT t := by
  refine T.each (p := fun t => rightT t = true → ((layT t).length : Int) = bytesT t) ?_ t
  intro t ih hr
  obtain ⟨_, hbody, hkids, hks⟩ := right_parts hr
  have key : ∀ ks : List T, (∀ k ∈ ks, ((layT k).length : Int) = bytesT k) → ((layAll ks).length : Int) = bytesAll ks := by
    intro ks
    induction ks with
    | nil => intro _; simp [layAll, bytesAll]
    | cons k r ihr =>
      intro h
      rw [layAll, bytesAll, List.length_append]
      have := h k (by simp)
      have := ihr (fun x hx => h x (by simp [hx]))
      omega
  have hk := key t.kids (fun k hm => ih k hm (hks k hm))
  have hin : inT t = ((t.body.length + (layAll t.kids).length : Nat) : Int) := by
    unfold inT
    cases hw : withinB t.tag
    · rw [hkids hw]
      simp [layAll]
    · rw [hbody hw]
      simp [hk]
  rw [layT_eq, bytesT_eq, hin, List.length_cons, List.length_append, List.length_append]
  have := lenB_length ((t.body.length + (layAll t.kids).length : Nat) : Int)
  omega
theorem layAll_len {ks : List T} (h : ∀ k ∈ ks, rightT k = true) : ((layAll ks).length : Int) = bytesAll ks := by
  induction ks with
  | nil => simp [layAll, bytesAll]
  | cons k r ih =>
    rw [layAll, bytesAll, List.length_append]
    have := lay_len k (h k (by simp))
    have := ih (fun x hx => h x (by simp [hx]))
    omega
theorem in_len {t : T} (hr : rightT t = true) : inT t = ((t.body.length + (layAll t.kids).length : Nat) : Int) := by
  have h1 := lay_len t hr
  rw [layT_eq, bytesT_eq, List.length_cons, List.length_append, List.length_append] at h1
  obtain ⟨_, hbody, hkids, hks⟩ := right_parts hr
  have hk := layAll_len hks
  unfold inT
  cases hw : withinB t.tag
  · rw [hkids hw]
    simp [layAll]
  · rw [hbody hw]
    simp [hk]
theorem kids_trip : ∀ (ks : List T), (∀ k ∈ ks, ∀ (deep : Nat) (r : List Int), (deep : Int) + deepT k ≤ 32 → bytesT k < 65536 → elemC deep (layT k ++ r) = .ok (k, r)) →
    ∀ deep : Nat, (deep : Int) + deepAll ks ≤ 32 → bytesAll ks < 65536 → kidsC deep (layAll ks) = .ok ks
  | [], _, deep, _, _ => by
    rw [layAll]
    exact kidsC_nil deep
  | x :: r, h, deep, hd, hb => by
    rw [layAll]
    have hne : layT x ++ layAll r ≠ [] := by
      rw [layT_eq]
      simp
    have hp := bytesAll_pos r
    have hx := (size_le x).1
    rw [bytesAll] at hb
    have hd' : (deep : Int) + deepT x ≤ 32 ∧ (deep : Int) + deepAll r ≤ 32 := by
      rw [deepAll] at hd
      split at hd <;> omega
    rw [kidsC_eq hne, h x (by simp) deep (layAll r) hd'.1 (by omega)]
    simp only []
    rw [kids_trip r (fun k hk => h k (by simp [hk])) deep hd'.2 (by omega)]
theorem elem_trip (t : T) : ∀ (deep : Nat) (r : List Int), rightT t = true → (deep : Int) + deepT t ≤ 32 → bytesT t < 65536 → elemC deep (layT t ++ r) = .ok (t, r) := by
  refine T.each (p := fun t => ∀ (deep : Nat) (r : List Int), rightT t = true → (deep : Int) + deepT t ≤ 32 → bytesT t < 65536 → elemC deep (layT t ++ r) = .ok (t, r)) ?_ t
  clear t
  intro t ih deep r hr hd hb
  obtain ⟨htag, hbody, hkids, hks⟩ := right_parts hr
  have hil := in_len hr
  have hbe := bytesT_eq t
  have hll := lenLen_range (inT t)
  have hde := deepT_eq t
  have hdp := (size_le t).2.2.2.2.1
  have hc : ((t.body.length + (layAll t.kids).length : Nat) : Int) < 65536 := by omega
  have h31 : t.tag % 32 ≠ 31 := by
    unfold tagB at htag
    simp only [Bool.and_eq_true, bne_iff_ne, ne_eq] at htag
    exact htag.2.2
  have e : layT t ++ r = t.tag :: (lenB ((t.body.length + (layAll t.kids).length : Nat) : Int) ++ ((t.body ++ layAll t.kids) ++ r)) := by
    rw [layT_eq]
    simp
  have ed : ∀ y : List Int, (t.tag :: (lenB ((t.body.length + (layAll t.kids).length : Nat) : Int) ++ y)).drop (1 + (lenB ((t.body.length + (layAll t.kids).length : Nat) : Int)).length) = y := by
    intro y
    rw [Nat.add_comm, List.drop_succ_cons, List.drop_left]
  have et : ((t.body ++ layAll t.kids) ++ r).take (t.body.length + (layAll t.kids).length) = t.body ++ layAll t.kids := by
    rw [← List.length_append, List.take_left]
  have er : ((t.body ++ layAll t.kids) ++ r).drop (t.body.length + (layAll t.kids).length) = r := by
    rw [← List.length_append, List.drop_left]
  have e0 : ∀ y : List Int, at0 (t.tag :: y) 0 = t.tag := fun _ => rfl
  rw [e]
  unfold elemC elemW
  rw [head_lay _ (by omega) hc h31]
  simp only []
  rw [ed, Int.toNat_natCast, et, er, e0, if_neg (by rw [List.length_append, List.length_append]; omega), if_neg (by omega)]
  have eta : T.node t.tag t.body t.kids = t := by
    obtain ⟨tag, body, kids⟩ := t
    rfl
  rcases Bool.eq_false_or_eq_true (withinB t.tag) with hw | hw
  · rw [if_pos hw] at hde
    have hbb : bytesAll t.kids < 65536 := by
      have := layAll_len hks
      omega
    have hk := kids_trip t.kids (fun k hk d x h1 h2 => ih k hk d x (hks k hk) h1 h2) (deep + 1) (by omega) hbb
    rw [if_pos hw, hbody hw, List.nil_append, hk]
    rw [hbody hw] at eta
    simp only []
    rw [eta]
  · rw [if_neg (by rw [hw]; simp), hkids hw]
    rw [hkids hw] at eta
    rw [layAll, List.append_nil, eta]
theorem read_write {t : T} (h : (writeZ t).2 = 0) : readZ (writeZ t).1 = .ok t := by
  unfold writeZ at h ⊢
  split at h
  · simp at h
  · rename_i h1
    split at h
    · simp at h
    · rename_i h2
      split at h
      · simp at h
      · rename_i h3
        rw [if_neg h1, if_neg h2, if_neg h3]
        have hr : rightT t = true := by simpa using h1
        have hl := lay_len t hr
        show readZ (layT t) = .ok t
        unfold readZ
        rw [if_neg (by omega)]
        have := elem_trip t 0 [] hr (by omega) (by omega)
        rw [List.append_nil] at this
        rw [this]
        rfl
end Go.Proofs.YtgmefdmeeihgoaaGreatDoor
namespace Go.Proofs.YtgmefdmeeihgoaaGreatDoor
open Go.RowKit
theorem head_inv {l : List Int} {h n : Nat} (hb : ∀ z ∈ l, 0 ≤ z ∧ z ≤ 255) (e : headL l = .ok (h, n)) :
    at0 l 0 % 32 ≠ 31 ∧ ∃ x, l = at0 l 0 :: (lenB (n : Int) ++ x) ∧ l.drop h = x := by
  unfold headL at e
  split at e
  · cases e
  split at e
  · cases e
  rename_i h0 h31
  refine ⟨h31, ?_⟩
  split at e
  · cases e
  rename_i h2
  match l, hb, h0, h2, e with
  | a :: b :: x, hb, _, _, e =>
    have e0 : at0 (a :: b :: x) 0 = a := rfl
    have e1 : at0 (a :: b :: x) 1 = b := rfl
    have bb := hb b (by simp)
    rw [e1] at e
    rw [e0]
    split at e
    · rename_i hl
      cases e
      refine ⟨x, ?_, rfl⟩
      unfold lenB
      rw [if_pos (by omega), Int.toNat_of_nonneg bb.1]
      rfl
    split at e
    · rename_i hl h129
      split at e
      · cases e
      rename_i h3
      match x, hb, h3, e with
      | c :: x, hb, _, e =>
        have e2 : at0 (a :: b :: c :: x) 2 = c := rfl
        have bc := hb c (by simp)
        rw [e2] at e
        split at e
        · cases e
        rename_i hc
        cases e
        refine ⟨x, ?_, rfl⟩
        unfold lenB
        rw [if_neg (by omega), if_pos (by omega), Int.toNat_of_nonneg bc.1, h129]
        rfl
      | [], _, h3, _ => exact absurd (by simp) h3
    split at e
    · rename_i hl _ h130
      split at e
      · cases e
      rename_i h4
      match x, hb, h4, e with
      | c :: d :: x, hb, _, e =>
        have e2 : at0 (a :: b :: c :: d :: x) 2 = c := rfl
        have e3 : at0 (a :: b :: c :: d :: x) 3 = d := rfl
        have bc := hb c (by simp)
        have bd := hb d (by simp)
        rw [e2, e3] at e
        split at e
        · cases e
        rename_i hc
        cases e
        refine ⟨x, ?_, rfl⟩
        unfold lenB
        rw [Int.toNat_of_nonneg (by omega), if_neg (by omega), if_neg (by omega), show (c * 256 + d) / 256 % 256 = c by omega, show (c * 256 + d) % 256 = d by omega, h130]
        rfl
      | [c], _, h4, _ => exact absurd (by simp) h4
      | [], _, h4, _ => exact absurd (by simp) h4
    · cases e
  | [a], _, _, h2, _ => exact absurd (by simp) h2
  | [], _, h0, _, _ => exact absurd (by simp) h0
theorem rightAll_of {ks : List T} (h : ∀ k ∈ ks, rightT k = true) : rightAll ks = true := by
  induction ks with
  | nil => rfl
  | cons x r ih => rw [rightAll, h x (by simp), ih (fun k hk => h k (by simp [hk])), Bool.and_self]
theorem tagB_of {z : Int} (h : 0 ≤ z ∧ z ≤ 255) (h31 : z % 32 ≠ 31) : tagB z = true := by
  unfold tagB
  simp only [Bool.and_eq_true, decide_eq_true_eq, bne_iff_ne, ne_eq]
  exact ⟨h.1, by omega, h31⟩
theorem elem_inv {l r : List Int} {deep : Nat} {t : T} (hb : ∀ z ∈ l, 0 ≤ z ∧ z ≤ 255)
    (IH : ∀ (x : List Int) (deep : Nat) (ks : List T), x.length < l.length → (∀ z ∈ x, 0 ≤ z ∧ z ≤ 255) → deep ≤ 32 → kidsC deep x = .ok ks → x = layAll ks ∧ (∀ k ∈ ks, rightT k = true) ∧ (deep : Int) + deepAll ks ≤ 32)
    (e : elemC deep l = .ok (t, r)) : l = layT t ++ r ∧ rightT t = true ∧ (deep : Int) + deepT t ≤ 32 := by
  unfold elemC elemW at e
  split at e
  · cases e
  rename_i h n hh
  obtain ⟨h31, x, hl, hx⟩ := head_inv hb hh
  have hlen : x.length < l.length := by
    rw [hl, List.length_cons, List.length_append]
    omega
  have hbx : ∀ z ∈ x, 0 ≤ z ∧ z ≤ 255 := fun z hz => hb z (by rw [hl]; simp [hz])
  have ha : 0 ≤ at0 l 0 ∧ at0 l 0 ≤ 255 := at0_byte hb 0
  rw [hx] at e
  split at e
  · cases e
  rename_i hn
  split at e
  · cases e
  rename_i hd
  have hcut : x = x.take n ++ x.drop n := (List.take_append_drop n x).symm
  have hnl : (x.take n).length = n := by
    rw [List.length_take]
    omega
  split at e
  · rename_i hw
    split at e
    · cases e
    rename_i ks hk
    cases e
    obtain ⟨g1, g2, g3⟩ := IH (x.take n) (deep + 1) ks (by rw [List.length_take]; omega) (fun z hz => hbx z (List.mem_of_mem_take hz)) (by omega) hk
    have hkl : (layAll ks).length = n := by rw [← g1, hnl]
    refine ⟨?_, ?_, ?_⟩
    · rw [layT]
      have z0 : ((([] : List Int).length + (layAll ks).length : Nat) : Int) = (n : Int) := by rw [hkl]; simp
      rw [z0, ← g1, List.nil_append, List.cons_append, List.append_assoc, ← hcut]
      exact hl
    · rw [rightT, tagB_of ha h31, hw, rightAll_of g2]
      simp
    · rw [deepT, if_pos hw]
      omega
  · rename_i hw
    cases e
    refine ⟨?_, ?_, ?_⟩
    · rw [layT]
      have z0 : (((x.take n).length + (layAll []).length : Nat) : Int) = (n : Int) := by rw [hnl, layAll]; simp
      rw [z0, layAll, List.append_nil, List.cons_append, List.append_assoc, ← hcut]
      exact hl
    · have hw' : withinB (at0 l 0) = false := by simpa using hw
      rw [rightT, tagB_of ha h31, hw', rightAll]
      simp
    · rw [deepT, if_neg hw]
      omega
theorem kids_inv : ∀ (m : Nat) (x : List Int) (deep : Nat) (ks : List T), x.length < m → (∀ z ∈ x, 0 ≤ z ∧ z ≤ 255) → deep ≤ 32 → kidsC deep x = .ok ks → x = layAll ks ∧ (∀ k ∈ ks, rightT k = true) ∧ (deep : Int) + deepAll ks ≤ 32
  | 0, x, _, _, h, _, _, _ => absurd h (by omega)
  | m + 1, x, deep, ks, h, hb, hd, e => by
    by_cases h0 : x = []
    · subst h0
      rw [kidsC_nil] at e
      cases e
      refine ⟨by rw [layAll], by simp, ?_⟩
      rw [deepAll]
      omega
    rw [kidsC_eq h0] at e
    split at e
    · cases e
    rename_i t r he
    have hr := elemC_rest he
    obtain ⟨g1, g2, g3⟩ := elem_inv hb (fun y d js hy => kids_inv m y d js (by omega)) he
    split at e
    · cases e
    rename_i js hj
    cases e
    obtain ⟨k1, k2, k3⟩ := kids_inv m r deep js (by omega) (fun z hz => hb z (by rw [g1]; simp [hz])) hd hj
    refine ⟨?_, ?_, ?_⟩
    · rw [layAll, ← k1]
      exact g1
    · intro k hk
      rcases List.mem_cons.1 hk with rfl | hk
      · exact g2
      · exact k2 k hk
    · rw [deepAll]
      split <;> omega
theorem wt_le (t : T) : rightT t = true → wt t ≤ bytesT t := by
  refine T.each (p := fun t => rightT t = true → wt t ≤ bytesT t) ?_ t
  intro t ih hr
  obtain ⟨_, hbody, hkids, hks⟩ := right_parts hr
  have key : ∀ ks : List T, (∀ k ∈ ks, wt k ≤ bytesT k) → wtAll ks ≤ bytesAll ks := by
    intro ks
    induction ks with
    | nil => intro _; simp [wtAll, bytesAll]
    | cons k r ihr =>
      intro h
      rw [wtAll, bytesAll]
      have := h k (by simp)
      have := ihr (fun x hx => h x (by simp [hx]))
      omega
  have hk := key t.kids (fun k hm => ih k hm (hks k hm))
  have hl := lenLen_range (inT t)
  rw [wt_eq, bytesT_eq]
  unfold inT at hl ⊢
  cases hw : withinB t.tag
  · rw [hw] at hl
    rw [hkids hw]
    simp only [wtAll, Bool.false_eq_true, if_false] at hl ⊢
    omega
  · rw [hw] at hl
    rw [hbody hw]
    simp only [List.length_nil, if_true] at hl ⊢
    omega
theorem write_read {l : List Int} {t : T} (hb : ∀ z ∈ l, 0 ≤ z ∧ z ≤ 255) (h : readZ l = .ok t) : writeZ t = (l, 0) ∧ rightT t = true := by
  unfold readZ at h
  split at h
  · cases h
  rename_i hl
  split at h
  · cases h
  rename_i t' r e
  split at h
  · rename_i hr
    cases h
    subst hr
    obtain ⟨g1, g2, g3⟩ := elem_inv hb (fun y d js _ => kids_inv (y.length + 1) y d js (by omega)) e
    rw [List.append_nil] at g1
    have hll := lay_len t g2
    rw [← g1] at hll
    exact ⟨by rw [write_ok g2 (by omega) (by omega), ← g1], g2⟩
  · cases h
end Go.Proofs.YtgmefdmeeihgoaaGreatDoor
namespace Go.Proofs.YtgmefdmeeihgoaaGreatDoor
open Go.RowKit
set_option linter.unusedVariables false
set_option linter.unusedSimpArgs false
def arcsK (last : Int) : List Int := [1, 2, 840, 113549, 1, 1, last]
def oidT (last : Int) : T := .node 6 (oidB (arcsK last)) []
def algT (last : Int) : T := .node 48 [] [oidT last, .node 5 [] []]
def bitsT (zs : List Int) : T := .node 3 (0 :: zs) []
def sealT (n : T) (sig : List Int) : T := .node 48 [] [n, algT 11, bitsT sig]
theorem oid_is (last : Int) : oidZ (arcsK last) = (oidT last, 0) := by
  have h : OidOk (arcsK last) := by
    unfold OidOk arcsK
    simp
  unfold oidZ
  rw [if_pos h]
  rfl
theorem oid_len (last : Int) (h0 : 0 ≤ last) (h1 : last ≤ 1000) : (oidB (arcsK last)).length ≤ 60 := by
  have q : ∀ n : Nat, n < 2 ^ 64 → (sevenN n).length ≤ 10 := fun n h => seven_len h
  have e : oidB (arcsK last) = sevenN 42 ++ (sevenN 840 ++ (sevenN 113549 ++ (sevenN 1 ++ (sevenN 1 ++ sevenN last.toNat)))) := by
    unfold oidB arcsK sevens
    simp
  rw [e]
  simp only [List.length_append]
  have := q 42 (by omega)
  have := q 840 (by omega)
  have := q 113549 (by omega)
  have := q 1 (by omega)
  have := q last.toNat (by omega)
  omega
theorem wt_alg (last : Int) (h0 : 0 ≤ last) (h1 : last ≤ 1000) : wt (algT last) ≤ 63 := by
  have := oid_len last h0 h1
  unfold algT oidT
  simp only [wt, wtAll, List.length_nil]
  omega
theorem wt_bits (zs : List Int) : wt (bitsT zs) = 2 + zs.length := by
  unfold bitsT
  simp only [wt, wtAll, List.length_cons]
  omega
theorem wt_seal (n : T) (sig : List Int) : wt (sealT n sig) ≤ wt n + sig.length + 66 := by
  have h1 := wt_alg 11 (by omega) (by omega)
  have h2 := wt_bits sig
  unfold sealT
  simp only [wt, wtAll, List.length_nil]
  omega
theorem right_alg (last : Int) : rightT (algT last) = true := by
  unfold algT oidT
  simp [rightT, rightAll, tagB, withinB]
theorem right_bits (zs : List Int) : rightT (bitsT zs) = true := by
  unfold bitsT
  simp [rightT, rightAll, tagB, withinB]
theorem right_seal (n : T) (sig : List Int) : rightT (sealT n sig) = rightT n := by
  have h1 := right_alg 11
  have h2 := right_bits sig
  unfold sealT
  simp [rightT, rightAll, tagB, withinB, h1, h2]
theorem deep_alg (last : Int) : deepT (algT last) = 2 := by
  unfold algT oidT
  simp [deepT, deepAll, withinB]
theorem deep_bits (zs : List Int) : deepT (bitsT zs) = 1 := by
  unfold bitsT
  simp [deepT, withinB]
theorem write_of {t : T} (h : rightT t = true) (h1 : deepT t ≤ 32) (h2 : bytesT t ≤ 20000) : writeZ t = (layT t, 0) := write_ok h (by omega) (by omega)
theorem write_fit {t : T} (h : (writeZ t).2 = 0) : rightT t = true ∧ deepT t ≤ 32 ∧ bytesT t ≤ 20000 := by
  unfold writeZ at h
  split at h
  · simp at h
  · split at h
    · simp at h
    · split at h
      · simp at h
      · rename_i h1 h2 h3
        exact ⟨by simpa using h1, by omega, by omega⟩
theorem write_kid {t k : T} (h : (writeZ t).2 = 0) (hw : withinB t.tag = true) (hk : k ∈ t.kids) : (writeZ k).2 = 0 ∧ bytesT k < bytesT t := by
  obtain ⟨h1, h2, h3⟩ := write_fit h
  obtain ⟨_, _, _, hr⟩ := right_parts h1
  have hd : deepT k ≤ deepAll t.kids := by
    have : ∀ ks : List T, k ∈ ks → deepT k ≤ deepAll ks := by
      intro ks
      induction ks with
      | nil => intro h; simp at h
      | cons x r ih =>
        intro hm
        rw [deepAll]
        rcases List.mem_cons.1 hm with rfl | hm
        · split <;> omega
        · have := ih hm
          split <;> omega
    exact this _ hk
  have hb : bytesT k ≤ bytesAll t.kids := by
    have : ∀ ks : List T, k ∈ ks → bytesT k ≤ bytesAll ks := by
      intro ks
      induction ks with
      | nil => intro h; simp at h
      | cons x r ih =>
        intro hm
        rw [bytesAll]
        have := bytesAll_pos r
        have := (size_le x).1
        rcases List.mem_cons.1 hm with rfl | hm
        · omega
        · have := ih hm
          omega
    exact this _ hk
  rw [deepT_eq, hw, if_pos rfl] at h2
  have hb2 : bytesT t = bytesAll t.kids + 1 + lenLen (bytesAll t.kids) := by rw [bytesT_eq, inT, hw, if_pos rfl]
  have := lenLen_range (bytesAll t.kids)
  exact ⟨by rw [write_of (hr k hk) (by omega) (by omega)], by omega⟩
def openedZ (x : T) : Except Int (T × List Int × List Int) :=
  match x.kids with
  | n :: _ :: s :: _ => if (ofZ s).2.2 = 0 ∧ sameT (sealT n (ofZ s).1) x = true then .ok (n, (writeZ n).1, (ofZ s).1) else .error 2
  | _ => .error 2
def openZ (b : List Int) : Except Int (T × List Int × List Int) :=
  match readZ b with
  | .error z => .error z
  | .ok x => openedZ x
theorem opened_seal (n : T) (sig : List Int) : openedZ (sealT n sig) = .ok (n, (writeZ n).1, sig) := by
  have e : ofZ (bitsT sig) = (sig, 8 * (sig.length : Int), 0) := of_bits sig
  have k : (sealT n sig).kids = [n, algT 11, bitsT sig] := rfl
  unfold openedZ
  rw [k]
  simp [e, same_refl]
theorem opened_err {x : T} {z : Int} (h : openedZ x = .error z) : z = 2 := by
  unfold openedZ at h
  split at h
  · split at h <;> cases h
    rfl
  · cases h
    rfl
theorem open_seal {n : T} {sig : List Int} (h : (writeZ (sealT n sig)).2 = 0) : openZ (writeZ (sealT n sig)).1 = .ok (n, (writeZ n).1, sig) := by
  unfold openZ
  rw [read_write h]
  exact opened_seal n sig
end Go.Proofs.YtgmefdmeeihgoaaGreatDoor
namespace Go.Proofs.YtgmefdmeeihgoaaGreatDoor
open Go.RowKit
set_option linter.unusedVariables false
def GivesPart (zs : List Int) (w : World) (e : Ending) (w' : World) : Prop :=
  ∃ a c, e = .returned (.slice a zs.length c) ∧ Row w a zs.length zs ∧ (a = none → c = 0) ∧ zs.length ≤ c ∧ w' = w
theorem GivesPart.of {zs : List Int} {a : Option Addr} {m c : Nat} {w : World} (hr : Row w a m zs) (hnil : a = none → c = 0) (hc : m ≤ c) : GivesPart zs w (.returned (.slice a m c)) w := by
  obtain rfl := hr.1
  exact ⟨a, c, rfl, hr, hnil, hc, rfl⟩
theorem bare_nil_iff {zs : List Int} {k : Nat} (h : bareZ (zs.drop k) = bareZ zs) (hk : zs.length ≤ k) : bareZ zs = [] := by
  rw [← h, List.drop_of_length_le hk]
  rfl
def lenV : Value → Nat
  | .slice _ m _ => m
  | _ => 0
set_option maxHeartbeats 1000000 in
theorem trimByte_any (a : Option Addr) (n ca : Nat) (zs : List Int) (w : World) (hr : Row w a n zs) (hnc : n ≤ ca) (hn : n ≤ 1000000) (hnil : a = none → ca = 0) : Calls Tryz.prog 124 #[.slice a n ca, .int .u8 0] w (GivesPart (bareZ zs) w) := by
  have R0 := Lib.hid hr
  have NI := Lib.hid hnil
  have HL := Lib.hid hr.1
  clear hr hnil
  go_enter Tryz.func124, Tryz.ntmps124
  go_wp2_with fail
  go_loopw [0] (fun s wr => ∃ (k m : Nat) (b : Option Addr) (c : Nat), k + m = n ∧ s = .slice b m c ∧ wr = w ∧ Row w b m (zs.drop k) ∧ m ≤ c ∧ (b = none → c = 0) ∧ bareZ (zs.drop k) = bareZ zs) (fun s _ => lenV s)
  case atStart => exact ⟨0, n, a, ca, by omega, rfl, rfl, by simpa using R0.out, hnc, NI.out, by simp⟩
  case round =>
    obtain ⟨k, m, b, c, hk, rfl, rfl, hrb, hcb, hnb, hb⟩ := hrel
    have HB := Lib.hid hb
    have RB := Lib.hid hrb
    have NB := Lib.hid hnb
    clear hb hrb hnb
    have hkm : k + m ≤ n ∧ n ≤ k + m := by omega
    have HK := Lib.hid hk
    clear hk
    by_cases hlt : 0 < m
    · obtain ⟨bb, off, rfl, hbl, hc⟩ := RB.out.2.2 hlt
      have c0 := hc 0 hlt
      rw [Nat.add_zero] at c0
      have z0 := RB.out.byte 0
      have e0 : (zs.drop k)[0]?.getD 0 = zs[k]?.getD 0 := by rw [List.getElem?_drop, Nat.add_zero]
      rw [e0] at c0 z0
      have BD := Lib.hid (bare_drop (zs := zs) (k := k) (by rw [HL.out]; omega))
      have RW := Lib.hid (RB.out.rest 1 c (by omega) hcb)
      clear hc e0
      by_cases hz : zs[k]?.getD 0 = 0
      · have N : Hid (bareZ (zs.drop (k + 1)) = bareZ zs) := by
          rw [← HB.out, BD.out, if_pos hz]
          exact Lib.hid rfl
        have RX : Hid (Row wr (if c = 1 then some ⟨bb, off, none⟩ else some ⟨bb, off + 1, none⟩) (m - 1) (zs.drop (k + 1))) := by
          have h := RW.out
          rw [List.drop_drop, Option.map_some, Addr.add_lit] at h
          exact Lib.hid h
        rw [hz] at c0
        clear BD HB hz z0 RW
        by_cases hc1 : c = 1
        · subst hc1
          obtain rfl : m = 1 := by omega
          have R1 : Hid (Row wr (some ⟨bb, off, none⟩) 0 (zs.drop (k + 1))) := Lib.hid (by simpa using RX.out)
          clear RX
          go_wp2_with fail
          go_roundw
          case rel => exact ⟨k + 1, 0, _, _, by omega, by first | rfl | simp, trivial, R1.out, by omega, (fun h => by cases h), N.out⟩
          case measure => simp [lenV]
        · have R1 : Hid (Row wr (some ⟨bb, off + 1, none⟩) (m - 1) (zs.drop (k + 1))) := Lib.hid (by have := RX.out; rwa [if_neg hc1] at this)
          clear RX
          go_wp2_with fail
          go_roundw
          case rel => exact ⟨k + 1, m - 1, _, _, by omega, by first | rfl | simp, trivial, R1.out, by omega, (fun h => by cases h), N.out⟩
          case measure => simp [lenV]; omega
      · have F : Hid (bareZ zs = zs.drop k) := by
          rw [← HB.out, BD.out, if_neg hz]
          exact Lib.hid rfl
        have t0 : (zs[k]?.getD 0 == 0) = false := by simpa using hz
        have t1 : ((m : Int) == 0) = false := by simp; omega
        generalize zs[k]?.getD 0 = x at c0 z0 t0
        clear BD HB hz RW
        go_wp2_with fail
        go_ret
        rw [F.out]
        exact GivesPart.of RB.out NB.out hcb
    · obtain rfl : m = 0 := by omega
      have F : Hid (bareZ zs = []) := bare_nil_iff HB.out (by rw [HL.out]; omega)
      clear HB
      go_wp2_with fail
      go_ret
      rw [F.out]
      exact GivesPart.of (Row.nil _ _) (fun _ => rfl) (Nat.le_refl _)
set_option maxHeartbeats 1000000 in
set_option maxRecDepth 100000 in
theorem trim_any (a : Option Addr) (n ca : Nat) (zs : List Int) (w : World) (hr : Row w a n zs) (hnc : n ≤ ca) (hn : n ≤ 1000000) (hnil : a = none → ca = 0) : Calls Tryz.prog 107 #[.slice a n ca, .string ⟨#[0]⟩] w (GivesPart (bareZ zs) w) := by
  have R0 := Lib.hid hr
  have CT := Lib.hid (trimByte_any a n ca zs w hr hnc hn hnil)
  have HL := Lib.hid hr.1
  clear hr hnil
  go_enter Tryz.func107, Tryz.ntmps107
  by_cases h0 : n = 0
  · subst h0
    have F : Hid (bareZ zs = []) := by rw [List.eq_nil_of_length_eq_zero HL.out]; exact Lib.hid rfl
    clear CT HL
    go_wp2_with fail
    go_ret
    rw [F.out]
    exact GivesPart.of (Row.nil _ _) (fun _ => rfl) (Nat.le_refl _)
  have t0 : ((n : Int) == 0) = false := by simp; omega
  go_wp2_with fail
  refine CT.out.mono ?_
  rintro e w2 ⟨b, c, rfl, hr2, hn2, hc2, rfl⟩
  have G2 := Lib.hid (GivesPart.of hr2 hn2 hc2)
  clear hr2 hn2 hc2 CT
  go_wp2_with fail
  go_ret
  exact G2.out
theorem bareW_any (a : Option Addr) (n ca : Nat) (zs : List Int) (w : World) (hr : Row w a n zs) (hnc : n ≤ ca) (hn : n ≤ 1000000) (hnil : a = none → ca = 0) : Calls Tryz.prog 71 #[.slice a n ca] w (GivesPart (bareZ zs) w) := by
  have CT := Lib.hid (trim_any a n ca zs w hr hnc hn hnil)
  clear hr hnil
  go_enter Tryz.func71, Tryz.ntmps71
  go_wp2_with fail
  refine CT.out.mono ?_
  rintro e w2 ⟨b, c, rfl, hr2, hn2, hc2, rfl⟩
  have G2 := Lib.hid (GivesPart.of hr2 hn2 hc2)
  clear hr2 hn2 hc2 CT
  go_wp2_with fail
  go_ret
  exact G2.out
theorem equal_bytes {xs ys : List Int} (hx : ∀ x ∈ xs, 0 ≤ x ∧ x ≤ 255) (hy : ∀ x ∈ ys, 0 ≤ x ∧ x ≤ 255) : ((strOfNums xs).toList == (strOfNums ys).toList) = decide (xs = ys) := by
  by_cases h : xs = ys
  · rw [h, decide_eq_true rfl]
    exact beq_self_eq_true _
  · rw [decide_eq_false h]
    have : (strOfNums xs).toList ≠ (strOfNums ys).toList := fun e => h (by rw [← nums_str xs hx, ← nums_str ys hy, bytes_ext e])
    exact beq_false_of_ne this
set_option maxHeartbeats 1000000 in
theorem equal_any (a1 a2 : Option Addr) (n1 n2 c1 c2 : Nat) (xs ys : List Int) (w : World) (hx : Row w a1 n1 xs) (hy : Row w a2 n2 ys) : Calls Tryz.prog 96 #[.slice a1 n1 c1, .slice a2 n2 c2] w fun e w' => e = .returned (.bool (decide (xs = ys))) ∧ w' = w := by
  have cv1 := conv_at c1 hx
  have cv2 := conv_at c2 hy
  have E := Lib.hid (equal_bytes hx.2.1 hy.2.1)
  clear hx hy
  go_enter Tryz.func96, Tryz.ntmps96
  go_wp2_with fail
  go_ret
  exact ⟨ret_bool E.out, rfl⟩
end Go.Proofs.YtgmefdmeeihgoaaGreatDoor
namespace Go.Proofs.YtgmefdmeeihgoaaGreatDoor
open Go.RowKit
set_option linter.unusedVariables false
def GivesRowQ (zs : List Int) (w : World) (e : Ending) (w' : World) : Prop :=
  ∃ a c, e = .returned (.slice a zs.length c) ∧ Row w' a zs.length zs ∧ (a = none → c = 0) ∧ zs.length ≤ c ∧ Below w.heap.size w w'
theorem GivesRowQ.of {zs : List Int} {a : Option Addr} {m c : Nat} {w w' : World} (hr : Row w' a m zs) (hnil : a = none → c = 0) (hc : m ≤ c) (hb : Below w.heap.size w w') : GivesRowQ zs w (.returned (.slice a m c)) w' := by
  obtain rfl := hr.1
  exact ⟨a, c, rfl, hr, hnil, hc, hb⟩
theorem Out.gives {w w' : World} {V : Value} {zs : List Int} (h : Out w w' V zs) (hb : ∀ x ∈ zs, 0 ≤ x ∧ x ≤ 255) : GivesRowQ zs w (.returned V) w' := by
  have h2 := h.2
  obtain ⟨a, c, rfl, hr⟩ := h.row hb
  exact ⟨a, c, rfl, hr, h.nilc, own_cap h.1, h2⟩
set_option maxHeartbeats 1000000 in
theorem clone_any (a : Option Addr) (n ca : Nat) (zs : List Int) (w : World) (hr : Row w a n zs) (hnc : n ≤ ca) (hn : n ≤ 1000000) (hnil : a = none → ca = 0) : Calls Tryz.prog 90 #[.slice a n ca] w (GivesRowQ zs w) := by
  have q22 : ∀ (w : World) (a : Option Addr) (n c n' c' : Nat), (binOp .eql 22 (.slice a n c) (.slice none n' c')).run Tryz.prog w = .ok (.bool a.isNone) w := fun w a n c n' c' => Lib.run_eql_slice_nil w _ _ a n c n' c' Tryz.underlying22
  have HB := Lib.hid hr.2.1
  have RX := Lib.hid (hr.below ((Below.refl w.heap.size w).alloc (Nat.le_refl _) (.cells #[] 5)))
  have hl := hr.1
  have R0 := Lib.hid hr
  clear hr
  go_enter Tryz.func90, Tryz.ntmps90
  cases a with
  | none =>
    obtain rfl := hnil rfl
    obtain rfl : n = 0 := by omega
    clear hl hnil
    go_wp2_with fail
    go_ret
    exact GivesRowQ.of R0.out (fun _ => rfl) (Nat.le_refl _) (Below.refl _ _)
  | some b =>
    clear hl hnil
    go_wp2_with (at_builtin; go_must (refine out_append (W0 := w) (L := []) (zs := zs) rfl _ _ rfl rfl (out_zero w) rfl RX.out (fun e => by cases e) (by simp; omega) ?_; intro V1 w1 ho1; rw [List.nil_append] at ho1; have HO := Lib.hid ho1; clear ho1))
    go_ret
    exact HO.out.gives HB.out
set_option maxHeartbeats 1000000 in
theorem big_any (a : Option Addr) (n ca : Nat) (zs : List Int) (w : World) (hr : Row w a n zs) (hnc : n ≤ ca) (hn : n ≤ 100000) (hnil : a = none → ca = 0) : Calls Tryz.prog 40 #[.slice a n ca] w (GivesNode (bigT zs) w) := by
  have hby := hr.2.1
  have hbb : ∀ x ∈ bareZ zs, 0 ≤ x ∧ x ≤ 255 := fun x hx => hby x (bare_mem hx)
  have hle := bare_le zs
  have hl := hr.1
  have S0 := Lib.hid (RB.start w)
  have CI := Lib.hid (bareW_any a n ca zs _ (hr.below S0.out.below) hnc (by omega) hnil)
  have GB := Lib.hid (big_byte hby)
  have GL := Lib.hid (big_le zs)
  have HBB := Lib.hid hbb
  clear hr hnil hby hbb
  go_enter Tryz.func40, Tryz.ntmps40
  go_wp2_with fail
  refine CI.out.mono ?_
  rintro e w2 ⟨b2, c2, rfl, hr2, hn2, hc2, rfl⟩
  have W2 : Hid (w.heap.size < (w.alloc (.cells #[.int .i64 0, .slice none 0 0, .slice none 0 0] 28)).heap.size) := by simp [Hid]
  generalize w.alloc (.cells #[.int .i64 0, .slice none 0 0, .slice none 0 0] 28) = w2 at *
  have R2 := Lib.hid hr2
  have N2 := Lib.hid hn2
  clear hr2 hn2 CI
  by_cases h0 : bareZ zs = []
  · have F : Hid (bigZ zs = [0] ++ bareZ zs) := if_pos (.inl h0)
    have L0 : Hid ((bareZ zs).length = 0) := by rw [h0]; exact Lib.hid rfl
    have t0 : (((bareZ zs).length : Int) == 0) = true := by rw [L0.out]; rfl
    have O0 := Lib.hid (out_nil (w2.alloc (.cells #[.int .u8 0] 5)) |>.wider ((Below.refl w2.heap.size w2).alloc (Nat.le_refl _) _))
    have R3 := Lib.hid (row_const w2 [0] (0, 0) (by intro x hx; simp at hx; omega))
    clear h0
    generalize bareZ zs = bz at *
    go_wp2_with (at_builtin; first
      | (refine out_append (W0 := w2) (L := []) (zs := [0]) rfl _ _ rfl rfl O0.out rfl R3.out (fun e => by cases e) (by simp) ?_; intro V3 w3 ho3; rw [List.nil_append] at ho3; have O3 := Lib.hid ho3; have R5 := Lib.hid (R2.out.below ho3.2); clear ho3)
      | (go_must (refine out_append (L := [0]) (zs := bz) rfl _ _ rfl rfl O3.out rfl R5.out N2.out (by simp; omega) ?_; intro V4 w4 ho4; have O4 := Lib.hid ho4; have S4 := Lib.hid (S0.out.go ho4.2); obtain ⟨p0, p1, p2, f0, f1, f2⟩ := S4.out.box.six; rw [← F.out] at ho4 O4; obtain ⟨b4, c4, rfl, hr4⟩ := ho4.row GB.out; clear ho4)))
    exact gives_leaf rfl rfl S4.out O4.out W2.out rfl GB.out (by have := GL.out; omega)
  · have L0 : Hid (0 < (bareZ zs).length) := List.length_pos_iff.2 h0
    have t0 : (((bareZ zs).length : Int) == 0) = false := by simp; exact h0
    obtain ⟨b, off, rfl, hbl, hc⟩ := R2.out.2.2 L0.out
    have c0 := hc 0 L0.out
    rw [Nat.add_zero] at c0
    have z0 := R2.out.byte 0
    clear hc
    by_cases h8 : 128 ≤ (bareZ zs)[(0 : Nat)]?.getD 0
    · have F : Hid (bigZ zs = [0] ++ bareZ zs) := if_pos (.inr h8)
      have O0 := Lib.hid (out_nil (w2.alloc (.cells #[.int .u8 0] 5)) |>.wider ((Below.refl w2.heap.size w2).alloc (Nat.le_refl _) _))
      have R3 := Lib.hid (row_const w2 [0] (0, 0) (by intro x hx; simp at hx; omega))
      clear h0
      generalize (bareZ zs)[(0 : Nat)]?.getD 0 = x0 at c0 z0 h8
      generalize bareZ zs = bz at *
      go_wp2_with (at_builtin; first
        | (refine out_append (W0 := w2) (L := []) (zs := [0]) rfl _ _ rfl rfl O0.out rfl R3.out (fun e => by cases e) (by simp) ?_; intro V3 w3 ho3; rw [List.nil_append] at ho3; have O3 := Lib.hid ho3; have R5 := Lib.hid (R2.out.below ho3.2); clear ho3)
        | (go_must (refine out_append (L := [0]) (zs := bz) rfl _ _ rfl rfl O3.out rfl R5.out N2.out (by simp; omega) ?_; intro V4 w4 ho4; have O4 := Lib.hid ho4; have S4 := Lib.hid (S0.out.go ho4.2); obtain ⟨p0, p1, p2, f0, f1, f2⟩ := S4.out.box.six; rw [← F.out] at ho4 O4; obtain ⟨b4, c4, rfl, hr4⟩ := ho4.row GB.out; clear ho4)))
      exact gives_leaf rfl rfl S4.out O4.out W2.out rfl GB.out (by have := GL.out; omega)
    · have F : Hid (bigZ zs = bareZ zs) := if_neg (by rintro (h | h); exact h0 h; exact h8 h)
      have O0 := Lib.hid (out_nil w2)
      generalize (bareZ zs)[(0 : Nat)]?.getD 0 = x0 at c0 z0 h8
      clear h0
      generalize bareZ zs = bz at *
      go_wp2_with (at_builtin; go_must (refine out_append (W0 := w2) (L := []) (zs := bz) rfl _ _ rfl rfl O0.out rfl R2.out N2.out (by simp; omega) ?_; intro V4 w4 ho4; rw [List.nil_append] at ho4; have O4 := Lib.hid ho4; have S4 := Lib.hid (S0.out.go ho4.2); obtain ⟨p0, p1, p2, f0, f1, f2⟩ := S4.out.box.six; rw [← F.out] at ho4 O4; obtain ⟨b4, c4, rfl, hr4⟩ := ho4.row GB.out; clear ho4))
      exact gives_leaf rfl rfl S4.out O4.out W2.out rfl GB.out (by have := GL.out; omega)
set_option maxHeartbeats 1000000 in
theorem int_any (n : Int) (w : World) (h0 : 0 ≤ n) (h1 : n ≤ 18446744073709551615) : Calls Tryz.prog 41 #[.int .u64 n] w (GivesNode (intT n) w) := by
  have S0 := Lib.hid (RB.start w)
  have hml := leastM_le n
  go_enter Tryz.func41, Tryz.ntmps41
  go_wp2_with fail
  refine (least_any n _ h0 h1).mono ?_
  intro e w2 h2
  obtain ⟨b, off, c, rfl, hr, hb, hc⟩ := h2.is h0 h1
  have S2 := Lib.hid (S0.out.go hb)
  have CI := Lib.hid (big_any (some ⟨b, off, none⟩) (leastM n) c (leastZ n) w2 hr hc (by omega) (fun e => by cases e))
  clear h2 hr hb S0
  generalize leastM n = m at CI hc hml
  go_wp2_with fail
  refine CI.out.mono ?_
  rintro e w3 ⟨A, n3, c3, K, m3, d3, rfl, hin, hb3⟩
  have S3 := Lib.hid (S2.out.go hb3)
  have IN := Lib.hid hin
  have W2 : Hid (w.heap.size < w2.heap.size) := S2.out.box.lt
  obtain ⟨p0, p1, p2, f0, f1, f2⟩ := S3.out.box.six
  clear hin hb3 CI S2
  go_wp2_with fail
  exact gives_copy rfl rfl S3.out IN.out W2.out
end Go.Proofs.YtgmefdmeeihgoaaGreatDoor
namespace Go.Proofs.YtgmefdmeeihgoaaGreatDoor
open Go.RowKit
set_option linter.unusedVariables false
def okE (X : T × Int) (t : T) : Bool := decide (X.2 = 0 ∧ sameT X.1 t = true)
def GivesExact (ok : Bool) (xv zero : Value) (w : World) (e : Ending) (w' : World) : Prop :=
  e = .returned (.tuple #[if ok = true then xv else zero, .int .i64 (if ok = true then 0 else 2)]) ∧ Below w.heap.size w w'
theorem GivesExact.no {ok : Bool} {xv zero : Value} {w w' : World} (h : ok = false) (hb : Below w.heap.size w w') : GivesExact ok xv zero w (.returned (.tuple #[zero, .int .i64 2])) w' := by subst h; exact ⟨rfl, hb⟩
theorem GivesExact.yes {ok : Bool} {xv zero : Value} {w w' : World} (h : ok = true) (hb : Below w.heap.size w w') : GivesExact ok xv zero w (.returned (.tuple #[xv, .int .i64 0])) w' := by subst h; exact ⟨rfl, hb⟩
theorem GivesExact.ways {ok : Bool} {xv zero : Value} {w w' : World} {e : Ending} (h : GivesExact ok xv zero w e w') : (ok = true ∧ e = .returned (.tuple #[xv, .int .i64 0]) ∧ Below w.heap.size w w') ∨ (ok = false ∧ e = .returned (.tuple #[zero, .int .i64 2]) ∧ Below w.heap.size w w') := by
  obtain ⟨h, hb⟩ := h
  cases ok
  · exact .inr ⟨rfl, h, hb⟩
  · exact .inl ⟨rfl, h, hb⟩
theorem same_iff (x y : T) : sameT x y = true ↔ x = y := ⟨same_is x y, fun h => by rw [h]; exact same_refl y⟩
theorem ok_iff (X : T × Int) (t : T) : okE X t = true ↔ X.2 = 0 ∧ X.1 = t := by unfold okE; rw [decide_eq_true_iff, same_iff]
theorem ok_iff_not (X : T × Int) (t : T) : okE X t = false ↔ ¬ (X.2 = 0 ∧ X.1 = t) := by rw [← ok_iff]; simp
theorem ok_err {x t : T} {er : Int} (h : ¬ er = 0) : okE (x, er) t = false := decide_eq_false (fun k => h k.1)
theorem ok_ne {x t : T} {er : Int} (h : ¬ x = t) : okE (x, er) t = false := decide_eq_false (fun k => h (same_is _ _ k.2))
theorem ok_eq {x t : T} (h : x = t) : okE (x, 0) t = true := decide_eq_true ⟨rfl, by rw [h]; exact same_refl t⟩
theorem T.In.rowk {w : World} {t : T} {z : Value} {A : Option Addr} {n c : Nat} {K : Option Addr} {m d : Nat} (h : t.In w (.agg #[z, .slice A n c, .slice K m d])) : Row w A n t.body ∧ t.kids.length = m := by
  obtain ⟨A1, n1, c1, K1, m1, d1, e, _, hr, _, _, hm, _⟩ := h.open
  simp only [Value.agg.injEq] at e
  have e' := congrArg Array.toList e
  simp only [List.cons.injEq, and_true, Value.slice.injEq] at e'
  obtain ⟨_, ⟨rfl, rfl, rfl⟩, rfl, rfl, rfl⟩ := e'
  exact ⟨hr, hm⟩
theorem leaf_eq {x t : T} (hx : x.kids = []) (h1 : x.tag = t.tag) (h2 : x.body = t.body) (h3 : t.kids = []) : x = t := by
  obtain ⟨a, b, c⟩ := x
  obtain ⟨a', b', c'⟩ := t
  simp only [T.kids, T.tag, T.body] at *
  subst hx h1 h2 h3
  rfl
set_option maxHeartbeats 2000000 in
set_option maxRecDepth 100000 in
theorem exact_u64 (t : T) (v : Value) (w : World) (X : T × Int) (x0 : Int) (hX : X.1.kids = []) (hin : t.In w v) (hF : ∀ W, Below w.heap.size w W → Calls Tryz.prog 95 #[.int .u64 x0] W (HasNodeE X W)) :
    Calls Tryz.prog 94 #[v, .int .u64 x0, .func (.func 95) #[] #[]] w (GivesExact (okE X t) (.int .u64 x0) (.int .u64 0) w) := by
  obtain ⟨A, n, c, K, m, d, rfl, hw, hr, hn, hc, hm, hm', hks⟩ := hin.open
  have BX := Lib.hid (Box.start hin)
  have HF := Lib.hid hF
  have HM := Lib.hid hm
  clear hr hks hc hin hm' hw hn hF hm
  go_enter Tryz.func94, Tryz.ntmps94
  generalize hw2 : w.alloc (.cells #[.int .i64 t.tag, .slice A n c, .slice K m d] 28) = w2 at *
  go_wp2_with fail
  refine (HF.out _ BX.out.below).mono ?_
  rintro e w3 ⟨A3, n3, c3, K3, m3, d3, rfl, hin3, hb3⟩
  have P4 := Lib.hid (Box.start hin3)
  have B4 := Lib.hid ((BX.out.go hb3).go P4.out.below)
  clear hb3 hin3 BX HF hw2
  obtain ⟨x, er⟩ := X
  simp only at P4 B4 hX ⊢
  obtain ⟨p0, p1, p2⟩ := P4.out.cells
  obtain ⟨g0, g1, g2⟩ := B4.out.cells
  have HX := Lib.hid hX
  clear hX
  by_cases he : er = 0
  rotate_left
  · have F := ok_err (x := x) (t := t) he
    have t0 : (er != 0) = true := by simpa using he
    have F := Lib.hid F
    clear he
    clear p0 p1 p2 g0 g1 g2
    go_wp2_with fail
    go_ret2
    exact GivesExact.no F.out B4.out.below
  subst he
  by_cases ht : x.tag = t.tag
  rotate_left
  · have F := Lib.hid (ok_ne (x := x) (t := t) (er := 0) (fun e => ht (by rw [e])))
    have t1 : (x.tag != t.tag) = true := by simpa using ht
    clear ht
    go_wp2_with fail
    go_ret2
    exact GivesExact.no F.out B4.out.below
  have HT := Lib.hid ht
  have t1 : (x.tag != t.tag) = false := by simpa using ht
  clear ht
  have CE := Lib.hid (equal_any A3 A n3 n c3 c x.body t.body _ P4.out.has.rowk.1 B4.out.has.rowk.1)
  go_wp2_with fail
  refine CE.out.mono ?_
  rintro e w5 ⟨rfl, rfl⟩
  clear CE
  by_cases hb : x.body = t.body
  rotate_left
  · have F := Lib.hid (ok_ne (x := x) (t := t) (er := 0) (fun e => hb (by rw [e])))
    have t2 : decide (x.body = t.body) = false := decide_eq_false hb
    rw [t2]
    clear hb t2
    go_wp2_with fail
    go_ret2
    exact GivesExact.no F.out B4.out.below
  have HB := Lib.hid hb
  have t2 : decide (x.body = t.body) = true := decide_eq_true hb
  rw [t2]
  clear hb t2
  by_cases hm0 : m = 0
  · subst hm0
    have F := Lib.hid (ok_eq (x := x) (t := t) (leaf_eq HX.out HT.out HB.out (List.eq_nil_of_length_eq_zero HM.out)))
    go_wp2_with fail
    go_ret2
    exact GivesExact.yes F.out B4.out.below
  · have F := Lib.hid (ok_ne (x := x) (t := t) (er := 0) (fun e => hm0 (by rw [← HM.out, ← e, HX.out]; rfl)))
    have t3 : ((m : Int) != 0) = true := by simpa using hm0
    clear hm0
    go_wp2_with fail
    go_ret2
    exact GivesExact.no F.out B4.out.below
set_option maxHeartbeats 2000000 in
set_option maxRecDepth 100000 in
theorem exact_bytes (t : T) (v : Value) (w : World) (X : T × Int) (xa : Option Addr) (xn xc : Nat) (hX : X.1.kids = []) (hin : t.In w v) (hF : ∀ W, Below w.heap.size w W → Calls Tryz.prog 92 #[.slice xa xn xc] W (HasNodeE X W)) :
    Calls Tryz.prog 91 #[v, .slice xa xn xc, .func (.func 92) #[] #[]] w (GivesExact (okE X t) (.slice xa xn xc) (.slice none 0 0) w) := by
  obtain ⟨A, n, c, K, m, d, rfl, hw, hr, hn, hc, hm, hm', hks⟩ := hin.open
  have BX := Lib.hid (Box.start hin)
  have HF := Lib.hid hF
  have HM := Lib.hid hm
  clear hr hks hc hin hm' hw hn hF hm
  go_enter Tryz.func91, Tryz.ntmps91
  generalize hw2 : w.alloc (.cells #[.int .i64 t.tag, .slice A n c, .slice K m d] 28) = w2 at *
  go_wp2_with fail
  refine (HF.out _ BX.out.below).mono ?_
  rintro e w3 ⟨A3, n3, c3, K3, m3, d3, rfl, hin3, hb3⟩
  have P4 := Lib.hid (Box.start hin3)
  have B4 := Lib.hid ((BX.out.go hb3).go P4.out.below)
  clear hb3 hin3 BX HF hw2
  obtain ⟨x, er⟩ := X
  simp only at P4 B4 hX ⊢
  obtain ⟨p0, p1, p2⟩ := P4.out.cells
  obtain ⟨g0, g1, g2⟩ := B4.out.cells
  have HX := Lib.hid hX
  clear hX
  by_cases he : er = 0
  rotate_left
  · have F := ok_err (x := x) (t := t) he
    have t0 : (er != 0) = true := by simpa using he
    have F := Lib.hid F
    clear he
    clear p0 p1 p2 g0 g1 g2
    go_wp2_with fail
    go_ret2
    exact GivesExact.no F.out B4.out.below
  subst he
  by_cases ht : x.tag = t.tag
  rotate_left
  · have F := Lib.hid (ok_ne (x := x) (t := t) (er := 0) (fun e => ht (by rw [e])))
    have t1 : (x.tag != t.tag) = true := by simpa using ht
    clear ht
    go_wp2_with fail
    go_ret2
    exact GivesExact.no F.out B4.out.below
  have HT := Lib.hid ht
  have t1 : (x.tag != t.tag) = false := by simpa using ht
  clear ht
  have CE := Lib.hid (equal_any A3 A n3 n c3 c x.body t.body _ P4.out.has.rowk.1 B4.out.has.rowk.1)
  go_wp2_with fail
  refine CE.out.mono ?_
  rintro e w5 ⟨rfl, rfl⟩
  clear CE
  by_cases hb : x.body = t.body
  rotate_left
  · have F := Lib.hid (ok_ne (x := x) (t := t) (er := 0) (fun e => hb (by rw [e])))
    have t2 : decide (x.body = t.body) = false := decide_eq_false hb
    rw [t2]
    clear hb t2
    go_wp2_with fail
    go_ret2
    exact GivesExact.no F.out B4.out.below
  have HB := Lib.hid hb
  have t2 : decide (x.body = t.body) = true := decide_eq_true hb
  rw [t2]
  clear hb t2
  by_cases hm0 : m = 0
  · subst hm0
    have F := Lib.hid (ok_eq (x := x) (t := t) (leaf_eq HX.out HT.out HB.out (List.eq_nil_of_length_eq_zero HM.out)))
    go_wp2_with fail
    go_ret2
    exact GivesExact.yes F.out B4.out.below
  · have F := Lib.hid (ok_ne (x := x) (t := t) (er := 0) (fun e => hm0 (by rw [← HM.out, ← e, HX.out]; rfl)))
    have t3 : ((m : Int) != 0) = true := by simpa using hm0
    clear hm0
    go_wp2_with fail
    go_ret2
    exact GivesExact.no F.out B4.out.below
set_option maxHeartbeats 2000000 in
set_option maxRecDepth 100000 in
theorem exact_of (t : T) (v : Value) (w : World) (X : T × Int) (xa : Option Addr) (xn xc : Nat) (xp : Addr) (hX : X.1.kids = []) (hin : t.In w v) (hF : ∀ W, Below w.heap.size w W → Calls Tryz.prog 118 #[.slice xa xn xc, .pointer (some xp)] W (HasNodeE X W)) :
    Calls Tryz.prog 91 #[v, .slice xa xn xc, .func (.func 118) #[] #[.pointer (some xp)]] w (GivesExact (okE X t) (.slice xa xn xc) (.slice none 0 0) w) := by
  obtain ⟨A, n, c, K, m, d, rfl, hw, hr, hn, hc, hm, hm', hks⟩ := hin.open
  have BX := Lib.hid (Box.start hin)
  have HF := Lib.hid hF
  have HM := Lib.hid hm
  clear hr hks hc hin hm' hw hn hF hm
  go_enter Tryz.func91, Tryz.ntmps91
  generalize hw2 : w.alloc (.cells #[.int .i64 t.tag, .slice A n c, .slice K m d] 28) = w2 at *
  go_wp2_with fail
  refine (HF.out _ BX.out.below).mono ?_
  rintro e w3 ⟨A3, n3, c3, K3, m3, d3, rfl, hin3, hb3⟩
  have P4 := Lib.hid (Box.start hin3)
  have B4 := Lib.hid ((BX.out.go hb3).go P4.out.below)
  clear hb3 hin3 BX HF hw2
  obtain ⟨x, er⟩ := X
  simp only at P4 B4 hX ⊢
  obtain ⟨p0, p1, p2⟩ := P4.out.cells
  obtain ⟨g0, g1, g2⟩ := B4.out.cells
  have HX := Lib.hid hX
  clear hX
  by_cases he : er = 0
  rotate_left
  · have F := ok_err (x := x) (t := t) he
    have t0 : (er != 0) = true := by simpa using he
    have F := Lib.hid F
    clear he
    clear p0 p1 p2 g0 g1 g2
    go_wp2_with fail
    go_ret2
    exact GivesExact.no F.out B4.out.below
  subst he
  by_cases ht : x.tag = t.tag
  rotate_left
  · have F := Lib.hid (ok_ne (x := x) (t := t) (er := 0) (fun e => ht (by rw [e])))
    have t1 : (x.tag != t.tag) = true := by simpa using ht
    clear ht
    go_wp2_with fail
    go_ret2
    exact GivesExact.no F.out B4.out.below
  have HT := Lib.hid ht
  have t1 : (x.tag != t.tag) = false := by simpa using ht
  clear ht
  have CE := Lib.hid (equal_any A3 A n3 n c3 c x.body t.body _ P4.out.has.rowk.1 B4.out.has.rowk.1)
  go_wp2_with fail
  refine CE.out.mono ?_
  rintro e w5 ⟨rfl, rfl⟩
  clear CE
  by_cases hb : x.body = t.body
  rotate_left
  · have F := Lib.hid (ok_ne (x := x) (t := t) (er := 0) (fun e => hb (by rw [e])))
    have t2 : decide (x.body = t.body) = false := decide_eq_false hb
    rw [t2]
    clear hb t2
    go_wp2_with fail
    go_ret2
    exact GivesExact.no F.out B4.out.below
  have HB := Lib.hid hb
  have t2 : decide (x.body = t.body) = true := decide_eq_true hb
  rw [t2]
  clear hb t2
  by_cases hm0 : m = 0
  · subst hm0
    have F := Lib.hid (ok_eq (x := x) (t := t) (leaf_eq HX.out HT.out HB.out (List.eq_nil_of_length_eq_zero HM.out)))
    go_wp2_with fail
    go_ret2
    exact GivesExact.yes F.out B4.out.below
  · have F := Lib.hid (ok_ne (x := x) (t := t) (er := 0) (fun e => hm0 (by rw [← HM.out, ← e, HX.out]; rfl)))
    have t3 : ((m : Int) != 0) = true := by simpa using hm0
    clear hm0
    go_wp2_with fail
    go_ret2
    exact GivesExact.no F.out B4.out.below
end Go.Proofs.YtgmefdmeeihgoaaGreatDoor
namespace Go.Proofs.YtgmefdmeeihgoaaGreatDoor
open Go.RowKit
set_option linter.unusedVariables false
theorem gives_copye {w W W0 : World} {tmps : Array Value} {fn : Func} {p u : Tmp} {x : T × Int} {er : Int} {A : Option Addr} {n c : Nat} {K : Option Addr} {m d : Nat} (hx : x.2 = er) (hf : fn.results = #[.cell p 28, .tmp u]) (hp : tmps.getD p undef = .pointer (some ⟨w.heap.size, 0, none⟩)) (hu : tmps.getD u undef = .int .i64 er) (hrb : RB w W) (hin : x.1.InP (W0.heap.size ≤ ·) W (.agg #[.int .i64 x.1.tag, .slice A n c, .slice K m d])) (hW : w.heap.size < W0.heap.size) :
    bodyPost Tryz.prog fn (GivesNodeE x w) .ret { tmps := tmps, defers := [] } (boxed w W (.int .i64 x.1.tag) (.slice A n c) (.slice K m d)) := by
  obtain ⟨h1, h2⟩ := hrb.boxed (.int .i64 x.1.tag) (.slice A n c) (.slice K m d)
  have h := results_nodee (P := Tryz.prog) hf tmps (boxed w W (.int .i64 x.1.tag) (.slice A n c) (.slice K m d)) w.heap.size 28 #[.int .i64 x.1.tag, .slice A n c, .slice K m d] (0, 0) _ hp h1 Tryz.underlying28 rfl Tryz.sizeNode3
  rw [hu, ← hx] at h
  exact bodyPost_ret h rfl ⟨A, n, c, K, m, d, rfl, boxed_in hin hW _ _ _, h2⟩
set_option maxHeartbeats 1000000 in
theorem uint1_any (x : Int) (w : World) (h0 : 0 ≤ x) (h1 : x ≤ 18446744073709551615) : Calls Tryz.prog 95 #[.int .u64 x] w (GivesNodeE (intT x, 0) w) := by
  have S0 := Lib.hid (RB.start w)
  go_enter Tryz.func95, Tryz.ntmps95
  go_wp2_with fail
  refine (int_any x _ h0 h1).mono ?_
  rintro e w3 ⟨A, n3, c3, K, m3, d3, rfl, hin, hb3⟩
  have S3 := Lib.hid (S0.out.go hb3)
  have IN := Lib.hid hin
  have W2 := Lib.hid (S0.out.box.lt)
  obtain ⟨p0, p1, p2, f0, f1, f2⟩ := S3.out.box.six
  clear hin hb3
  go_wp2_with fail
  exact gives_copye (x := (intT x, 0)) rfl rfl rfl rfl S3.out IN.out W2.out
set_option maxHeartbeats 1000000 in
theorem great1_any (a : Option Addr) (n ca : Nat) (zs : List Int) (w : World) (hr : Row w a n zs) (hnc : n ≤ ca) (hn : n ≤ 100000) (hnil : a = none → ca = 0) : Calls Tryz.prog 92 #[.slice a n ca] w (GivesNodeE (bigT zs, 0) w) := by
  have S0 := Lib.hid (RB.start w)
  have CI := Lib.hid (big_any a n ca zs _ (hr.below S0.out.below) hnc hn hnil)
  clear hr hnil
  go_enter Tryz.func92, Tryz.ntmps92
  go_wp2_with fail
  refine CI.out.mono ?_
  rintro e w3 ⟨A, n3, c3, K, m3, d3, rfl, hin, hb3⟩
  have S3 := Lib.hid (S0.out.go hb3)
  have IN := Lib.hid hin
  have W2 := Lib.hid (S0.out.box.lt)
  obtain ⟨p0, p1, p2, f0, f1, f2⟩ := S3.out.box.six
  clear hin hb3 CI
  go_wp2_with fail
  exact gives_copye (x := (bigT zs, 0)) rfl rfl rfl rfl S3.out IN.out W2.out
set_option maxHeartbeats 2000000 in
set_option maxRecDepth 100000 in
theorem uint_any (t : T) (v : Value) (w : World) (hin : t.In w v) (hwt : t.body.length ≤ 1000000) : Calls Tryz.prog 59 #[v] w (GivesUint (uintZ t) w) := by
  obtain ⟨A, n, c, K, m, d, rfl, hw, hr, hn, hc, hm, hm', hks⟩ := hin.open
  have B2 := Lib.hid (Box.start hin)
  have GZ : Hid (uintZ t = if (numZ 0 t.body).2 = true ∧ sameT t (intT (numZ 0 t.body).1) = true then ((numZ 0 t.body).1, 0) else (0, 2)) := rfl
  have NR := numZ_range t.body hr.2.1 0 (by omega) (by omega)
  have hl := hr.1
  have CN := Lib.hid (num_any A n c t.body _ (hr.below B2.out.below) (by omega))
  obtain ⟨g0, g1, g2⟩ := B2.out.cells
  clear hr hks hc hin hm hm' hw hn hl
  generalize (numZ 0 t.body).1 = x at *
  generalize hz : (numZ 0 t.body).2 = is at *
  clear hz
  go_enter Tryz.func59, Tryz.ntmps59
  generalize hw2 : w.alloc (.cells #[.int .i64 t.tag, .slice A n c, .slice K m d] 28) = w2 at *
  go_wp2_with fail
  refine CN.out.mono ?_
  rintro e w3 ⟨rfl, rfl⟩
  clear hw2 CN
  cases is
  · have F : Hid (uintZ t = (0, 2)) := by rw [GZ.out]; simp [Hid]
    clear GZ
    go_wp2_with fail
    go_ret2
    exact GivesUint.of F.out B2.out.below
  have GX : Hid (uintZ t = if sameT t (intT x) = true then (x, 0) else (0, 2)) := by rw [GZ.out]; simp [Hid]
  clear GZ
  have CX := Lib.hid (exact_u64 t _ w3 (intT x, 0) x rfl B2.out.has (fun W hW => (uint1_any x W NR.1 NR.2).mono fun e w' h => h.has))
  go_wp2_with fail
  refine CX.out.mono ?_
  intro e w4 h4
  clear CX
  rcases h4.ways with ⟨hok, rfl, hb4⟩ | ⟨hok, rfl, hb4⟩
  · have F : Hid (uintZ t = (x, 0)) := by
      rw [GX.out, if_pos ((same_iff _ _).2 ((ok_iff _ _).1 hok).2.symm)]
      exact Lib.hid rfl
    have B4 := Lib.hid (Below.step B2.out.below hb4)
    clear hok hb4 h4 GX
    go_wp2_with fail
    go_ret2
    exact GivesUint.of F.out B4.out
  · have F : Hid (uintZ t = (0, 2)) := by
      rw [GX.out, if_neg (fun k => (ok_iff_not _ _).1 hok ⟨rfl, ((same_iff _ _).1 k).symm⟩)]
      exact Lib.hid rfl
    have B4 := Lib.hid (Below.step B2.out.below hb4)
    clear hok hb4 h4 GX
    go_wp2_with fail
    go_ret2
    exact GivesUint.of F.out B4.out
set_option maxHeartbeats 2000000 in
set_option maxRecDepth 100000 in
theorem great_any (t : T) (v : Value) (w : World) (hin : t.In w v) (hcap : Capped v) (hwt : t.body.length ≤ 30000) : Calls Tryz.prog 57 #[v] w (GivesBE (greatZ t) w) := by
  obtain ⟨A, n, c, K, m, d, rfl, hw, hr, hn, hc, hm, hm', hks⟩ := hin.open
  have hnc := hcap.is
  have BX := Lib.hid (Box.start hin)
  have hby := hr.2.1
  have hbb : ∀ x ∈ bareZ t.body, 0 ≤ x ∧ x ≤ 255 := fun x hx => hby x (bare_mem hx)
  have hle := bare_le t.body
  have hl := hr.1
  have GZ : Hid (greatZ t = if sameT t (bigT (bareZ t.body)) = true then (bareZ t.body, 0) else ([], 2)) := rfl
  have CI := Lib.hid (bareW_any A n c t.body _ (hr.below BX.out.below) hnc (by omega) hc)
  obtain ⟨g0, g1, g2⟩ := BX.out.cells
  clear hr hks hc hin hcap hby hm hm' hw hn
  go_enter Tryz.func57, Tryz.ntmps57
  generalize hw2 : w.alloc (.cells #[.int .i64 t.tag, .slice A n c, .slice K m d] 28) = w2 at *
  go_wp2_with fail
  refine CI.out.mono ?_
  rintro e w3 ⟨b3, c3, rfl, hr3, hn3, hc3, rfl⟩
  clear hw2 CI
  have CC := Lib.hid (clone_any b3 _ c3 _ _ hr3 hc3 (by omega) hn3)
  clear hr3 hn3
  go_wp2_with fail
  refine CC.out.mono ?_
  rintro e w4 ⟨b4, c4, rfl, hr4, hn4, hc4, hb4⟩
  have B4 := Lib.hid (BX.out.go hb4)
  have R4 := Lib.hid hr4
  have N4 := Lib.hid hn4
  clear hr4 hn4 hb4 CC BX g0 g1 g2
  obtain ⟨g0, g1, g2⟩ := B4.out.cells
  have CX := Lib.hid (exact_bytes t _ w4 (bigT (bareZ t.body), 0) b4 (bareZ t.body).length c4 rfl B4.out.has (fun W hW => (great1_any b4 _ c4 _ W (R4.out.below hW) hc4 (by omega) N4.out).mono fun e w' h => h.has))
  go_wp2_with fail
  refine CX.out.mono ?_
  intro e w5 h5
  clear CX
  rcases h5.ways with ⟨hok, rfl, hb5⟩ | ⟨hok, rfl, hb5⟩
  · have F : Hid (greatZ t = (bareZ t.body, 0)) := by
      rw [GZ.out, if_pos ((same_iff _ _).2 ((ok_iff _ _).1 hok).2.symm)]
      exact Lib.hid rfl
    have B5 := Lib.hid (Below.step B4.out.below hb5)
    have R5 := Lib.hid (R4.out.below hb5)
    clear hok hb5 h5 GZ
    go_wp2_with fail
    go_ret2
    rw [F.out]
    exact ⟨b4, c4, rfl, R5.out, N4.out, hc4, B5.out⟩
  · have F : Hid (greatZ t = ([], 2)) := by
      rw [GZ.out, if_neg (fun k => (ok_iff_not _ _).1 hok ⟨rfl, ((same_iff _ _).1 k).symm⟩)]
      exact Lib.hid rfl
    have B5 := Lib.hid (Below.step B4.out.below hb5)
    clear hok hb5 h5 GZ
    go_wp2_with fail
    go_ret2
    rw [F.out]
    exact ⟨none, 0, rfl, Row.nil _ _, fun _ => rfl, Nat.le_refl _, B5.out⟩
end Go.Proofs.YtgmefdmeeihgoaaGreatDoor
namespace Go.Proofs
open Go.Shelf
def Tryz.lays128_ren : Go.Shelf.Ren := ⟨fun | 128 => 109 | n => n, fun | 51 => 23 | 3 => 3 | 4 => 4 | 46 => 99 | 5 => 5 | 9 => 9 | n => n, fun | n => n⟩
theorem Tryz.lays128 : Go.Proofs.Lays.n128 Tryz.prog Tryz.lays128_ren := {
  mixed := by kernel_rfl
  f128 := Tryz.func109.trans (congrArg some (by kernel_rfl))
  t3 := Tryz.underlying3
  a3 := Tryz.isAgg3
  z3 := Tryz.sizeOf3
  v3 := Tryz.zeroValue3
  t4 := Tryz.underlying4
  a4 := Tryz.isAgg4
  z4 := Tryz.sizeOf4
  v4 := Tryz.zeroValue4
  t5 := Tryz.underlying5
  a5 := Tryz.isAgg5
  z5 := Tryz.sizeOf5
  v5 := Tryz.zeroValue5
  t9 := Tryz.underlying9
  a9 := Tryz.isAgg9
  z9 := Tryz.sizeOf9
  v9 := Tryz.zeroValue9
  t46 := Tryz.underlying99
  a46 := Tryz.isAgg99
  z46 := Tryz.sizeOf99
  v46 := Tryz.zeroValue99
  t51 := Tryz.underlying23
  a51 := Tryz.isAgg23
  z51 := Tryz.sizeOf23
  v51 := Tryz.zeroValue23 }
theorem Tryz.bits_Len32 (x : Int) (w : World) (h0 : 0 ≤ x) (h1 : x ≤ 4294967295) :
    Calls Tryz.prog 109 #[.int .u32 x] w fun e w' => e = .returned (.int .i64 (Lib.bitLen x.toNat)) ∧ w' = w := Any.bits_Len32 Tryz.lays128 x w h0 h1
end Go.Proofs
namespace Go.Proofs.YtgmefdmeeihgoaaGreatDoor
open Go.RowKit
set_option linter.unusedVariables false
def segN : Nat → Nat → List Int
  | 0, _ => []
  | k + 1, n => ((n / 128 ^ (k + 1) % 128 + 128 : Nat) : Int) :: segN k n
theorem seg_snoc (k n : Nat) : segN (k + 1) n = segN k (n / 128) ++ [((n / 128 % 128 + 128 : Nat) : Int)] := by
  induction k with
  | zero => simp [segN]
  | succ k ih =>
    rw [segN, ih, segN, List.cons_append, Nat.div_div_eq_div_mul, ← Nat.pow_succ']
theorem sev_seg (k : Nat) : ∀ (n : Nat) (acc : List Int), n < 128 ^ (k + 1) → (k = 0 ∨ 128 ^ k ≤ n) → sevN n acc = segN k n ++ acc := by
  induction k with
  | zero =>
    intro n acc h _
    rw [sevN_end (by simpa using h)]
    rfl
  | succ k ih =>
    intro n acc h h0
    have h1 : 128 ^ (k + 1) ≤ n := by rcases h0 with h0 | h0; omega; exact h0
    have hp : 0 < 128 ^ k := Nat.pow_pos (by decide)
    have h2 : 128 ≤ n := by rw [Nat.pow_succ] at h1; omega
    rw [sevN_more h2, ih (n / 128) _ (by rw [Nat.pow_succ] at h; omega) (.inr (by rw [Nat.pow_succ] at h1; omega)), seg_snoc, List.append_assoc, List.singleton_append]
    simp
theorem seven_seg {k n : Nat} (h : n < 128 ^ (k + 1)) (h0 : k = 0 ∨ 128 ^ k ≤ n) : sevenN n = segN k n ++ [((n % 128 : Nat) : Int)] := sev_seg k n _ h h0
theorem follow_is {n : Nat} (h : n < 2 ^ 32) : ∃ k : Nat, k ≤ 4 ∧ (((Lib.bitLen n : Nat) : Int) - 1).tdiv 7 = (k : Int) ∧ n < 128 ^ (k + 1) ∧ (k = 0 ∨ 128 ^ k ≤ n) := by
  have key : ∀ j : Nat, 7 * j < 64 → 128 ^ j ≤ n → n < 128 ^ (j + 1) → 7 * j + 1 ≤ Lib.bitLen n ∧ Lib.bitLen n ≤ 7 * j + 7 := by
    intro j hj h1 h2
    have e : (128 : Nat) ^ j = 2 ^ (7 * j) := by rw [Nat.pow_mul]
    have hp : 0 < (128 : Nat) ^ j := Nat.pow_pos (by decide)
    have hs := Lib.bitLen_shift (7 * j) n (by rw [← e]; exact h1) (by omega)
    rw [← e] at hs
    have hq : n / 128 ^ j < 128 := by rw [Nat.div_lt_iff_lt_mul hp, Nat.mul_comm, ← Nat.pow_succ]; exact h2
    have hq1 : 1 ≤ n / 128 ^ j := (Nat.one_le_div_iff hp).2 h1
    have hb := Lib.bitLen_half (n / 128 ^ j) (by omega) (by omega)
    have hb7 := Lib.bitLen_le (n / 128 ^ j) 7 (by decide) hq
    omega
  rcases Nat.lt_or_ge n 128 with c1 | c1
  · refine ⟨0, by omega, ?_, by omega, .inl rfl⟩
    have hb7 := Lib.bitLen_le n 7 (by decide) c1
    generalize Lib.bitLen n = b at *
    rcases Nat.eq_zero_or_pos b with rfl | hb
    · rfl
    · rw [Int.tdiv_eq_ediv_of_nonneg (by omega)]; omega
  rcases Nat.lt_or_ge n 16384 with c2 | c2
  · have := key 1 (by omega) (by omega) (by omega)
    refine ⟨1, by omega, ?_, by omega, .inr (by omega)⟩
    rw [Int.tdiv_eq_ediv_of_nonneg (by omega)]; omega
  rcases Nat.lt_or_ge n 2097152 with c3 | c3
  · have := key 2 (by omega) (by omega) (by omega)
    refine ⟨2, by omega, ?_, by omega, .inr (by omega)⟩
    rw [Int.tdiv_eq_ediv_of_nonneg (by omega)]; omega
  rcases Nat.lt_or_ge n 268435456 with c4 | c4
  · have := key 3 (by omega) (by omega) (by omega)
    refine ⟨3, by omega, ?_, by omega, .inr (by omega)⟩
    rw [Int.tdiv_eq_ediv_of_nonneg (by omega)]; omega
  · have := key 4 (by omega) (by omega) (by omega)
    refine ⟨4, by omega, ?_, by omega, .inr (by omega)⟩
    rw [Int.tdiv_eq_ediv_of_nonneg (by omega)]; omega
theorem or128_all : ∀ a : Fin 256, bits .or .u8 128 (a.val : Int) = ((a.val % 128 + 128 : Nat) : Int) := by decide +kernel
theorem andNot128_all : ∀ a : Fin 256, bits .andNot .u8 (a.val : Int) 128 = ((a.val % 128 : Nat) : Int) := by decide +kernel
theorem or128_is {x : Int} (n : Nat) (h : x = (n : Int) % 256) : bits .or .u8 128 x = ((n % 128 + 128 : Nat) : Int) := by
  have := or128_all ⟨n % 256, by omega⟩
  rw [h, show (n : Int) % 256 = ((n % 256 : Nat) : Int) by omega, this]
  simp only
  omega
theorem andNot128_is (x : Int) (h0 : 0 ≤ x) (h1 : x ≤ 255) : bits .andNot .u8 x 128 = x % 128 := by
  have := andNot128_all ⟨x.toNat, by omega⟩
  rw [show ((⟨x.toNat, by omega⟩ : Fin 256).val : Int) = x by simp; omega] at this
  rw [this]
  simp only
  omega
theorem seg_next (j n : Nat) (P : List Int) : P ++ segN (j + 1) n = (P ++ [((n / 128 ^ (j + 1) % 128 + 128 : Nat) : Int)]) ++ segN j n := by
  rw [segN, List.append_assoc, List.singleton_append]
set_option maxHeartbeats 2000000 in
set_option maxRecDepth 100000 in
theorem number_any (W0 w : World) (V : Value) (L : List Int) (n : Nat) (ho : Out W0 w V L) (hl : L.length ≤ 1000) (hn : n < 2 ^ 32) : Calls Tryz.prog 74 #[V, .int .u32 (n : Int)] w fun e w' => ∃ V', e = .returned V' ∧ Out W0 w' V' (L ++ sevenN n) := by
  obtain ⟨k, hk4, hk, hlt, hge⟩ := follow_is hn
  have SG := Lib.hid (seven_seg hlt hge)
  have HO := Lib.hid ho
  have hb64 := Lib.bitLen_le n 32 (by decide) hn
  have e0 : (n : Int).toNat = n := by omega
  clear hlt hge ho
  go_enter Tryz.func74, Tryz.ntmps74
  go_wp2_with fail
  refine (Tryz.bits_Len32 (n : Int) w (by omega) (by omega)).mono ?_
  rintro e w1 ⟨rfl, rfl⟩
  rw [e0]
  clear e0
  generalize Lib.bitLen n = b at *
  have hw : IntKind.i64.wrap ((b : Int) - 1) = (b : Int) - 1 := IntWalk.i64_in _ (by omega)
  go_wp2_with fail
  clear hw hb64
  go_loopw [0, 5] (fun U f wr => ∃ (j : Nat) (P : List Int), j ≤ 4 ∧ f = .int .i64 (j : Int) ∧ Out W0 wr U (L ++ P) ∧ P.length + j ≤ 4 ∧ P ++ segN j n = segN k n) (fun _ f _ => (intOf f).toNat)
  case atStart => exact ⟨k, [], hk4, rfl, by rw [List.append_nil]; exact HO.out, by simpa using hk4, by simp⟩
  case round =>
    obtain ⟨j, P, hj4, rfl, ho, hpl, hps⟩ := hrel
    have HP := Lib.hid hps
    have H1 := Lib.hid ho
    clear hps ho hk HO
    rcases j with _ | j
    · have F : Hid (L ++ sevenN n = (L ++ P) ++ [((n % 128 : Nat) : Int)]) := by
        rw [SG.out, ← HP.out, segN, List.append_nil, List.append_assoc]
        exact Lib.hid rfl
      clear SG HP
      have hx : bits .andNot .u8 ((n : Int) % 256) 128 = ((n % 128 : Nat) : Int) := by rw [andNot128_is _ (by omega) (by omega)]; omega
      have hb : (0 : Int) ≤ ((n % 128 : Nat) : Int) ∧ ((n % 128 : Nat) : Int) ≤ 255 := by omega
      generalize ((n % 128 : Nat) : Int) = x at *
      have O1 := Lib.hid (H1.out.alloc (.cells #[.int .u8 x] 5))
      have HBN : Hid ((L ++ P).length + 1 ≤ 1000000) := Lib.hid (by rw [List.length_append]; omega)
      have R1 := Lib.hid (row_const wr [x] (0, 0) (by intro y hy; simp at hy; omega))
      go_wp2_with (at_builtin; go_must (refine out_append (W0 := W0) (L := L ++ P) (zs := [x]) rfl _ _ rfl rfl O1.out rfl R1.out (fun e => by cases e) HBN.out ?_; intro V4 w4 ho4; have O4 := Lib.hid ho4; clear ho4))
      go_ret
      exact ⟨V4, rfl, by rw [F.out]; exact O4.out⟩
    · rcases j with _ | _ | _ | _ | j
      · have N : Hid ((P ++ [((n / 128 ^ (0 + 1) % 128 + 128 : Nat) : Int)]) ++ segN 0 n = segN k n) := by rw [← seg_next]; exact HP
        clear HP
        have hx : bits .or .u8 128 ((n : Int) / 128 % 256) = ((n / 128 ^ (0 + 1) % 128 + 128 : Nat) : Int) := or128_is (n / 128) (by omega)
        have hb : (0 : Int) ≤ ((n / 128 ^ (0 + 1) % 128 + 128 : Nat) : Int) ∧ ((n / 128 ^ (0 + 1) % 128 + 128 : Nat) : Int) ≤ 255 := by omega
        generalize ((n / 128 ^ (0 + 1) % 128 + 128 : Nat) : Int) = x at *
        have O1 := Lib.hid (H1.out.alloc (.cells #[.int .u8 x] 5))
        have HBN : Hid ((L ++ P).length + 1 ≤ 1000000) := Lib.hid (by rw [List.length_append]; omega)
        have R1 := Lib.hid (row_const wr [x] (0, 0) (by intro y hy; simp at hy; omega))
        go_wp2_with (at_builtin; go_must (refine out_append (W0 := W0) (L := L ++ P) (zs := [x]) rfl _ _ rfl rfl O1.out rfl R1.out (fun e => by cases e) HBN.out ?_; intro V4 w4 ho4; have O4 := Lib.hid ho4; clear ho4))
        go_roundw
        case rel => exact ⟨_, P ++ [x], by omega, by first | rfl | go_num | simp, by rw [← List.append_assoc]; exact O4.out, (by rw [List.length_append, List.length_singleton]; omega), N.out⟩
        case measure => simp [intOf]
      · have N : Hid ((P ++ [((n / 128 ^ (1 + 1) % 128 + 128 : Nat) : Int)]) ++ segN 1 n = segN k n) := by rw [← seg_next]; exact HP
        clear HP
        have hx : bits .or .u8 128 ((n : Int) / 16384 % 256) = ((n / 128 ^ (1 + 1) % 128 + 128 : Nat) : Int) := or128_is (n / 16384) (by omega)
        have hb : (0 : Int) ≤ ((n / 128 ^ (1 + 1) % 128 + 128 : Nat) : Int) ∧ ((n / 128 ^ (1 + 1) % 128 + 128 : Nat) : Int) ≤ 255 := by omega
        generalize ((n / 128 ^ (1 + 1) % 128 + 128 : Nat) : Int) = x at *
        have O1 := Lib.hid (H1.out.alloc (.cells #[.int .u8 x] 5))
        have HBN : Hid ((L ++ P).length + 1 ≤ 1000000) := Lib.hid (by rw [List.length_append]; omega)
        have R1 := Lib.hid (row_const wr [x] (0, 0) (by intro y hy; simp at hy; omega))
        go_wp2_with (at_builtin; go_must (refine out_append (W0 := W0) (L := L ++ P) (zs := [x]) rfl _ _ rfl rfl O1.out rfl R1.out (fun e => by cases e) HBN.out ?_; intro V4 w4 ho4; have O4 := Lib.hid ho4; clear ho4))
        go_roundw
        case rel => exact ⟨_, P ++ [x], by omega, by first | rfl | go_num | simp, by rw [← List.append_assoc]; exact O4.out, (by rw [List.length_append, List.length_singleton]; omega), N.out⟩
        case measure => simp [intOf]
      · have N : Hid ((P ++ [((n / 128 ^ (2 + 1) % 128 + 128 : Nat) : Int)]) ++ segN 2 n = segN k n) := by rw [← seg_next]; exact HP
        clear HP
        have hx : bits .or .u8 128 ((n : Int) / 2097152 % 256) = ((n / 128 ^ (2 + 1) % 128 + 128 : Nat) : Int) := or128_is (n / 2097152) (by omega)
        have hb : (0 : Int) ≤ ((n / 128 ^ (2 + 1) % 128 + 128 : Nat) : Int) ∧ ((n / 128 ^ (2 + 1) % 128 + 128 : Nat) : Int) ≤ 255 := by omega
        generalize ((n / 128 ^ (2 + 1) % 128 + 128 : Nat) : Int) = x at *
        have O1 := Lib.hid (H1.out.alloc (.cells #[.int .u8 x] 5))
        have HBN : Hid ((L ++ P).length + 1 ≤ 1000000) := Lib.hid (by rw [List.length_append]; omega)
        have R1 := Lib.hid (row_const wr [x] (0, 0) (by intro y hy; simp at hy; omega))
        go_wp2_with (at_builtin; go_must (refine out_append (W0 := W0) (L := L ++ P) (zs := [x]) rfl _ _ rfl rfl O1.out rfl R1.out (fun e => by cases e) HBN.out ?_; intro V4 w4 ho4; have O4 := Lib.hid ho4; clear ho4))
        go_roundw
        case rel => exact ⟨_, P ++ [x], by omega, by first | rfl | go_num | simp, by rw [← List.append_assoc]; exact O4.out, (by rw [List.length_append, List.length_singleton]; omega), N.out⟩
        case measure => simp [intOf]
      · have N : Hid ((P ++ [((n / 128 ^ (3 + 1) % 128 + 128 : Nat) : Int)]) ++ segN 3 n = segN k n) := by rw [← seg_next]; exact HP
        clear HP
        have hx : (128 + (n : Int) / 268435456) = ((n / 128 ^ (3 + 1) % 128 + 128 : Nat) : Int) := by omega
        have hb : (0 : Int) ≤ ((n / 128 ^ (3 + 1) % 128 + 128 : Nat) : Int) ∧ ((n / 128 ^ (3 + 1) % 128 + 128 : Nat) : Int) ≤ 255 := by omega
        generalize ((n / 128 ^ (3 + 1) % 128 + 128 : Nat) : Int) = x at *
        have O1 := Lib.hid (H1.out.alloc (.cells #[.int .u8 x] 5))
        have HBN : Hid ((L ++ P).length + 1 ≤ 1000000) := Lib.hid (by rw [List.length_append]; omega)
        have R1 := Lib.hid (row_const wr [x] (0, 0) (by intro y hy; simp at hy; omega))
        go_wp2_with (at_builtin; go_must (refine out_append (W0 := W0) (L := L ++ P) (zs := [x]) rfl _ _ rfl rfl O1.out rfl R1.out (fun e => by cases e) HBN.out ?_; intro V4 w4 ho4; have O4 := Lib.hid ho4; clear ho4))
        go_roundw
        case rel => exact ⟨_, P ++ [x], by omega, by first | rfl | go_num | simp, by rw [← List.append_assoc]; exact O4.out, (by rw [List.length_append, List.length_singleton]; omega), N.out⟩
        case measure => simp [intOf]
      · omega
end Go.Proofs.YtgmefdmeeihgoaaGreatDoor
namespace Go.Proofs.YtgmefdmeeihgoaaGreatDoor
open Go.RowKit
set_option linter.unusedVariables false
theorem number_int (W0 w : World) (V : Value) (L : List Int) (v : Int) (ho : Out W0 w V L) (hl : L.length ≤ 1000) (h0 : 0 ≤ v) (h1 : v ≤ 4294967295) : Calls Tryz.prog 74 #[V, .int .u32 v] w fun e w' => ∃ V', e = .returned V' ∧ Out W0 w' V' (L ++ sevenN v.toNat) := by
  obtain ⟨n, rfl⟩ := Int.eq_ofNat_of_zero_le h0
  rw [Int.toNat_natCast]
  exact number_any W0 w V L n ho hl (by omega)
set_option maxHeartbeats 2000000 in
set_option maxRecDepth 100000 in
theorem isOid_any (a : Option Addr) (n ca : Nat) (zs : List Int) (w : World) (hr : Row32 w a n zs) : Calls Tryz.prog 73 #[.slice a n ca] w fun e w' => e = .returned (.bool (decide (OidOk zs))) ∧ w' = w := by
  have R0 := Lib.hid hr
  have HL := Lib.hid hr.1
  have FB : OidOk zs ↔ (2 ≤ n ∧ n ≤ 20 ∧ zs[(0 : Nat)]?.getD 0 ≤ 2 ∧ zs[(1 : Nat)]?.getD 0 ≤ 4294967200 ∧ (zs[(1 : Nat)]?.getD 0 ≤ 39 ∨ zs[(0 : Nat)]?.getD 0 = 2)) := by unfold OidOk; rw [HL.out]
  have x0 := R0.out.num 0
  have x1 := R0.out.num 1
  clear hr
  go_enter Tryz.func73, Tryz.ntmps73
  by_cases h2 : 2 ≤ n
  rotate_left
  · have F : Hid (decide (OidOk zs) = false) := decide_eq_false (by rw [FB]; omega)
    clear FB
    go_wp2_with fail
    go_ret
    exact ⟨ret_bool F.out.symm, rfl⟩
  by_cases h20 : n ≤ 20
  rotate_left
  · have F : Hid (decide (OidOk zs) = false) := decide_eq_false (by rw [FB]; omega)
    clear FB
    go_wp2_with fail
    go_ret
    exact ⟨ret_bool F.out.symm, rfl⟩
  obtain ⟨b, off, rfl, hbl, hcell⟩ := R0.out.2.2 (by omega)
  have c0 := hcell 0 (by omega)
  have c1 := hcell 1 (by omega)
  rw [Nat.add_zero] at c0
  clear hcell
  generalize zs[(0 : Nat)]?.getD 0 = p at *
  generalize zs[(1 : Nat)]?.getD 0 = q at *
  have k0 : (0 : Int) < (n : Int) := by omega
  have k1 : (1 : Int) < (n : Int) := by omega
  by_cases hp : p ≤ 2
  rotate_left
  · have F : Hid (decide (OidOk zs) = false) := decide_eq_false (by rw [FB]; omega)
    clear FB
    go_wp2_with fail
    go_ret
    exact ⟨ret_bool F.out.symm, rfl⟩
  by_cases hp2 : p < 2
  · by_cases hq : q < 40
    · have F : Hid (decide (OidOk zs) = true) := decide_eq_true (by rw [FB]; omega)
      have t0 : decide (q < 40) = true := decide_eq_true hq
      clear FB
      go_wp2_with fail
      go_ret
      exact ⟨ret_bool F.out.symm, rfl⟩
    · have F : Hid (decide (OidOk zs) = false) := decide_eq_false (by rw [FB]; omega)
      have t0 : decide (q < 40) = false := decide_eq_false hq
      clear FB
      go_wp2_with fail
      go_ret
      exact ⟨ret_bool F.out.symm, rfl⟩
  · by_cases hq : q ≤ 4294967200
    · have F : Hid (decide (OidOk zs) = true) := decide_eq_true (by rw [FB]; omega)
      have t0 : decide (q ≤ 4294967200) = true := decide_eq_true hq
      clear FB
      go_wp2_with fail
      go_ret
      exact ⟨ret_bool F.out.symm, rfl⟩
    · have F : Hid (decide (OidOk zs) = false) := decide_eq_false (by rw [FB]; omega)
      have t0 : decide (q ≤ 4294967200) = false := decide_eq_false hq
      clear FB
      go_wp2_with fail
      go_ret
      exact ⟨ret_bool F.out.symm, rfl⟩
end Go.Proofs.YtgmefdmeeihgoaaGreatDoor
namespace Go.Proofs.YtgmefdmeeihgoaaGreatDoor
open Go.RowKit
set_option linter.unusedVariables false
set_option maxHeartbeats 4000000 in
set_option maxRecDepth 100000 in
theorem oid_any (a : Option Addr) (n ca : Nat) (zs : List Int) (w : World) (hr : Row32 w a n zs) (hnc : n ≤ ca) : Calls Tryz.prog 42 #[.slice a n ca] w (GivesNodeE (oidZ zs) w) := by
  have S0 := Lib.hid (RB.start w)
  have R0 := Lib.hid (hr.below S0.out.below)
  have HL := Lib.hid hr.1
  clear hr
  have CI := Lib.hid (isOid_any a n ca zs _ R0.out)
  have RN := Lib.hid (Row.nil (w.alloc (.cells #[.int .i64 0, .slice none 0 0, .slice none 0 0] 28)))
  go_enter Tryz.func42, Tryz.ntmps42
  go_wp2_with fail
  refine CI.out.mono ?_
  rintro e w1 ⟨rfl, rfl⟩
  clear CI
  by_cases hok : OidOk zs
  rotate_left
  · have F : Hid (oidZ zs = (.node 0 [] [], 1)) := if_neg hok
    have t0 : decide (OidOk zs) = false := decide_eq_false hok
    rw [t0]
    clear t0 hok
    go_wp2_with fail
    exact gives_ate (zs := []) (c := 0) F.out rfl rfl rfl S0.out.box S0.out.below (RN.out _) (fun h => absurd h (by simp)) ⟨fun _ => rfl, Nat.le_refl _⟩ rfl (by simp)
  have G : Hid (oidZ zs = (.node 6 (sevenN (40 * zs[(0 : Nat)]?.getD 0 + zs[(1 : Nat)]?.getD 0).toNat ++ sevens (zs.drop 2)) [], 0)) := if_pos hok
  have t0 : decide (OidOk zs) = true := decide_eq_true hok
  rw [t0]
  clear t0
  unfold OidOk at hok
  rw [HL.out] at hok
  obtain ⟨h2, h20, hp, hq, hpq⟩ := hok
  obtain ⟨b, off, rfl, hbl, hcell⟩ := R0.out.2.2 (by omega)
  have c0 := hcell 0 (by omega)
  have c1 := hcell 1 (by omega)
  rw [Nat.add_zero] at c0
  have x0 := R0.out.num 0
  have x1 := R0.out.num 1
  clear hcell RN
  generalize zs[(0 : Nat)]?.getD 0 = p at *
  generalize zs[(1 : Nat)]?.getD 0 = q at *
  have kpp : IntKind.u32.wrap (40 * p) = 40 * p := IntWalk.u32_in _ (by omega)
  have kpq : IntKind.u32.wrap (40 * p + q) = 40 * p + q := IntWalk.u32_in _ (by omega)
  have k0 : (0 : Int) < (n : Int) := by omega
  have k1 : (1 : Int) < (n : Int) := by omega
  have k00 : 0 < n := by omega
  have k11 : 1 < n := by omega
  clear hpq
  generalize hw0 : w.alloc (.cells #[.int .i64 0, .slice none 0 0, .slice none 0 0] 28) = w0 at *
  clear hw0
  have hlt0 : w.heap.size < w0.heap.size := S0.out.box.lt
  have l0 := cell_later c0
  have l1 := cell_later c1
  clear c0 c1
  go_wp2_with fail
  refine wp_region_ord Ext Ext.refl (fun _ _ _ => Ext.trans) ((0, false) :: (1, false) :: (2, false) :: (3, false) :: (4, false) :: (5, false) :: (6, false) :: (7, false) :: (8, true) :: (9, false) :: []) (by kernel_rfl) (by kernel_rfl) rfl (by kernel_rfl) (fun _ _ _ _ _ h => h) ?_
  repeat (refine ord_take _ rfl (by rfl) (fun W hW => by go_simp; first | done | rfl) ?_; simp only [Act.put, List.setIfInBounds_toArray, List.set_cons_zero, List.set_cons_succ])
  clear l0 l1
  refine ord_sole rfl (by rfl) (fun K1 hK1 => ?_)
  go_simp
  refine (number_int _ _ _ [] (40 * p + q) (out_nil _) (by simp) (by omega) (by omega)).mono ?_
  rintro e w1 ⟨V, rfl, ho⟩
  rw [List.nil_append] at ho
  have O1 := Lib.hid (ho.wider (Ext.drew (Ext.refl w0)))
  refine hK1 _ _ ho.2 ?_
  clear hK1 K1 ho
  repeat (refine ord_take _ rfl (by rfl) (fun W hW => by go_simp; first | done | rfl) ?_; simp only [Act.put, List.setIfInBounds_toArray, List.set_cons_zero, List.set_cons_succ])
  refine ord_end ?_
  have hl7 := seven_len (n := (40 * p + q).toNat) (by omega)
  have SB := Lib.hid (seven_byte (40 * p + q).toNat)
  generalize sevenN (40 * p + q).toNat = L0 at *
  by_cases hca : ca = 2
  · subst hca
    obtain rfl : n = 2 := by omega
    have F : Hid (oidZ zs = (.node 6 L0 [], 0)) := by
      rw [G.out, List.drop_of_length_le (by rw [HL.out]; exact Nat.le_refl _)]
      simp [sevens, Hid]
    have S1 := Lib.hid (S0.out.go O1.out.2)
    obtain ⟨aV, cV, rfl, hrV⟩ := O1.out.row SB.out
    have RV := Lib.hid hrV
    obtain ⟨p0, p1, p2, f0, f1, f2⟩ := S1.out.box.six
    clear hrV
    go_wp2_with fail
    refine wp_loop_rounds 1 ?_
    rw [rounds_succ]
    go_wp2_with fail
    exact gives_leafe (zs := L0) (c := cV) F.out rfl rfl rfl S1.out RV.out (fun h0 => by obtain ⟨b, off, e, hb⟩ := out_off O1.out h0; exact ⟨b, off, e, Nat.lt_of_lt_of_le hlt0 hb⟩) ⟨O1.out.nilc, own_cap O1.out.1⟩ rfl (by omega)
  go_wp2_with fail
  go_loopw [4, 23] (fun V i wr => ∃ (k : Nat) (L : List Int), k + 2 ≤ n ∧ i = .int .i64 (k : Int) ∧ Out w0 wr V L ∧ (∀ x ∈ L, 0 ≤ x ∧ x ≤ 255) ∧ L.length ≤ 10 * (k + 1) ∧ L ++ sevens (zs.drop (k + 2)) = L0 ++ sevens (zs.drop 2)) (fun _ i _ => n - 2 - (intOf i).toNat)
  case atStart => exact ⟨0, L0, by omega, rfl, O1.out, SB.out, by omega, rfl⟩
  case round =>
    obtain ⟨k, L, hk, rfl, ho, hby, hll, hs⟩ := hrel
    have HO := Lib.hid ho
    have HB := Lib.hid hby
    have HS := Lib.hid hs
    clear ho hby hs O1 SB hl7
    by_cases hlt : k + 2 < n
    · obtain ⟨b', off', e', hbl', hcell'⟩ := (R0.out.below HO.out.2).2.2 (by omega)
      injection e' with e'
      injection e' with e1 e2
      subst e1 e2
      have ck := hcell' (k + 2) hlt
      have xk := R0.out.num (k + 2)
      rw [show off + (k + 2) = off + 2 + k by omega] at ck
      have ST := Lib.hid (sevens_drop (zs := zs) (k := k + 2) (by rw [HL.out]; exact hlt))
      clear hcell' hbl'
      generalize zs[k + 2]?.getD 0 = x at *
      have kk : (k : Int) < ((n - 2 : Nat) : Int) := by omega
      have kn : k < n - 2 := by omega
      go_wp2_with fail
      refine (number_int w0 _ _ L x HO.out (by omega) (by omega) (by omega)).mono ?_
      rintro e w2 ⟨V7, rfl, ho7⟩
      have B7 := Lib.hid (seven_byte x.toNat)
      have l7 := seven_len (n := x.toNat) (by omega)
      have O7 := Lib.hid ho7
      clear ho7 HO ck
      generalize sevenN x.toNat = L7 at *
      go_wp2_with fail
      go_roundw
      case rel => exact ⟨k + 1, L ++ L7, by omega, by go_num, O7.out, (by intro y hy; rcases List.mem_append.1 hy with hy | hy; exact HB.out y hy; exact B7.out y hy), by rw [List.length_append]; omega, by rw [List.append_assoc, show k + 1 + 2 = k + 2 + 1 by omega, ← ST.out]; exact HS.out⟩
      case measure => simp [intOf]; omega
    · obtain rfl : k + 2 = n := by omega
      have F : Hid (oidZ zs = (.node 6 L [], 0)) := by
        rw [G.out, ← HS.out, List.drop_of_length_le (by rw [HL.out]; exact Nat.le_refl _)]
        simp [sevens, Hid]
      have S1 := Lib.hid (S0.out.go HO.out.2)
      obtain ⟨aV, cV, rfl, hrV⟩ := HO.out.row HB.out
      have RV := Lib.hid hrV
      obtain ⟨p0, p1, p2, f0, f1, f2⟩ := S1.out.box.six
      clear HS hrV
      go_wp2_with fail
      exact gives_leafe (zs := L) (c := cV) F.out rfl rfl rfl S1.out RV.out (fun h0 => by obtain ⟨b, off, e, hb⟩ := out_off HO.out h0; exact ⟨b, off, e, Nat.lt_of_lt_of_le hlt0 hb⟩) ⟨HO.out.nilc, own_cap HO.out.1⟩ rfl (by omega)
end Go.Proofs.YtgmefdmeeihgoaaGreatDoor
