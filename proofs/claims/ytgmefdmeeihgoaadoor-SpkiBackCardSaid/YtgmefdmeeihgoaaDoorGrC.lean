/-
  Merged texts: Lay, Parse, WriteT, Trip, Pirt, SkP, Pk1, Pk2, Pk3, Pk4, Shelf.
-/
import Derived.Test.YtgmefdmeeihgoaaDoorGrB
import Derived.Shelf.Small.Bits
import Derived.Test.YtgmefdmeeihgoaaDoorProg
namespace Go.Proofs.YtgmefdmeeihgoaaDoor
open Go.RowKit

/- An element's bytes. -/
mutual
def layT : T → List Int
  | .node t b ks => t :: (lenB (b.length + (layAll ks).length : Nat) ++ (b ++ layAll ks))
def layAll : List T → List Int
  | [] => []
  | x :: r => layT x ++ layAll r
end
theorem layT_eq (t : T) : layT t = t.tag :: (lenB (t.body.length + (layAll t.kids).length : Nat) ++ (t.body ++ layAll t.kids)) := by
  obtain ⟨tag, b, ks⟩ := t
  rw [layT]
  rfl
theorem lay_le (t : T) : ((layT t).length : Int) ≤ 5 * wt t := by
  refine T.each (p := fun t => ((layT t).length : Int) ≤ 5 * wt t) ?_ t
  intro t ih
  have key : ∀ ks : List T, (∀ t ∈ ks, ((layT t).length : Int) ≤ 5 * wt t) → ((layAll ks).length : Int) ≤ 5 * wtAll ks := by
    intro ks
    induction ks with
    | nil => intro _; simp [layAll, wtAll]
    | cons k r ihr =>
      intro h
      rw [layAll, wtAll, List.length_append]
      have := h k (by simp)
      have := ihr (fun x hx => h x (by simp [hx]))
      omega
  have h := key t.kids ih
  rw [layT_eq, wt_eq, List.length_cons, List.length_append, List.length_append]
  have := lenB_length ((t.body.length + (layAll t.kids).length : Nat) : Int)
  have := lenLen_range ((t.body.length + (layAll t.kids).length : Nat) : Int)
  have := wtAll_pos t.kids
  omega
theorem layAll_le (ks : List T) : ((layAll ks).length : Int) ≤ 5 * wtAll ks := by
  induction ks with
  | nil => simp [layAll, wtAll]
  | cons k r ih =>
    rw [layAll, wtAll, List.length_append]
    have := lay_le k
    omega
theorem wtAll_take (ks : List T) : ∀ k : Nat, wtAll (ks.take k) ≤ wtAll ks := by
  induction ks with
  | nil => intro k; simp
  | cons x r ih =>
    intro k
    cases k with
    | zero => rw [List.take_zero, wtAll]; exact wtAll_pos _
    | succ k =>
      rw [List.take_succ_cons, wtAll, wtAll]
      have := ih k
      omega
theorem layAll_take {ks : List T} {i : Nat} {k : T} (h : ks[i]? = some k) : layAll (ks.take (i + 1)) = layAll (ks.take i) ++ layT k := by
  obtain ⟨hi, rfl⟩ := List.getElem?_eq_some_iff.1 h
  have key : ∀ (xs ys : List T), layAll (xs ++ ys) = layAll xs ++ layAll ys := by
    intro xs ys
    induction xs with
    | nil => rw [layAll]; rfl
    | cons x r ih => rw [List.cons_append, layAll, layAll, ih, List.append_assoc]
  rw [List.take_succ_eq_append_getElem hi, key]
  congr 1
  rw [layAll, layAll, List.append_nil]

theorem tag_byte {z : Int} (h : tagB z = true) : 0 ≤ z ∧ z ≤ 255 := by
  unfold tagB at h
  simp only [Bool.and_eq_true, decide_eq_true_iff] at h
  omega
theorem lay_byte (t : T) : ∀ {w : World} {v : Value}, t.In w v → rightT t = true → ∀ z ∈ layT t, 0 ≤ z ∧ z ≤ 255 := by
  refine T.each (p := fun t => ∀ {w : World} {v : Value}, t.In w v → rightT t = true → ∀ z ∈ layT t, 0 ≤ z ∧ z ≤ 255) ?_ t
  clear t
  intro t ih w v hin hrt z hz
  obtain ⟨A, n, c, K, m, d, rfl, _, hr, _, _, hm, _, hks⟩ := hin.open
  obtain ⟨h1, _, _, h4⟩ := right_parts hrt
  have key : ∀ ks : List T, (∀ k ∈ ks, ∀ z ∈ layT k, 0 ≤ z ∧ z ≤ 255) → ∀ z ∈ layAll ks, 0 ≤ z ∧ z ≤ 255 := by
    intro ks
    induction ks with
    | nil => intro _ z hz; simp [layAll] at hz
    | cons k r ihr =>
      intro h z hz
      rw [layAll] at hz
      rcases List.mem_append.1 hz with hz | hz
      · exact h k (by simp) z hz
      · exact ihr (fun x hx => h x (by simp [hx])) z hz
  rw [layT_eq] at hz
  rcases List.mem_cons.1 hz with rfl | hz
  · exact tag_byte h1
  rcases List.mem_append.1 hz with hz | hz
  · exact lenB_byte (by omega) z hz
  rcases List.mem_append.1 hz with hz | hz
  · exact hr.2.1 z hz
  refine key t.kids (fun k hk => ?_) z hz
  obtain ⟨i, hi, rfl⟩ := List.mem_iff_getElem.1 hk
  obtain ⟨b, off, _, _, v0, v1, v2, _, _, _, hin'⟩ := hks i (by omega)
  rw [List.getElem?_eq_getElem hi, Option.getD_some] at hin'
  exact ih _ hk hin' (h4 _ hk)

/-- A row of bytes that a call hands back. -/
def GivesRow (zs : List Int) (w : World) (e : Ending) (w' : World) : Prop :=
  ∃ a c, e = .returned (.slice a zs.length c) ∧ Row w' a zs.length zs ∧ (a = none → c = 0) ∧ Below w.heap.size w w'
/-- Bytes are appended, as one operation. -/
theorem out_op {o : Oper} {a : Act} {K : Act → World → Prop} {Q : Exit → Act → World → Prop} {W0 w : World} {V : Value} {L zs : List Int} {A : Option Addr} {m c : Nat} (s x : Operand)
    (hop : o.op = .call { callee := .builtin .append, args := #[s, x], argTypes := #[22, 22] }) (hs : a.eval s = V) (hout : Out W0 w V L) (hx : a.eval x = .slice A m c) (hr : Row w A m zs) (hnil : A = none → c = 0) (hl : L.length + m ≤ 1000000)
    (h : ∀ V' w', Out W0 w' V' (L ++ zs) → Below W0.heap.size w w' → K (a.put o.dst V') w') : o.wp Tryd.prog a w K Q := by
  obtain ⟨i0, hi5, hz0, hz1, hz2⟩ := info_parts Tryd.infoByte
  cases A with
  | none =>
    obtain rfl := hnil rfl
    have hm : m = 0 := by
      rcases Nat.eq_zero_or_pos m with h0 | h0
      · exact h0
      · obtain ⟨_, _, e, _⟩ := hr.2.2 h0
        cases e
    subst hm
    obtain rfl : zs = [] := List.eq_nil_of_length_eq_zero hr.1
    have hrun := run_append_owned_none (P := Tryd.prog) (w := w) W0.heap.size 22 o.type 5 i0 1 Tryd.underlying22 hi5 V L.length _ hout.1
    unfold Oper.wp
    simp [execOp, hop, resolve, invoke, builtin, hs, hx, hrun, Result.andThen]
    exact h V w (by simpa using hout) (Below.refl _ _)
  | some ad =>
    refine wp_append_own w s x 22 hop W0.heap.size 5 i0 (.int .u8 0) 1 1 Tryd.underlying22 hi5 hz0 hz1 hz2 rfl (by decide) V L.length (L.map (Value.int .u8)) hs hout.1 ad m c (zs.map (Value.int .u8)) hx (by rw [List.length_map, hr.1, Nat.mul_one]) hr.cells ?_ (by unfold maxLen; omega) (by omega) hout.2.size ?_
    · intro u hu
      obtain ⟨_, _, rfl⟩ := List.mem_map.1 hu
      rfl
    · intro V' w' hown hg _
      have hb : Below W0.heap.size w w' := (Below.refl _ _).grown hg hout.2.size (fun k hk => (hout.1.lt k hk).1)
      refine h V' w' ⟨?_, hout.2.trans hb⟩ hb
      rw [List.length_append, hr.1, List.map_append]
      exact hown

theorem out_empty {w : World} {o : Obj} : Out (w.alloc o) ((w.alloc o).alloc (.cells #[] 5)) (.slice (some ⟨w.heap.size + 1, 0, none⟩) 0 0) [] := by
  have h := Out.made (W0 := w.alloc o) 0 (by omega)
  rw [show (w.alloc o).heap.size = w.heap.size + 1 by simp, show madeCells #[.int .u8 0] 0 = #[] by simp [madeCells]] at h
  exact h
/-- W goes on from w, and nothing below block B has turned. -/
def Past (B : Nat) (w W : World) : Prop := Below B w W
theorem Past.refl (B : Nat) (w : World) : Past B w w := Below.refl _ _
theorem Past.trans {B : Nat} {a b c : World} (h : Past B a b) (k : Past B b c) : Past B a c := Below.trans h k
theorem Past.of {B : Nat} {w W : World} (h : Below w.heap.size w W) (hB : B ≤ w.heap.size) : Past B w W := h.mono hB
theorem Past.alloc {B : Nat} {w : World} (hB : B ≤ w.heap.size) (o : Obj) : Past B w (w.alloc o) := (Below.refl _ _).alloc hB o
theorem Blk.past {wr W : World} {g B : Nat} {t : TypeId} {cs : Array Value} (h : Blk wr g t cs) (hg : g < B) (hW : Past B wr.drew W) (j : Nat) {v : Value} (hv : cs[j]? = some v) : W.cell? ⟨g, j, none⟩ = some v :=
  ((Below.cell (p := ⟨g, j, none⟩) hW hg).trans (h.cell j)).trans hv
theorem Past.real {B : Nat} {wr W : World} (hB : B = wr.heap.size) (h : Past B wr.drew W) : Below wr.heap.size wr W := by
  subst hB
  exact ⟨h.os, h.tape, h.output, h.size, h.block⟩
theorem gives_out {w X wr : World} {V : Value} {L zs : List Int} (h : Out X wr V L) (e : zs = L) (hz : ∀ z ∈ zs, 0 ≤ z ∧ z ≤ 255) (hb : Below w.heap.size w wr) : GivesRow zs w (.returned V) wr := by
  subst e
  obtain ⟨a, c, rfl, hr⟩ := h.row hz
  exact ⟨a, c, rfl, hr, h.nilc, hb⟩
/-- A box that was laid just ahead of W0's end. -/
theorem Box.out {w wr : World} {t : T} {A : Option Addr} {n c : Nat} {K : Option Addr} {m d : Nat} {W0 : World} (h : Box w W0 w.heap.size t A n c K m d) (hb : Below W0.heap.size W0 wr) : Box w wr w.heap.size t A n c K m d := h.go hb

end Go.Proofs.YtgmefdmeeihgoaaDoor

namespace Go.Proofs.YtgmefdmeeihgoaaDoor
open Go.RowKit

def at0 (l : List Int) (i : Nat) : Int := l[i]?.getD 0

/-- How many bytes the tag and the length take, and the length; or why not. -/
def headL (l : List Int) : Except Int (Nat × Nat) :=
  if l.length < 1 then .error 3
  else if at0 l 0 % 32 = 31 then .error 2
  else if l.length < 2 then .error 3
  else if at0 l 1 < 128 then .ok (2, (at0 l 1).toNat)
  else if at0 l 1 = 129 then (if l.length < 3 then .error 3 else if at0 l 2 < 128 then .error 2 else .ok (3, (at0 l 2).toNat))
  else if at0 l 1 = 130 then (if l.length < 4 then .error 3 else if at0 l 2 = 0 then .error 2 else .ok (4, (at0 l 2 * 256 + at0 l 3).toNat))
  else .error 2

/-- One element, and what stands behind it. -/
def elemW (rec : Nat → List Int → Except Int (List T)) (deep : Nat) (l : List Int) : Except Int (T × List Int) :=
  match headL l with
  | .error e => .error e
  | .ok (h, n) =>
    if (l.drop h).length < n then .error 3
    else if 32 ≤ deep then .error 4
    else if withinB (at0 l 0) then
      match rec (deep + 1) ((l.drop h).take n) with
      | .error e => .error (if e = 3 then 2 else e)
      | .ok ks => .ok (.node (at0 l 0) [] ks, (l.drop h).drop n)
    else .ok (.node (at0 l 0) ((l.drop h).take n) [], (l.drop h).drop n)
def kidsZ : Nat → Nat → List Int → Except Int (List T)
  | 0, _, _ => .ok []
  | f + 1, deep, l =>
    if l = [] then .ok []
    else match elemW (kidsZ f) deep l with
      | .error e => .error e
      | .ok (t, r) => match kidsZ f deep r with
        | .error e => .error e
        | .ok ks => .ok (t :: ks)

theorem head_ok {l : List Int} {h n : Nat} (e : headL l = .ok (h, n)) : 2 ≤ h ∧ h ≤ 4 ∧ h ≤ l.length := by
  unfold headL at e
  split at e
  · cases e
  split at e
  · cases e
  split at e
  · cases e
  split at e
  · cases e; omega
  split at e
  · split at e
    · cases e
    split at e
    · cases e
    · cases e; omega
  split at e
  · split at e
    · cases e
    split at e
    · cases e
    · cases e; omega
  · cases e
theorem elemW_rest {rec : Nat → List Int → Except Int (List T)} {deep : Nat} {l r : List Int} {t : T} (e : elemW rec deep l = .ok (t, r)) : r.length < l.length := by
  unfold elemW at e
  split at e
  · cases e
  rename_i h n hh
  have := head_ok hh
  split at e
  · cases e
  split at e
  · cases e
  split at e
  · split at e
    · cases e
    · cases e
      rw [List.length_drop, List.length_drop]
      omega
  · cases e
    rw [List.length_drop, List.length_drop]
    omega
theorem elemW_congr {f g : Nat → List Int → Except Int (List T)} {deep : Nat} {l : List Int} (h : ∀ d (x : List Int), x.length < l.length → f d x = g d x) : elemW f deep l = elemW g deep l := by
  unfold elemW
  split
  · rfl
  rename_i hh n e
  have hk := head_ok e
  have hx : (List.take n (List.drop hh l)).length < l.length := by
    rw [List.length_take, List.length_drop]
    omega
  rw [h (deep + 1) _ hx]
/-- More fuel does not matter. -/
theorem kids_fuel : ∀ (f : Nat) (deep : Nat) (l : List Int), l.length < f → kidsZ f deep l = kidsZ (l.length + 1) deep l := by
  intro f
  induction f using Nat.strongRecOn with
  | _ f ih =>
    intro deep l hl
    match f, ih, hl with
    | 0, _, hl => omega
    | f + 1, ih, hl =>
      by_cases h0 : l = []
      · subst h0
        rfl
      have hpos : 0 < l.length := List.length_pos_iff.2 h0
      have key : ∀ d (x : List Int), x.length < l.length → kidsZ f d x = kidsZ l.length d x := by
        intro d x hx
        rw [ih f (by omega) d x (by omega)]
        rcases Nat.lt_or_ge l.length (f + 1) with h | h
        · exact (ih l.length h d x hx).symm
        · omega
      rw [kidsZ, kidsZ, if_neg h0, if_neg h0, elemW_congr key]
      split
      · rfl
      rename_i t r e
      rw [key deep r (elemW_rest e)]

/-- The elements of bytes; one element of bytes. -/
def kidsC (deep : Nat) (l : List Int) : Except Int (List T) := kidsZ (l.length + 1) deep l
def elemC (deep : Nat) (l : List Int) : Except Int (T × List Int) := elemW kidsC deep l
theorem kidsC_nil (deep : Nat) : kidsC deep [] = .ok [] := rfl
theorem kidsC_eq {deep : Nat} {l : List Int} (h0 : l ≠ []) : kidsC deep l = match elemC deep l with
      | .error e => .error e
      | .ok (t, r) => match kidsC deep r with
        | .error e => .error e
        | .ok ks => .ok (t :: ks) := by
  have hpos : 0 < l.length := List.length_pos_iff.2 h0
  have key : ∀ d (x : List Int), x.length < l.length → kidsZ l.length d x = kidsC d x := fun d x hx => kids_fuel l.length d x hx
  unfold elemC
  conv => lhs; unfold kidsC
  rw [kidsZ, if_neg h0, elemW_congr key]
  split
  · rfl
  rename_i t r e
  rw [key deep r (elemW_rest e)]
theorem elemC_rest {deep : Nat} {l r : List Int} {t : T} (e : elemC deep l = .ok (t, r)) : r.length < l.length := elemW_rest e

/-- Read's answer. -/
def readZ (l : List Int) : Except Int T :=
  if 20000 < l.length then .error 5
  else match elemC 0 l with
    | .error e => .error e
    | .ok (t, r) => if r = [] then .ok t else .error 2

theorem at0_drop (l : List Int) (k i : Nat) : at0 (l.drop k) i = at0 l (k + i) := by
  unfold at0
  rw [List.getElem?_drop]
theorem at0_take (l : List Int) (k i : Nat) (h : i < k) : at0 (l.take k) i = at0 l i := by
  unfold at0
  rw [List.getElem?_take, if_pos h]
theorem at0_byte {l : List Int} (h : ∀ z ∈ l, 0 ≤ z ∧ z ≤ 255) (i : Nat) : 0 ≤ at0 l i ∧ at0 l i ≤ 255 := by
  unfold at0
  rcases Nat.lt_or_ge i l.length with hi | hi
  · rw [List.getElem?_eq_getElem hi]
    exact h _ (List.getElem_mem hi)
  · rw [List.getElem?_eq_none hi]
    simp

end Go.Proofs.YtgmefdmeeihgoaaDoor

namespace Go.Proofs.YtgmefdmeeihgoaaDoor
open Go.RowKit

/-- Write's answer: the bytes, and the error's number. -/
def writeZ (t : T) : List Int × Int := if rightT t = false then ([], 2) else if 32 < deepT t then ([], 4) else if 20000 < bytesT t then ([], 5) else (layT t, 0)
def GivesWrite (x : List Int × Int) (w : World) (e : Ending) (w' : World) : Prop :=
  ∃ a c, e = .returned (.tuple #[.slice a x.1.length c, .int .i64 x.2]) ∧ Row w' a x.1.length x.1 ∧ (a = none → c = 0) ∧ Below w.heap.size w w'
theorem gives_none {x : List Int × Int} {w w' : World} {z : Int} (h : x = ([], z)) (hb : Below w.heap.size w w') : GivesWrite x w (.returned (.tuple #[.slice none 0 0, .int .i64 z])) w' := by
  subst h
  exact ⟨none, 0, rfl, Row.nil _ _, fun _ => rfl, hb⟩
theorem write_right {t : T} (h : rightT t = false) : writeZ t = ([], 2) := if_pos h
theorem write_deep {t : T} (h : rightT t = true) (h1 : 32 < deepT t) : writeZ t = ([], 4) := by rw [writeZ, if_neg (by rw [h]; simp), if_pos h1]
theorem write_large {t : T} (h : rightT t = true) (h1 : ¬ 32 < deepT t) (h2 : 20000 < bytesT t) : writeZ t = ([], 5) := by rw [writeZ, if_neg (by rw [h]; simp), if_neg h1, if_pos h2]
theorem write_ok {t : T} (h : rightT t = true) (h1 : ¬ 32 < deepT t) (h2 : ¬ 20000 < bytesT t) : writeZ t = (layT t, 0) := by rw [writeZ, if_neg (by rw [h]; simp), if_neg h1, if_neg h2]

end Go.Proofs.YtgmefdmeeihgoaaDoor

namespace Go.Proofs.YtgmefdmeeihgoaaDoor
open Go.RowKit

theorem head_lay {tag c : Int} (x : List Int) (h0 : 0 ≤ c) (h1 : c < 65536) (ht : tag % 32 ≠ 31) : headL (tag :: (lenB c ++ x)) = .ok (1 + (lenB c).length, c.toNat) := by
  by_cases a : c < 128
  · have e : lenB c = [c] := by unfold lenB; rw [if_pos a]
    rw [e]
    unfold headL
    rw [if_neg (by simp), if_neg (by simpa [at0] using ht), if_neg (by simp), if_pos (by simpa [at0] using a)]
    simp [at0]
  by_cases b : c < 256
  · have e : lenB c = [129, c] := by unfold lenB; rw [if_neg a, if_pos b]
    rw [e]
    unfold headL
    rw [if_neg (by simp), if_neg (by simpa [at0] using ht), if_neg (by simp), if_neg (by simp [at0]), if_pos (by simp [at0]), if_neg (by simp), if_neg (by simpa [at0] using a)]
    simp [at0]
  · have e : lenB c = [130, c / 256 % 256, c % 256] := by unfold lenB; rw [if_neg a, if_neg b]
    rw [e]
    unfold headL
    rw [if_neg (by simp), if_neg (by simpa [at0] using ht), if_neg (by simp), if_neg (by simp [at0]), if_neg (by simp [at0]), if_pos (by simp [at0]), if_neg (by simp), if_neg (by simp only [at0, List.cons_append, List.getElem?_cons_succ, List.getElem?_cons_zero, Option.getD_some]; omega)]
    simp only [at0, List.cons_append, List.getElem?_cons_succ, List.getElem?_cons_zero, Option.getD_some]
    rw [show c / 256 % 256 * 256 + c % 256 = c by omega]
    rfl

theorem bytesAll_pos (ks : List T) : 0 ≤ bytesAll ks := by
  induction ks with
  | nil => simp [bytesAll]
  | cons x r ih =>
    rw [bytesAll]
    have := (size_le x).1
    omega

/-- How long the written bytes are. -/
theorem lay_len (t : T) : rightT t = true → ((layT t).length : Int) = bytesT t := by
  refine T.each (p := fun t => rightT t = true → ((layT t).length : Int) = bytesT t) ?_ t
  intro t ih hr
  obtain ⟨_, hbody, hkids, hks⟩ := right_parts hr
  have key : ∀ ks : List T, (∀ k ∈ ks, ((layT k).length : Int) = bytesT k) → ((layAll ks).length : Int) = bytesAll ks := by
    intro ks
    induction ks with
    | nil => intro _; simp [layAll, bytesAll]
    | cons k r ihr =>
      intro h
      rw [layAll, bytesAll, List.length_append]
      have := h k (by simp)
      have := ihr (fun x hx => h x (by simp [hx]))
      omega
  have hk := key t.kids (fun k hm => ih k hm (hks k hm))
  have hin : inT t = ((t.body.length + (layAll t.kids).length : Nat) : Int) := by
    unfold inT
    cases hw : withinB t.tag
    · rw [hkids hw]
      simp [layAll]
    · rw [hbody hw]
      simp [hk]
  rw [layT_eq, bytesT_eq, hin, List.length_cons, List.length_append, List.length_append]
  have := lenB_length ((t.body.length + (layAll t.kids).length : Nat) : Int)
  omega
theorem layAll_len {ks : List T} (h : ∀ k ∈ ks, rightT k = true) : ((layAll ks).length : Int) = bytesAll ks := by
  induction ks with
  | nil => simp [layAll, bytesAll]
  | cons k r ih =>
    rw [layAll, bytesAll, List.length_append]
    have := lay_len k (h k (by simp))
    have := ih (fun x hx => h x (by simp [hx]))
    omega
theorem in_len {t : T} (hr : rightT t = true) : inT t = ((t.body.length + (layAll t.kids).length : Nat) : Int) := by
  have h1 := lay_len t hr
  rw [layT_eq, bytesT_eq, List.length_cons, List.length_append, List.length_append] at h1
  obtain ⟨_, hbody, hkids, hks⟩ := right_parts hr
  have hk := layAll_len hks
  unfold inT
  cases hw : withinB t.tag
  · rw [hkids hw]
    simp [layAll]
  · rw [hbody hw]
    simp [hk]

/-- The elements within, each read behind the other. -/
theorem kids_trip : ∀ (ks : List T), (∀ k ∈ ks, ∀ (deep : Nat) (r : List Int), (deep : Int) + deepT k ≤ 32 → bytesT k < 65536 → elemC deep (layT k ++ r) = .ok (k, r)) →
    ∀ deep : Nat, (deep : Int) + deepAll ks ≤ 32 → bytesAll ks < 65536 → kidsC deep (layAll ks) = .ok ks
  | [], _, deep, _, _ => by
    rw [layAll]
    exact kidsC_nil deep
  | x :: r, h, deep, hd, hb => by
    rw [layAll]
    have hne : layT x ++ layAll r ≠ [] := by
      rw [layT_eq]
      simp
    have hp := bytesAll_pos r
    have hx := (size_le x).1
    rw [bytesAll] at hb
    have hd' : (deep : Int) + deepT x ≤ 32 ∧ (deep : Int) + deepAll r ≤ 32 := by
      rw [deepAll] at hd
      split at hd <;> omega
    rw [kidsC_eq hne, h x (by simp) deep (layAll r) hd'.1 (by omega)]
    simp only []
    rw [kids_trip r (fun k hk => h k (by simp [hk])) deep hd'.2 (by omega)]

/-- One element, with whatever stands behind it. -/
theorem elem_trip (t : T) : ∀ (deep : Nat) (r : List Int), rightT t = true → (deep : Int) + deepT t ≤ 32 → bytesT t < 65536 → elemC deep (layT t ++ r) = .ok (t, r) := by
  refine T.each (p := fun t => ∀ (deep : Nat) (r : List Int), rightT t = true → (deep : Int) + deepT t ≤ 32 → bytesT t < 65536 → elemC deep (layT t ++ r) = .ok (t, r)) ?_ t
  clear t
  intro t ih deep r hr hd hb
  obtain ⟨htag, hbody, hkids, hks⟩ := right_parts hr
  have hil := in_len hr
  have hbe := bytesT_eq t
  have hll := lenLen_range (inT t)
  have hde := deepT_eq t
  have hdp := (size_le t).2.2.2.2.1
  have hc : ((t.body.length + (layAll t.kids).length : Nat) : Int) < 65536 := by omega
  have h31 : t.tag % 32 ≠ 31 := by
    unfold tagB at htag
    simp only [Bool.and_eq_true, bne_iff_ne, ne_eq] at htag
    exact htag.2.2
  have e : layT t ++ r = t.tag :: (lenB ((t.body.length + (layAll t.kids).length : Nat) : Int) ++ ((t.body ++ layAll t.kids) ++ r)) := by
    rw [layT_eq]
    simp
  have ed : ∀ y : List Int, (t.tag :: (lenB ((t.body.length + (layAll t.kids).length : Nat) : Int) ++ y)).drop (1 + (lenB ((t.body.length + (layAll t.kids).length : Nat) : Int)).length) = y := by
    intro y
    rw [Nat.add_comm, List.drop_succ_cons, List.drop_left]
  have et : ((t.body ++ layAll t.kids) ++ r).take (t.body.length + (layAll t.kids).length) = t.body ++ layAll t.kids := by
    rw [← List.length_append, List.take_left]
  have er : ((t.body ++ layAll t.kids) ++ r).drop (t.body.length + (layAll t.kids).length) = r := by
    rw [← List.length_append, List.drop_left]
  have e0 : ∀ y : List Int, at0 (t.tag :: y) 0 = t.tag := fun _ => rfl
  rw [e]
  unfold elemC elemW
  rw [head_lay _ (by omega) hc h31]
  simp only []
  rw [ed, Int.toNat_natCast, et, er, e0, if_neg (by rw [List.length_append, List.length_append]; omega), if_neg (by omega)]
  have eta : T.node t.tag t.body t.kids = t := by
    obtain ⟨tag, body, kids⟩ := t
    rfl
  rcases Bool.eq_false_or_eq_true (withinB t.tag) with hw | hw
  · rw [if_pos hw] at hde
    have hbb : bytesAll t.kids < 65536 := by
      have := layAll_len hks
      omega
    have hk := kids_trip t.kids (fun k hk d x h1 h2 => ih k hk d x (hks k hk) h1 h2) (deep + 1) (by omega) hbb
    rw [if_pos hw, hbody hw, List.nil_append, hk]
    rw [hbody hw] at eta
    simp only []
    rw [eta]
  · rw [if_neg (by rw [hw]; simp), hkids hw]
    rw [hkids hw] at eta
    rw [layAll, List.append_nil, eta]

/-- What Write answers reads as what it was given. -/
theorem read_write {t : T} (h : (writeZ t).2 = 0) : readZ (writeZ t).1 = .ok t := by
  unfold writeZ at h ⊢
  split at h
  · simp at h
  · rename_i h1
    split at h
    · simp at h
    · rename_i h2
      split at h
      · simp at h
      · rename_i h3
        rw [if_neg h1, if_neg h2, if_neg h3]
        have hr : rightT t = true := by simpa using h1
        have hl := lay_len t hr
        show readZ (layT t) = .ok t
        unfold readZ
        rw [if_neg (by omega)]
        have := elem_trip t 0 [] hr (by omega) (by omega)
        rw [List.append_nil] at this
        rw [this]
        rfl

end Go.Proofs.YtgmefdmeeihgoaaDoor

namespace Go.Proofs.YtgmefdmeeihgoaaDoor
open Go.RowKit

theorem head_inv {l : List Int} {h n : Nat} (hb : ∀ z ∈ l, 0 ≤ z ∧ z ≤ 255) (e : headL l = .ok (h, n)) :
    at0 l 0 % 32 ≠ 31 ∧ ∃ x, l = at0 l 0 :: (lenB (n : Int) ++ x) ∧ l.drop h = x := by
  unfold headL at e
  split at e
  · cases e
  split at e
  · cases e
  rename_i h0 h31
  refine ⟨h31, ?_⟩
  split at e
  · cases e
  rename_i h2
  match l, hb, h0, h2, e with
  | a :: b :: x, hb, _, _, e =>
    have e0 : at0 (a :: b :: x) 0 = a := rfl
    have e1 : at0 (a :: b :: x) 1 = b := rfl
    have bb := hb b (by simp)
    rw [e1] at e
    rw [e0]
    split at e
    · rename_i hl
      cases e
      refine ⟨x, ?_, rfl⟩
      unfold lenB
      rw [if_pos (by omega), Int.toNat_of_nonneg bb.1]
      rfl
    split at e
    · rename_i hl h129
      split at e
      · cases e
      rename_i h3
      match x, hb, h3, e with
      | c :: x, hb, _, e =>
        have e2 : at0 (a :: b :: c :: x) 2 = c := rfl
        have bc := hb c (by simp)
        rw [e2] at e
        split at e
        · cases e
        rename_i hc
        cases e
        refine ⟨x, ?_, rfl⟩
        unfold lenB
        rw [if_neg (by omega), if_pos (by omega), Int.toNat_of_nonneg bc.1, h129]
        rfl
      | [], _, h3, _ => exact absurd (by simp) h3
    split at e
    · rename_i hl _ h130
      split at e
      · cases e
      rename_i h4
      match x, hb, h4, e with
      | c :: d :: x, hb, _, e =>
        have e2 : at0 (a :: b :: c :: d :: x) 2 = c := rfl
        have e3 : at0 (a :: b :: c :: d :: x) 3 = d := rfl
        have bc := hb c (by simp)
        have bd := hb d (by simp)
        rw [e2, e3] at e
        split at e
        · cases e
        rename_i hc
        cases e
        refine ⟨x, ?_, rfl⟩
        unfold lenB
        rw [Int.toNat_of_nonneg (by omega), if_neg (by omega), if_neg (by omega), show (c * 256 + d) / 256 % 256 = c by omega, show (c * 256 + d) % 256 = d by omega, h130]
        rfl
      | [c], _, h4, _ => exact absurd (by simp) h4
      | [], _, h4, _ => exact absurd (by simp) h4
    · cases e
  | [a], _, _, h2, _ => exact absurd (by simp) h2
  | [], _, h0, _, _ => exact absurd (by simp) h0

theorem rightAll_of {ks : List T} (h : ∀ k ∈ ks, rightT k = true) : rightAll ks = true := by
  induction ks with
  | nil => rfl
  | cons x r ih => rw [rightAll, h x (by simp), ih (fun k hk => h k (by simp [hk])), Bool.and_self]
theorem tagB_of {z : Int} (h : 0 ≤ z ∧ z ≤ 255) (h31 : z % 32 ≠ 31) : tagB z = true := by
  unfold tagB
  simp only [Bool.and_eq_true, decide_eq_true_eq, bne_iff_ne, ne_eq]
  exact ⟨h.1, by omega, h31⟩

theorem elem_inv {l r : List Int} {deep : Nat} {t : T} (hb : ∀ z ∈ l, 0 ≤ z ∧ z ≤ 255)
    (IH : ∀ (x : List Int) (deep : Nat) (ks : List T), x.length < l.length → (∀ z ∈ x, 0 ≤ z ∧ z ≤ 255) → deep ≤ 32 → kidsC deep x = .ok ks → x = layAll ks ∧ (∀ k ∈ ks, rightT k = true) ∧ (deep : Int) + deepAll ks ≤ 32)
    (e : elemC deep l = .ok (t, r)) : l = layT t ++ r ∧ rightT t = true ∧ (deep : Int) + deepT t ≤ 32 := by
  unfold elemC elemW at e
  split at e
  · cases e
  rename_i h n hh
  obtain ⟨h31, x, hl, hx⟩ := head_inv hb hh
  have hlen : x.length < l.length := by
    rw [hl, List.length_cons, List.length_append]
    omega
  have hbx : ∀ z ∈ x, 0 ≤ z ∧ z ≤ 255 := fun z hz => hb z (by rw [hl]; simp [hz])
  have ha : 0 ≤ at0 l 0 ∧ at0 l 0 ≤ 255 := at0_byte hb 0
  rw [hx] at e
  split at e
  · cases e
  rename_i hn
  split at e
  · cases e
  rename_i hd
  have hcut : x = x.take n ++ x.drop n := (List.take_append_drop n x).symm
  have hnl : (x.take n).length = n := by
    rw [List.length_take]
    omega
  split at e
  · rename_i hw
    split at e
    · cases e
    rename_i ks hk
    cases e
    obtain ⟨g1, g2, g3⟩ := IH (x.take n) (deep + 1) ks (by rw [List.length_take]; omega) (fun z hz => hbx z (List.mem_of_mem_take hz)) (by omega) hk
    have hkl : (layAll ks).length = n := by rw [← g1, hnl]
    refine ⟨?_, ?_, ?_⟩
    · rw [layT]
      have z0 : ((([] : List Int).length + (layAll ks).length : Nat) : Int) = (n : Int) := by rw [hkl]; simp
      rw [z0, ← g1, List.nil_append, List.cons_append, List.append_assoc, ← hcut]
      exact hl
    · rw [rightT, tagB_of ha h31, hw, rightAll_of g2]
      simp
    · rw [deepT, if_pos hw]
      omega
  · rename_i hw
    cases e
    refine ⟨?_, ?_, ?_⟩
    · rw [layT]
      have z0 : (((x.take n).length + (layAll []).length : Nat) : Int) = (n : Int) := by rw [hnl, layAll]; simp
      rw [z0, layAll, List.append_nil, List.cons_append, List.append_assoc, ← hcut]
      exact hl
    · have hw' : withinB (at0 l 0) = false := by simpa using hw
      rw [rightT, tagB_of ha h31, hw', rightAll]
      simp
    · rw [deepT, if_neg hw]
      omega

theorem kids_inv : ∀ (m : Nat) (x : List Int) (deep : Nat) (ks : List T), x.length < m → (∀ z ∈ x, 0 ≤ z ∧ z ≤ 255) → deep ≤ 32 → kidsC deep x = .ok ks → x = layAll ks ∧ (∀ k ∈ ks, rightT k = true) ∧ (deep : Int) + deepAll ks ≤ 32
  | 0, x, _, _, h, _, _, _ => absurd h (by omega)
  | m + 1, x, deep, ks, h, hb, hd, e => by
    by_cases h0 : x = []
    · subst h0
      rw [kidsC_nil] at e
      cases e
      refine ⟨by rw [layAll], by simp, ?_⟩
      rw [deepAll]
      omega
    rw [kidsC_eq h0] at e
    split at e
    · cases e
    rename_i t r he
    have hr := elemC_rest he
    obtain ⟨g1, g2, g3⟩ := elem_inv hb (fun y d js hy => kids_inv m y d js (by omega)) he
    split at e
    · cases e
    rename_i js hj
    cases e
    obtain ⟨k1, k2, k3⟩ := kids_inv m r deep js (by omega) (fun z hz => hb z (by rw [g1]; simp [hz])) hd hj
    refine ⟨?_, ?_, ?_⟩
    · rw [layAll, ← k1]
      exact g1
    · intro k hk
      rcases List.mem_cons.1 hk with rfl | hk
      · exact g2
      · exact k2 k hk
    · rw [deepAll]
      split <;> omega

/-- A right element weighs no more than its bytes. -/
theorem wt_le (t : T) : rightT t = true → wt t ≤ bytesT t := by
  refine T.each (p := fun t => rightT t = true → wt t ≤ bytesT t) ?_ t
  intro t ih hr
  obtain ⟨_, hbody, hkids, hks⟩ := right_parts hr
  have key : ∀ ks : List T, (∀ k ∈ ks, wt k ≤ bytesT k) → wtAll ks ≤ bytesAll ks := by
    intro ks
    induction ks with
    | nil => intro _; simp [wtAll, bytesAll]
    | cons k r ihr =>
      intro h
      rw [wtAll, bytesAll]
      have := h k (by simp)
      have := ihr (fun x hx => h x (by simp [hx]))
      omega
  have hk := key t.kids (fun k hm => ih k hm (hks k hm))
  have hl := lenLen_range (inT t)
  rw [wt_eq, bytesT_eq]
  unfold inT at hl ⊢
  cases hw : withinB t.tag
  · rw [hw] at hl
    rw [hkids hw]
    simp only [wtAll, Bool.false_eq_true, if_false] at hl ⊢
    omega
  · rw [hw] at hl
    rw [hbody hw]
    simp only [List.length_nil, if_true] at hl ⊢
    omega
/-- What was read is written as it stood. -/
theorem write_read {l : List Int} {t : T} (hb : ∀ z ∈ l, 0 ≤ z ∧ z ≤ 255) (h : readZ l = .ok t) : writeZ t = (l, 0) ∧ rightT t = true := by
  unfold readZ at h
  split at h
  · cases h
  rename_i hl
  split at h
  · cases h
  rename_i t' r e
  split at h
  · rename_i hr
    cases h
    subst hr
    obtain ⟨g1, g2, g3⟩ := elem_inv hb (fun y d js _ => kids_inv (y.length + 1) y d js (by omega)) e
    rw [List.append_nil] at g1
    have hll := lay_len t g2
    rw [← g1] at hll
    exact ⟨by rw [write_ok g2 (by omega) (by omega), ← g1], g2⟩
  · cases h

end Go.Proofs.YtgmefdmeeihgoaaDoor

namespace Go.Proofs.YtgmefdmeeihgoaaDoor
open Go.RowKit
set_option linter.unusedVariables false
set_option linter.unusedSimpArgs false

def arcsK (last : Int) : List Int := [1, 2, 840, 113549, 1, 1, last]
def oidT (last : Int) : T := .node 6 (oidB (arcsK last)) []
/-- An algorithm's element. -/
def algT (last : Int) : T := .node 48 [] [oidT last, .node 5 [] []]
/-- All bits of these bytes. -/
def bitsT (zs : List Int) : T := .node 3 (0 :: zs) []
def sealT (n : T) (sig : List Int) : T := .node 48 [] [n, algT 11, bitsT sig]

theorem oid_is (last : Int) : oidZ (arcsK last) = (oidT last, 0) := by
  have h : OidOk (arcsK last) := by
    unfold OidOk arcsK
    simp
  unfold oidZ
  rw [if_pos h]
  rfl
theorem oid_len (last : Int) (h0 : 0 ≤ last) (h1 : last ≤ 1000) : (oidB (arcsK last)).length ≤ 60 := by
  have q : ∀ n : Nat, n < 2 ^ 64 → (sevenN n).length ≤ 10 := fun n h => seven_len h
  have e : oidB (arcsK last) = sevenN 42 ++ (sevenN 840 ++ (sevenN 113549 ++ (sevenN 1 ++ (sevenN 1 ++ sevenN last.toNat)))) := by
    unfold oidB arcsK sevens
    simp
  rw [e]
  simp only [List.length_append]
  have := q 42 (by omega)
  have := q 840 (by omega)
  have := q 113549 (by omega)
  have := q 1 (by omega)
  have := q last.toNat (by omega)
  omega
theorem oid_byte (last : Int) : ∀ x ∈ oidB (arcsK last), 0 ≤ x ∧ x ≤ 255 := by
  have e : oidB (arcsK last) = sevenN 42 ++ (sevenN 840 ++ (sevenN 113549 ++ (sevenN 1 ++ (sevenN 1 ++ sevenN last.toNat)))) := by
    unfold oidB arcsK sevens
    simp
  intro x hx
  rw [e] at hx
  simp only [List.mem_append] at hx
  rcases hx with h | h | h | h | h | h <;> exact seven_byte _ x h

theorem within48 : withinB 48 = true := by decide
theorem within6 : withinB 6 = false := by decide
theorem within5 : withinB 5 = false := by decide
theorem within3 : withinB 3 = false := by decide

theorem wt_alg (last : Int) (h0 : 0 ≤ last) (h1 : last ≤ 1000) : wt (algT last) ≤ 63 := by
  have := oid_len last h0 h1
  unfold algT oidT
  simp only [wt, wtAll, List.length_nil]
  omega
theorem wt_bits (zs : List Int) : wt (bitsT zs) = 2 + zs.length := by
  unfold bitsT
  simp only [wt, wtAll, List.length_cons]
  omega
theorem wt_seal (n : T) (sig : List Int) : wt (sealT n sig) ≤ wt n + sig.length + 66 := by
  have h1 := wt_alg 11 (by omega) (by omega)
  have h2 := wt_bits sig
  unfold sealT
  simp only [wt, wtAll, List.length_nil]
  omega
theorem right_alg (last : Int) : rightT (algT last) = true := by
  unfold algT oidT
  simp [rightT, rightAll, tagB, withinB]
theorem right_bits (zs : List Int) : rightT (bitsT zs) = true := by
  unfold bitsT
  simp [rightT, rightAll, tagB, withinB]
theorem right_seal (n : T) (sig : List Int) : rightT (sealT n sig) = rightT n := by
  have h1 := right_alg 11
  have h2 := right_bits sig
  unfold sealT
  simp [rightT, rightAll, tagB, withinB, h1, h2]
theorem deep_alg (last : Int) : deepT (algT last) = 2 := by
  unfold algT oidT
  simp [deepT, deepAll, withinB]
theorem deep_bits (zs : List Int) : deepT (bitsT zs) = 1 := by
  unfold bitsT
  simp [deepT, withinB]

/-- What is written without an error. -/
theorem write_of {t : T} (h : rightT t = true) (h1 : deepT t ≤ 32) (h2 : bytesT t ≤ 20000) : writeZ t = (layT t, 0) := write_ok h (by omega) (by omega)
theorem write_fit {t : T} (h : (writeZ t).2 = 0) : rightT t = true ∧ deepT t ≤ 32 ∧ bytesT t ≤ 20000 := by
  unfold writeZ at h
  split at h
  · simp at h
  · split at h
    · simp at h
    · split at h
      · simp at h
      · rename_i h1 h2 h3
        exact ⟨by simpa using h1, by omega, by omega⟩
/-- One that stands within what is written can be written. -/
theorem write_kid {t k : T} (h : (writeZ t).2 = 0) (hw : withinB t.tag = true) (hk : k ∈ t.kids) : (writeZ k).2 = 0 ∧ bytesT k < bytesT t := by
  obtain ⟨h1, h2, h3⟩ := write_fit h
  obtain ⟨_, _, _, hr⟩ := right_parts h1
  have hd : deepT k ≤ deepAll t.kids := by
    have : ∀ ks : List T, k ∈ ks → deepT k ≤ deepAll ks := by
      intro ks
      induction ks with
      | nil => intro h; simp at h
      | cons x r ih =>
        intro hm
        rw [deepAll]
        rcases List.mem_cons.1 hm with rfl | hm
        · split <;> omega
        · have := ih hm
          split <;> omega
    exact this _ hk
  have hb : bytesT k ≤ bytesAll t.kids := by
    have : ∀ ks : List T, k ∈ ks → bytesT k ≤ bytesAll ks := by
      intro ks
      induction ks with
      | nil => intro h; simp at h
      | cons x r ih =>
        intro hm
        rw [bytesAll]
        have := bytesAll_pos r
        have := (size_le x).1
        rcases List.mem_cons.1 hm with rfl | hm
        · omega
        · have := ih hm
          omega
    exact this _ hk
  rw [deepT_eq, hw, if_pos rfl] at h2
  have hb2 : bytesT t = bytesAll t.kids + 1 + lenLen (bytesAll t.kids) := by rw [bytesT_eq, inT, hw, if_pos rfl]
  have := lenLen_range (bytesAll t.kids)
  exact ⟨by rw [write_of (hr k hk) (by omega) (by omega)], by omega⟩

/-- What the package's openedOf finds. -/
def openedZ (x : T) : Except Int (T × List Int × List Int) :=
  match x.kids with
  | n :: _ :: s :: _ => if (ofZ s).2.2 = 0 ∧ sameT (sealT n (ofZ s).1) x = true then .ok (n, (writeZ n).1, (ofZ s).1) else .error 2
  | _ => .error 2
/-- Open's answer. -/
def openZ (b : List Int) : Except Int (T × List Int × List Int) :=
  match readZ b with
  | .error z => .error z
  | .ok x => openedZ x
/-- What the reference's Open finds. -/
def ropenedZ (b : List Int) (x : T) : Except Int (T × List Int × List Int) :=
  match x.kids with
  | [n, _, s] => if (writeZ (sealT n (ofZ s).1)).2 = 0 ∧ (writeZ (sealT n (ofZ s).1)).1 = b then .ok (n, (writeZ n).1, (ofZ s).1) else .error 2
  | _ => .error 2

theorem opened_seal (n : T) (sig : List Int) : openedZ (sealT n sig) = .ok (n, (writeZ n).1, sig) := by
  have e : ofZ (bitsT sig) = (sig, 8 * (sig.length : Int), 0) := of_bits sig
  have k : (sealT n sig).kids = [n, algT 11, bitsT sig] := rfl
  unfold openedZ
  rw [k]
  simp [e, same_refl]
theorem opened_is {x : T} {n : T} {said sig : List Int} (h : openedZ x = .ok (n, said, sig)) : x = sealT n sig ∧ said = (writeZ n).1 := by
  unfold openedZ at h
  split at h
  · split at h
    · rename_i hc
      cases h
      exact ⟨(same_is _ _ hc.2).symm, rfl⟩
    · cases h
  · cases h
theorem opened_err {x : T} {z : Int} (h : openedZ x = .error z) : z = 2 := by
  unfold openedZ at h
  split at h
  · split at h <;> cases h
    rfl
  · cases h
    rfl
/-- Both find the same. -/
theorem ropened_is {b : List Int} {x : T} (hb : ∀ z ∈ b, 0 ≤ z ∧ z ≤ 255) (hx : readZ b = .ok x) : ropenedZ b x = openedZ x := by
  have hw := (write_read hb hx).1
  by_cases h : ∃ n sig, x = sealT n sig
  · obtain ⟨n, sig, rfl⟩ := h
    have e : ofZ (bitsT sig) = (sig, 8 * (sig.length : Int), 0) := of_bits sig
    have k : (sealT n sig).kids = [n, algT 11, bitsT sig] := rfl
    rw [opened_seal]
    unfold ropenedZ
    rw [k]
    simp [e, hw]
  · have h1 : openedZ x = .error 2 := by
      cases ho : openedZ x with
      | error z => rw [opened_err ho]
      | ok v => exact absurd ⟨v.1, v.2.2, (opened_is (said := v.2.1) ho).1⟩ h
    rw [h1]
    unfold ropenedZ
    split
    · split
      · rename_i n a s hk hc
        have hr := read_write hc.1
        rw [hc.2, hx] at hr
        cases hr
        exact absurd ⟨n, (ofZ s).1, rfl⟩ h
      · rfl
    · rfl

/-- What is sealed is opened as it was. -/
theorem open_seal {n : T} {sig : List Int} (h : (writeZ (sealT n sig)).2 = 0) : openZ (writeZ (sealT n sig)).1 = .ok (n, (writeZ n).1, sig) := by
  unfold openZ
  rw [read_write h]
  exact opened_seal n sig
/-- What is opened, sealed again, has just these bytes. -/
theorem seal_open {b : List Int} {n : T} {said sig : List Int} (hb : ∀ z ∈ b, 0 ≤ z ∧ z ≤ 255) (h : openZ b = .ok (n, said, sig)) : writeZ (sealT n sig) = (b, 0) ∧ said = (writeZ n).1 ∧ (writeZ n).2 = 0 ∧ 0 < said.length ∧ said.length < b.length := by
  unfold openZ at h
  split at h
  · cases h
  · rename_i x hx
    obtain ⟨rfl, rfl⟩ := opened_is h
    have hw := (write_read hb hx).1
    have h0 : (writeZ (sealT n sig)).2 = 0 := by rw [hw]
    have hk := write_kid (k := n) h0 within48 (by simp [sealT, T.kids])
    have f := write_fit hk.1
    have g := write_fit h0
    have e1 : writeZ n = (layT n, 0) := write_of f.1 f.2.1 f.2.2
    have e2 : writeZ (sealT n sig) = (layT (sealT n sig), 0) := write_of g.1 g.2.1 g.2.2
    rw [e2] at hw
    have l1 := lay_len n f.1
    have l2 := lay_len (sealT n sig) g.1
    have hb2 : b = layT (sealT n sig) := (congrArg Prod.fst hw).symm
    have := (size_le n).1
    exact ⟨e2.trans hw, rfl, hk.1, by rw [e1]; simp only; omega, by rw [e1, hb2]; simp only; omega⟩

end Go.Proofs.YtgmefdmeeihgoaaDoor

namespace Go.Proofs.YtgmefdmeeihgoaaDoor
open Go.RowKit
set_option linter.unusedVariables false

/-- A part of a row of bytes: its end, without noughts ahead. -/
def GivesPart (zs : List Int) (w : World) (e : Ending) (w' : World) : Prop :=
  ∃ a c, e = .returned (.slice a zs.length c) ∧ Row w a zs.length zs ∧ (a = none → c = 0) ∧ zs.length ≤ c ∧ w' = w
theorem GivesPart.of {zs : List Int} {a : Option Addr} {m c : Nat} {w : World} (hr : Row w a m zs) (hnil : a = none → c = 0) (hc : m ≤ c) : GivesPart zs w (.returned (.slice a m c)) w := by
  obtain rfl := hr.1
  exact ⟨a, c, rfl, hr, hnil, hc, rfl⟩
theorem bare_nil_iff {zs : List Int} {k : Nat} (h : bareZ (zs.drop k) = bareZ zs) (hk : zs.length ≤ k) : bareZ zs = [] := by
  rw [← h, List.drop_of_length_le hk]
  rfl
theorem rest_nil {a : Option Addr} {k c : Nat} (hnil : a = none → c = 0) (h : (if c = k then a else a.map (·.add k)) = none) : c - k = 0 := by
  split at h
  · omega
  · cases a with
    | none => have := hnil rfl; omega
    | some x => cases h

def lenV : Value → Nat
  | .slice _ m _ => m
  | _ => 0
set_option maxHeartbeats 1000000 in
theorem trimByte_any (a : Option Addr) (n ca : Nat) (zs : List Int) (w : World) (hr : Row w a n zs) (hnc : n ≤ ca) (hn : n ≤ 1000000) (hnil : a = none → ca = 0) : Calls Tryd.prog 89 #[.slice a n ca, .int .u8 0] w (GivesPart (bareZ zs) w) := by
  have R0 := Lib.hid hr
  have NI := Lib.hid hnil
  have HL := Lib.hid hr.1
  clear hr hnil
  go_enter Tryd.func89, Tryd.ntmps89
  go_wp2_with fail
  go_loopw [0] (fun s wr => ∃ (k m : Nat) (b : Option Addr) (c : Nat), k + m = n ∧ s = .slice b m c ∧ wr = w ∧ Row w b m (zs.drop k) ∧ m ≤ c ∧ (b = none → c = 0) ∧ bareZ (zs.drop k) = bareZ zs) (fun s _ => lenV s)
  case atStart => exact ⟨0, n, a, ca, by omega, rfl, rfl, by simpa using R0.out, hnc, NI.out, by simp⟩
  case round =>
    obtain ⟨k, m, b, c, hk, rfl, rfl, hrb, hcb, hnb, hb⟩ := hrel
    have HB := Lib.hid hb
    have RB := Lib.hid hrb
    have NB := Lib.hid hnb
    clear hb hrb hnb
    have hkm : k + m ≤ n ∧ n ≤ k + m := by omega
    have HK := Lib.hid hk
    clear hk
    by_cases hlt : 0 < m
    · obtain ⟨bb, off, rfl, hbl, hc⟩ := RB.out.2.2 hlt
      have c0 := hc 0 hlt
      rw [Nat.add_zero] at c0
      have z0 := RB.out.byte 0
      have e0 : (zs.drop k)[0]?.getD 0 = zs[k]?.getD 0 := by rw [List.getElem?_drop, Nat.add_zero]
      rw [e0] at c0 z0
      have BD := Lib.hid (bare_drop (zs := zs) (k := k) (by rw [HL.out]; omega))
      have RW := Lib.hid (RB.out.rest 1 c (by omega) hcb)
      clear hc e0
      by_cases hz : zs[k]?.getD 0 = 0
      · have N : Hid (bareZ (zs.drop (k + 1)) = bareZ zs) := by
          rw [← HB.out, BD.out, if_pos hz]
          exact Lib.hid rfl
        have RX : Hid (Row wr (if c = 1 then some ⟨bb, off, none⟩ else some ⟨bb, off + 1, none⟩) (m - 1) (zs.drop (k + 1))) := by
          have h := RW.out
          rw [List.drop_drop, Option.map_some, Addr.add_lit] at h
          exact Lib.hid h
        rw [hz] at c0
        clear BD HB hz z0 RW
        by_cases hc1 : c = 1
        · subst hc1
          obtain rfl : m = 1 := by omega
          have R1 : Hid (Row wr (some ⟨bb, off, none⟩) 0 (zs.drop (k + 1))) := Lib.hid (by simpa using RX.out)
          clear RX
          go_wp2_with fail
          go_roundw
          case rel => exact ⟨k + 1, 0, _, _, by omega, by first | rfl | simp, trivial, R1.out, by omega, (fun h => by cases h), N.out⟩
          case measure => simp [lenV]
        · have R1 : Hid (Row wr (some ⟨bb, off + 1, none⟩) (m - 1) (zs.drop (k + 1))) := Lib.hid (by have := RX.out; rwa [if_neg hc1] at this)
          clear RX
          go_wp2_with fail
          go_roundw
          case rel => exact ⟨k + 1, m - 1, _, _, by omega, by first | rfl | simp, trivial, R1.out, by omega, (fun h => by cases h), N.out⟩
          case measure => simp [lenV]; omega
      · have F : Hid (bareZ zs = zs.drop k) := by
          rw [← HB.out, BD.out, if_neg hz]
          exact Lib.hid rfl
        have t0 : (zs[k]?.getD 0 == 0) = false := by simpa using hz
        have t1 : ((m : Int) == 0) = false := by simp; omega
        generalize zs[k]?.getD 0 = x at c0 z0 t0
        clear BD HB hz RW
        go_wp2_with fail
        go_ret
        rw [F.out]
        exact GivesPart.of RB.out NB.out hcb
    · obtain rfl : m = 0 := by omega
      have F : Hid (bareZ zs = []) := bare_nil_iff HB.out (by rw [HL.out]; omega)
      clear HB
      go_wp2_with fail
      go_ret
      rw [F.out]
      exact GivesPart.of (Row.nil _ _) (fun _ => rfl) (Nat.le_refl _)

set_option maxHeartbeats 1000000 in
set_option maxRecDepth 100000 in
theorem trim_any (a : Option Addr) (n ca : Nat) (zs : List Int) (w : World) (hr : Row w a n zs) (hnc : n ≤ ca) (hn : n ≤ 1000000) (hnil : a = none → ca = 0) : Calls Tryd.prog 77 #[.slice a n ca, .string ⟨#[0]⟩] w (GivesPart (bareZ zs) w) := by
  have R0 := Lib.hid hr
  have CT := Lib.hid (trimByte_any a n ca zs w hr hnc hn hnil)
  have HL := Lib.hid hr.1
  clear hr hnil
  go_enter Tryd.func77, Tryd.ntmps77
  by_cases h0 : n = 0
  · subst h0
    have F : Hid (bareZ zs = []) := by rw [List.eq_nil_of_length_eq_zero HL.out]; exact Lib.hid rfl
    clear CT HL
    go_wp2_with fail
    go_ret
    rw [F.out]
    exact GivesPart.of (Row.nil _ _) (fun _ => rfl) (Nat.le_refl _)
  have t0 : ((n : Int) == 0) = false := by simp; omega
  go_wp2_with fail
  refine CT.out.mono ?_
  rintro e w2 ⟨b, c, rfl, hr2, hn2, hc2, rfl⟩
  have G2 := Lib.hid (GivesPart.of hr2 hn2 hc2)
  clear hr2 hn2 hc2 CT
  go_wp2_with fail
  go_ret
  exact G2.out

theorem bareW_any (a : Option Addr) (n ca : Nat) (zs : List Int) (w : World) (hr : Row w a n zs) (hnc : n ≤ ca) (hn : n ≤ 1000000) (hnil : a = none → ca = 0) : Calls Tryd.prog 51 #[.slice a n ca] w (GivesPart (bareZ zs) w) := by
  have CT := Lib.hid (trim_any a n ca zs w hr hnc hn hnil)
  clear hr hnil
  go_enter Tryd.func51, Tryd.ntmps51
  go_wp2_with fail
  refine CT.out.mono ?_
  rintro e w2 ⟨b, c, rfl, hr2, hn2, hc2, rfl⟩
  have G2 := Lib.hid (GivesPart.of hr2 hn2 hc2)
  clear hr2 hn2 hc2 CT
  go_wp2_with fail
  go_ret
  exact G2.out

theorem equal_bytes {xs ys : List Int} (hx : ∀ x ∈ xs, 0 ≤ x ∧ x ≤ 255) (hy : ∀ x ∈ ys, 0 ≤ x ∧ x ≤ 255) : ((strOfNums xs).toList == (strOfNums ys).toList) = decide (xs = ys) := by
  by_cases h : xs = ys
  · rw [h, decide_eq_true rfl]
    exact beq_self_eq_true _
  · rw [decide_eq_false h]
    have : (strOfNums xs).toList ≠ (strOfNums ys).toList := fun e => h (by rw [← nums_str xs hx, ← nums_str ys hy, bytes_ext e])
    exact beq_false_of_ne this

set_option maxHeartbeats 1000000 in
theorem equal_any (a1 a2 : Option Addr) (n1 n2 c1 c2 : Nat) (xs ys : List Int) (w : World) (hx : Row w a1 n1 xs) (hy : Row w a2 n2 ys) : Calls Tryd.prog 64 #[.slice a1 n1 c1, .slice a2 n2 c2] w fun e w' => e = .returned (.bool (decide (xs = ys))) ∧ w' = w := by
  have cv1 := conv_at c1 hx
  have cv2 := conv_at c2 hy
  have E := Lib.hid (equal_bytes hx.2.1 hy.2.1)
  clear hx hy
  go_enter Tryd.func64, Tryd.ntmps64
  go_wp2_with fail
  go_ret
  exact ⟨ret_bool E.out, rfl⟩

end Go.Proofs.YtgmefdmeeihgoaaDoor

namespace Go.Proofs.YtgmefdmeeihgoaaDoor
open Go.RowKit
set_option linter.unusedVariables false

/-- A row of bytes, wherever it lies. -/
def GivesRowQ (zs : List Int) (w : World) (e : Ending) (w' : World) : Prop :=
  ∃ a c, e = .returned (.slice a zs.length c) ∧ Row w' a zs.length zs ∧ (a = none → c = 0) ∧ zs.length ≤ c ∧ Below w.heap.size w w'
theorem GivesRowQ.of {zs : List Int} {a : Option Addr} {m c : Nat} {w w' : World} (hr : Row w' a m zs) (hnil : a = none → c = 0) (hc : m ≤ c) (hb : Below w.heap.size w w') : GivesRowQ zs w (.returned (.slice a m c)) w' := by
  obtain rfl := hr.1
  exact ⟨a, c, rfl, hr, hnil, hc, hb⟩
theorem Out.gives {w w' : World} {V : Value} {zs : List Int} (h : Out w w' V zs) (hb : ∀ x ∈ zs, 0 ≤ x ∧ x ≤ 255) : GivesRowQ zs w (.returned V) w' := by
  have h2 := h.2
  obtain ⟨a, c, rfl, hr⟩ := h.row hb
  exact ⟨a, c, rfl, hr, h.nilc, own_cap h.1, h2⟩

set_option maxHeartbeats 1000000 in
theorem clone_any (a : Option Addr) (n ca : Nat) (zs : List Int) (w : World) (hr : Row w a n zs) (hnc : n ≤ ca) (hn : n ≤ 1000000) (hnil : a = none → ca = 0) : Calls Tryd.prog 58 #[.slice a n ca] w (GivesRowQ zs w) := by
  have q22 : ∀ (w : World) (a : Option Addr) (n c n' c' : Nat), (binOp .eql 22 (.slice a n c) (.slice none n' c')).run Tryd.prog w = .ok (.bool a.isNone) w := fun w a n c n' c' => Lib.run_eql_slice_nil w _ _ a n c n' c' Tryd.underlying22
  have HB := Lib.hid hr.2.1
  have RX := Lib.hid (hr.below ((Below.refl w.heap.size w).alloc (Nat.le_refl _) (.cells #[] 5)))
  have hl := hr.1
  have R0 := Lib.hid hr
  clear hr
  go_enter Tryd.func58, Tryd.ntmps58
  cases a with
  | none =>
    obtain rfl := hnil rfl
    obtain rfl : n = 0 := by omega
    clear hl hnil
    go_wp2_with fail
    go_ret
    exact GivesRowQ.of R0.out (fun _ => rfl) (Nat.le_refl _) (Below.refl _ _)
  | some b =>
    clear hl hnil
    go_wp2_with (at_builtin; go_must (refine out_append (W0 := w) (L := []) (zs := zs) rfl _ _ rfl rfl (out_zero w) rfl RX.out (fun e => by cases e) (by simp; omega) ?_; intro V1 w1 ho1; rw [List.nil_append] at ho1; have HO := Lib.hid ho1; clear ho1))
    go_ret
    exact HO.out.gives HB.out


set_option maxHeartbeats 1000000 in
theorem big_any (a : Option Addr) (n ca : Nat) (zs : List Int) (w : World) (hr : Row w a n zs) (hnc : n ≤ ca) (hn : n ≤ 100000) (hnil : a = none → ca = 0) : Calls Tryd.prog 29 #[.slice a n ca] w (GivesNode (bigT zs) w) := by
  have hby := hr.2.1
  have hbb : ∀ x ∈ bareZ zs, 0 ≤ x ∧ x ≤ 255 := fun x hx => hby x (bare_mem hx)
  have hle := bare_le zs
  have hl := hr.1
  have S0 := Lib.hid (RB.start w)
  have CI := Lib.hid (bareW_any a n ca zs _ (hr.below S0.out.below) hnc (by omega) hnil)
  have GB := Lib.hid (big_byte hby)
  have GL := Lib.hid (big_le zs)
  have HBB := Lib.hid hbb
  clear hr hnil hby hbb
  go_enter Tryd.func29, Tryd.ntmps29
  go_wp2_with fail
  refine CI.out.mono ?_
  rintro e w2 ⟨b2, c2, rfl, hr2, hn2, hc2, rfl⟩
  have W2 : Hid (w.heap.size < (w.alloc (.cells #[.int .i64 0, .slice none 0 0, .slice none 0 0] 28)).heap.size) := by simp [Hid]
  generalize w.alloc (.cells #[.int .i64 0, .slice none 0 0, .slice none 0 0] 28) = w2 at *
  have R2 := Lib.hid hr2
  have N2 := Lib.hid hn2
  clear hr2 hn2 CI
  by_cases h0 : bareZ zs = []
  · have F : Hid (bigZ zs = [0] ++ bareZ zs) := if_pos (.inl h0)
    have L0 : Hid ((bareZ zs).length = 0) := by rw [h0]; exact Lib.hid rfl
    have t0 : (((bareZ zs).length : Int) == 0) = true := by rw [L0.out]; rfl
    have O0 := Lib.hid (out_nil (w2.alloc (.cells #[.int .u8 0] 5)) |>.wider ((Below.refl w2.heap.size w2).alloc (Nat.le_refl _) _))
    have R3 := Lib.hid (row_const w2 [0] (0, 0) (by intro x hx; simp at hx; omega))
    clear h0
    generalize bareZ zs = bz at *
    go_wp2_with (at_builtin; first
      | (refine out_append (W0 := w2) (L := []) (zs := [0]) rfl _ _ rfl rfl O0.out rfl R3.out (fun e => by cases e) (by simp) ?_; intro V3 w3 ho3; rw [List.nil_append] at ho3; have O3 := Lib.hid ho3; have R5 := Lib.hid (R2.out.below ho3.2); clear ho3)
      | (go_must (refine out_append (L := [0]) (zs := bz) rfl _ _ rfl rfl O3.out rfl R5.out N2.out (by simp; omega) ?_; intro V4 w4 ho4; have O4 := Lib.hid ho4; have S4 := Lib.hid (S0.out.go ho4.2); obtain ⟨p0, p1, p2, f0, f1, f2⟩ := S4.out.box.six; rw [← F.out] at ho4 O4; obtain ⟨b4, c4, rfl, hr4⟩ := ho4.row GB.out; clear ho4)))
    exact gives_leaf rfl rfl S4.out O4.out W2.out rfl GB.out (by have := GL.out; omega)
  · have L0 : Hid (0 < (bareZ zs).length) := List.length_pos_iff.2 h0
    have t0 : (((bareZ zs).length : Int) == 0) = false := by simp; exact h0
    obtain ⟨b, off, rfl, hbl, hc⟩ := R2.out.2.2 L0.out
    have c0 := hc 0 L0.out
    rw [Nat.add_zero] at c0
    have z0 := R2.out.byte 0
    clear hc
    by_cases h8 : 128 ≤ (bareZ zs)[(0 : Nat)]?.getD 0
    · have F : Hid (bigZ zs = [0] ++ bareZ zs) := if_pos (.inr h8)
      have O0 := Lib.hid (out_nil (w2.alloc (.cells #[.int .u8 0] 5)) |>.wider ((Below.refl w2.heap.size w2).alloc (Nat.le_refl _) _))
      have R3 := Lib.hid (row_const w2 [0] (0, 0) (by intro x hx; simp at hx; omega))
      clear h0
      generalize (bareZ zs)[(0 : Nat)]?.getD 0 = x0 at c0 z0 h8
      generalize bareZ zs = bz at *
      go_wp2_with (at_builtin; first
        | (refine out_append (W0 := w2) (L := []) (zs := [0]) rfl _ _ rfl rfl O0.out rfl R3.out (fun e => by cases e) (by simp) ?_; intro V3 w3 ho3; rw [List.nil_append] at ho3; have O3 := Lib.hid ho3; have R5 := Lib.hid (R2.out.below ho3.2); clear ho3)
        | (go_must (refine out_append (L := [0]) (zs := bz) rfl _ _ rfl rfl O3.out rfl R5.out N2.out (by simp; omega) ?_; intro V4 w4 ho4; have O4 := Lib.hid ho4; have S4 := Lib.hid (S0.out.go ho4.2); obtain ⟨p0, p1, p2, f0, f1, f2⟩ := S4.out.box.six; rw [← F.out] at ho4 O4; obtain ⟨b4, c4, rfl, hr4⟩ := ho4.row GB.out; clear ho4)))
      exact gives_leaf rfl rfl S4.out O4.out W2.out rfl GB.out (by have := GL.out; omega)
    · have F : Hid (bigZ zs = bareZ zs) := if_neg (by rintro (h | h); exact h0 h; exact h8 h)
      have O0 := Lib.hid (out_nil w2)
      generalize (bareZ zs)[(0 : Nat)]?.getD 0 = x0 at c0 z0 h8
      clear h0
      generalize bareZ zs = bz at *
      go_wp2_with (at_builtin; go_must (refine out_append (W0 := w2) (L := []) (zs := bz) rfl _ _ rfl rfl O0.out rfl R2.out N2.out (by simp; omega) ?_; intro V4 w4 ho4; rw [List.nil_append] at ho4; have O4 := Lib.hid ho4; have S4 := Lib.hid (S0.out.go ho4.2); obtain ⟨p0, p1, p2, f0, f1, f2⟩ := S4.out.box.six; rw [← F.out] at ho4 O4; obtain ⟨b4, c4, rfl, hr4⟩ := ho4.row GB.out; clear ho4))
      exact gives_leaf rfl rfl S4.out O4.out W2.out rfl GB.out (by have := GL.out; omega)

set_option maxHeartbeats 1000000 in
theorem int_any (n : Int) (w : World) (h0 : 0 ≤ n) (h1 : n ≤ 18446744073709551615) : Calls Tryd.prog 30 #[.int .u64 n] w (GivesNode (intT n) w) := by
  have S0 := Lib.hid (RB.start w)
  have hml := leastM_le n
  go_enter Tryd.func30, Tryd.ntmps30
  go_wp2_with fail
  refine (least_any n _ h0 h1).mono ?_
  intro e w2 h2
  obtain ⟨b, off, c, rfl, hr, hb, hc⟩ := h2.is h0 h1
  have S2 := Lib.hid (S0.out.go hb)
  have CI := Lib.hid (big_any (some ⟨b, off, none⟩) (leastM n) c (leastZ n) w2 hr hc (by omega) (fun e => by cases e))
  clear h2 hr hb S0
  generalize leastM n = m at CI hc hml
  go_wp2_with fail
  refine CI.out.mono ?_
  rintro e w3 ⟨A, n3, c3, K, m3, d3, rfl, hin, hb3⟩
  have S3 := Lib.hid (S2.out.go hb3)
  have IN := Lib.hid hin
  have W2 : Hid (w.heap.size < w2.heap.size) := S2.out.box.lt
  obtain ⟨p0, p1, p2, f0, f1, f2⟩ := S3.out.box.six
  clear hin hb3 CI S2
  go_wp2_with fail
  exact gives_copy rfl rfl S3.out IN.out W2.out

end Go.Proofs.YtgmefdmeeihgoaaDoor

namespace Go.Proofs.YtgmefdmeeihgoaaDoor
open Go.RowKit
set_option linter.unusedVariables false

/-- Is what was encoded again the element itself? -/
def okE (X : T × Int) (t : T) : Bool := decide (X.2 = 0 ∧ sameT X.1 t = true)
def GivesExact (ok : Bool) (xv zero : Value) (w : World) (e : Ending) (w' : World) : Prop :=
  e = .returned (.tuple #[if ok = true then xv else zero, .int .i64 (if ok = true then 0 else 2)]) ∧ Below w.heap.size w w'
theorem GivesExact.no {ok : Bool} {xv zero : Value} {w w' : World} (h : ok = false) (hb : Below w.heap.size w w') : GivesExact ok xv zero w (.returned (.tuple #[zero, .int .i64 2])) w' := by subst h; exact ⟨rfl, hb⟩
theorem GivesExact.yes {ok : Bool} {xv zero : Value} {w w' : World} (h : ok = true) (hb : Below w.heap.size w w') : GivesExact ok xv zero w (.returned (.tuple #[xv, .int .i64 0])) w' := by subst h; exact ⟨rfl, hb⟩
theorem GivesExact.ways {ok : Bool} {xv zero : Value} {w w' : World} {e : Ending} (h : GivesExact ok xv zero w e w') : (ok = true ∧ e = .returned (.tuple #[xv, .int .i64 0]) ∧ Below w.heap.size w w') ∨ (ok = false ∧ e = .returned (.tuple #[zero, .int .i64 2]) ∧ Below w.heap.size w w') := by
  obtain ⟨h, hb⟩ := h
  cases ok
  · exact .inr ⟨rfl, h, hb⟩
  · exact .inl ⟨rfl, h, hb⟩
/-- The same, where what is encoded again is told by a relation. -/
def HasNodeR (R : T × Int → Prop) (w : World) (e : Ending) (w' : World) : Prop := ∃ X, R X ∧ HasNodeE X w e w'
def GivesExactR (R : T × Int → Prop) (t : T) (xv zero : Value) (w : World) (e : Ending) (w' : World) : Prop := ∃ X, R X ∧ GivesExact (okE X t) xv zero w e w'
theorem same_iff (x y : T) : sameT x y = true ↔ x = y := ⟨same_is x y, fun h => by rw [h]; exact same_refl y⟩
theorem ok_iff (X : T × Int) (t : T) : okE X t = true ↔ X.2 = 0 ∧ X.1 = t := by unfold okE; rw [decide_eq_true_iff, same_iff]
theorem ok_iff_not (X : T × Int) (t : T) : okE X t = false ↔ ¬ (X.2 = 0 ∧ X.1 = t) := by rw [← ok_iff]; simp
theorem ok_err {x t : T} {er : Int} (h : ¬ er = 0) : okE (x, er) t = false := decide_eq_false (fun k => h k.1)
theorem ok_ne {x t : T} {er : Int} (h : ¬ x = t) : okE (x, er) t = false := decide_eq_false (fun k => h (same_is _ _ k.2))
theorem ok_eq {x t : T} (h : x = t) : okE (x, 0) t = true := decide_eq_true ⟨rfl, by rw [h]; exact same_refl t⟩
theorem T.In.rowk {w : World} {t : T} {z : Value} {A : Option Addr} {n c : Nat} {K : Option Addr} {m d : Nat} (h : t.In w (.agg #[z, .slice A n c, .slice K m d])) : Row w A n t.body ∧ t.kids.length = m := by
  obtain ⟨A1, n1, c1, K1, m1, d1, e, _, hr, _, _, hm, _⟩ := h.open
  simp only [Value.agg.injEq] at e
  have e' := congrArg Array.toList e
  simp only [List.cons.injEq, and_true, Value.slice.injEq] at e'
  obtain ⟨_, ⟨rfl, rfl, rfl⟩, rfl, rfl, rfl⟩ := e'
  exact ⟨hr, hm⟩
theorem leaf_eq {x t : T} (hx : x.kids = []) (h1 : x.tag = t.tag) (h2 : x.body = t.body) (h3 : t.kids = []) : x = t := by
  obtain ⟨a, b, c⟩ := x
  obtain ⟨a', b', c'⟩ := t
  simp only [T.kids, T.tag, T.body] at *
  subst hx h1 h2 h3
  rfl

set_option maxHeartbeats 2000000 in
set_option maxRecDepth 100000 in
theorem exact_u64 (t : T) (v : Value) (w : World) (X : T × Int) (x0 : Int) (hX : X.1.kids = []) (hin : t.In w v) (hF : ∀ W, Below w.heap.size w W → Calls Tryd.prog 63 #[.int .u64 x0] W (HasNodeE X W)) :
    Calls Tryd.prog 62 #[v, .int .u64 x0, .func (.func 63) #[] #[]] w (GivesExact (okE X t) (.int .u64 x0) (.int .u64 0) w) := by
  obtain ⟨A, n, c, K, m, d, rfl, hw, hr, hn, hc, hm, hm', hks⟩ := hin.open
  have BX := Lib.hid (Box.start hin)
  have HF := Lib.hid hF
  have HM := Lib.hid hm
  clear hr hks hc hin hm' hw hn hF hm
  go_enter Tryd.func62, Tryd.ntmps62
  generalize hw2 : w.alloc (.cells #[.int .i64 t.tag, .slice A n c, .slice K m d] 28) = w2 at *
  go_wp2_with fail
  refine (HF.out _ BX.out.below).mono ?_
  rintro e w3 ⟨A3, n3, c3, K3, m3, d3, rfl, hin3, hb3⟩
  have P4 := Lib.hid (Box.start hin3)
  have B4 := Lib.hid ((BX.out.go hb3).go P4.out.below)
  clear hb3 hin3 BX HF hw2
  obtain ⟨x, er⟩ := X
  simp only at P4 B4 hX ⊢
  obtain ⟨p0, p1, p2⟩ := P4.out.cells
  obtain ⟨g0, g1, g2⟩ := B4.out.cells
  have HX := Lib.hid hX
  clear hX
  by_cases he : er = 0
  rotate_left
  · have F := ok_err (x := x) (t := t) he
    have t0 : (er != 0) = true := by simpa using he
    have F := Lib.hid F
    clear he
    clear p0 p1 p2 g0 g1 g2
    go_wp2_with fail
    go_ret2
    exact GivesExact.no F.out B4.out.below
  subst he
  by_cases ht : x.tag = t.tag
  rotate_left
  · have F := Lib.hid (ok_ne (x := x) (t := t) (er := 0) (fun e => ht (by rw [e])))
    have t1 : (x.tag != t.tag) = true := by simpa using ht
    clear ht
    go_wp2_with fail
    go_ret2
    exact GivesExact.no F.out B4.out.below
  have HT := Lib.hid ht
  have t1 : (x.tag != t.tag) = false := by simpa using ht
  clear ht
  have CE := Lib.hid (equal_any A3 A n3 n c3 c x.body t.body _ P4.out.has.rowk.1 B4.out.has.rowk.1)
  go_wp2_with fail
  refine CE.out.mono ?_
  rintro e w5 ⟨rfl, rfl⟩
  clear CE
  by_cases hb : x.body = t.body
  rotate_left
  · have F := Lib.hid (ok_ne (x := x) (t := t) (er := 0) (fun e => hb (by rw [e])))
    have t2 : decide (x.body = t.body) = false := decide_eq_false hb
    rw [t2]
    clear hb t2
    go_wp2_with fail
    go_ret2
    exact GivesExact.no F.out B4.out.below
  have HB := Lib.hid hb
  have t2 : decide (x.body = t.body) = true := decide_eq_true hb
  rw [t2]
  clear hb t2
  by_cases hm0 : m = 0
  · subst hm0
    have F := Lib.hid (ok_eq (x := x) (t := t) (leaf_eq HX.out HT.out HB.out (List.eq_nil_of_length_eq_zero HM.out)))
    go_wp2_with fail
    go_ret2
    exact GivesExact.yes F.out B4.out.below
  · have F := Lib.hid (ok_ne (x := x) (t := t) (er := 0) (fun e => hm0 (by rw [← HM.out, ← e, HX.out]; rfl)))
    have t3 : ((m : Int) != 0) = true := by simpa using hm0
    clear hm0
    go_wp2_with fail
    go_ret2
    exact GivesExact.no F.out B4.out.below
set_option maxHeartbeats 2000000 in
set_option maxRecDepth 100000 in
theorem exact_bytes (t : T) (v : Value) (w : World) (X : T × Int) (xa : Option Addr) (xn xc : Nat) (hX : X.1.kids = []) (hin : t.In w v) (hF : ∀ W, Below w.heap.size w W → Calls Tryd.prog 60 #[.slice xa xn xc] W (HasNodeE X W)) :
    Calls Tryd.prog 59 #[v, .slice xa xn xc, .func (.func 60) #[] #[]] w (GivesExact (okE X t) (.slice xa xn xc) (.slice none 0 0) w) := by
  obtain ⟨A, n, c, K, m, d, rfl, hw, hr, hn, hc, hm, hm', hks⟩ := hin.open
  have BX := Lib.hid (Box.start hin)
  have HF := Lib.hid hF
  have HM := Lib.hid hm
  clear hr hks hc hin hm' hw hn hF hm
  go_enter Tryd.func59, Tryd.ntmps59
  generalize hw2 : w.alloc (.cells #[.int .i64 t.tag, .slice A n c, .slice K m d] 28) = w2 at *
  go_wp2_with fail
  refine (HF.out _ BX.out.below).mono ?_
  rintro e w3 ⟨A3, n3, c3, K3, m3, d3, rfl, hin3, hb3⟩
  have P4 := Lib.hid (Box.start hin3)
  have B4 := Lib.hid ((BX.out.go hb3).go P4.out.below)
  clear hb3 hin3 BX HF hw2
  obtain ⟨x, er⟩ := X
  simp only at P4 B4 hX ⊢
  obtain ⟨p0, p1, p2⟩ := P4.out.cells
  obtain ⟨g0, g1, g2⟩ := B4.out.cells
  have HX := Lib.hid hX
  clear hX
  by_cases he : er = 0
  rotate_left
  · have F := ok_err (x := x) (t := t) he
    have t0 : (er != 0) = true := by simpa using he
    have F := Lib.hid F
    clear he
    clear p0 p1 p2 g0 g1 g2
    go_wp2_with fail
    go_ret2
    exact GivesExact.no F.out B4.out.below
  subst he
  by_cases ht : x.tag = t.tag
  rotate_left
  · have F := Lib.hid (ok_ne (x := x) (t := t) (er := 0) (fun e => ht (by rw [e])))
    have t1 : (x.tag != t.tag) = true := by simpa using ht
    clear ht
    go_wp2_with fail
    go_ret2
    exact GivesExact.no F.out B4.out.below
  have HT := Lib.hid ht
  have t1 : (x.tag != t.tag) = false := by simpa using ht
  clear ht
  have CE := Lib.hid (equal_any A3 A n3 n c3 c x.body t.body _ P4.out.has.rowk.1 B4.out.has.rowk.1)
  go_wp2_with fail
  refine CE.out.mono ?_
  rintro e w5 ⟨rfl, rfl⟩
  clear CE
  by_cases hb : x.body = t.body
  rotate_left
  · have F := Lib.hid (ok_ne (x := x) (t := t) (er := 0) (fun e => hb (by rw [e])))
    have t2 : decide (x.body = t.body) = false := decide_eq_false hb
    rw [t2]
    clear hb t2
    go_wp2_with fail
    go_ret2
    exact GivesExact.no F.out B4.out.below
  have HB := Lib.hid hb
  have t2 : decide (x.body = t.body) = true := decide_eq_true hb
  rw [t2]
  clear hb t2
  by_cases hm0 : m = 0
  · subst hm0
    have F := Lib.hid (ok_eq (x := x) (t := t) (leaf_eq HX.out HT.out HB.out (List.eq_nil_of_length_eq_zero HM.out)))
    go_wp2_with fail
    go_ret2
    exact GivesExact.yes F.out B4.out.below
  · have F := Lib.hid (ok_ne (x := x) (t := t) (er := 0) (fun e => hm0 (by rw [← HM.out, ← e, HX.out]; rfl)))
    have t3 : ((m : Int) != 0) = true := by simpa using hm0
    clear hm0
    go_wp2_with fail
    go_ret2
    exact GivesExact.no F.out B4.out.below
set_option maxHeartbeats 2000000 in
set_option maxRecDepth 100000 in
theorem exact_of (t : T) (v : Value) (w : World) (X : T × Int) (xa : Option Addr) (xn xc : Nat) (xp : Addr) (hX : X.1.kids = []) (hin : t.In w v) (hF : ∀ W, Below w.heap.size w W → Calls Tryd.prog 80 #[.slice xa xn xc, .pointer (some xp)] W (HasNodeE X W)) :
    Calls Tryd.prog 59 #[v, .slice xa xn xc, .func (.func 80) #[] #[.pointer (some xp)]] w (GivesExact (okE X t) (.slice xa xn xc) (.slice none 0 0) w) := by
  obtain ⟨A, n, c, K, m, d, rfl, hw, hr, hn, hc, hm, hm', hks⟩ := hin.open
  have BX := Lib.hid (Box.start hin)
  have HF := Lib.hid hF
  have HM := Lib.hid hm
  clear hr hks hc hin hm' hw hn hF hm
  go_enter Tryd.func59, Tryd.ntmps59
  generalize hw2 : w.alloc (.cells #[.int .i64 t.tag, .slice A n c, .slice K m d] 28) = w2 at *
  go_wp2_with fail
  refine (HF.out _ BX.out.below).mono ?_
  rintro e w3 ⟨A3, n3, c3, K3, m3, d3, rfl, hin3, hb3⟩
  have P4 := Lib.hid (Box.start hin3)
  have B4 := Lib.hid ((BX.out.go hb3).go P4.out.below)
  clear hb3 hin3 BX HF hw2
  obtain ⟨x, er⟩ := X
  simp only at P4 B4 hX ⊢
  obtain ⟨p0, p1, p2⟩ := P4.out.cells
  obtain ⟨g0, g1, g2⟩ := B4.out.cells
  have HX := Lib.hid hX
  clear hX
  by_cases he : er = 0
  rotate_left
  · have F := ok_err (x := x) (t := t) he
    have t0 : (er != 0) = true := by simpa using he
    have F := Lib.hid F
    clear he
    clear p0 p1 p2 g0 g1 g2
    go_wp2_with fail
    go_ret2
    exact GivesExact.no F.out B4.out.below
  subst he
  by_cases ht : x.tag = t.tag
  rotate_left
  · have F := Lib.hid (ok_ne (x := x) (t := t) (er := 0) (fun e => ht (by rw [e])))
    have t1 : (x.tag != t.tag) = true := by simpa using ht
    clear ht
    go_wp2_with fail
    go_ret2
    exact GivesExact.no F.out B4.out.below
  have HT := Lib.hid ht
  have t1 : (x.tag != t.tag) = false := by simpa using ht
  clear ht
  have CE := Lib.hid (equal_any A3 A n3 n c3 c x.body t.body _ P4.out.has.rowk.1 B4.out.has.rowk.1)
  go_wp2_with fail
  refine CE.out.mono ?_
  rintro e w5 ⟨rfl, rfl⟩
  clear CE
  by_cases hb : x.body = t.body
  rotate_left
  · have F := Lib.hid (ok_ne (x := x) (t := t) (er := 0) (fun e => hb (by rw [e])))
    have t2 : decide (x.body = t.body) = false := decide_eq_false hb
    rw [t2]
    clear hb t2
    go_wp2_with fail
    go_ret2
    exact GivesExact.no F.out B4.out.below
  have HB := Lib.hid hb
  have t2 : decide (x.body = t.body) = true := decide_eq_true hb
  rw [t2]
  clear hb t2
  by_cases hm0 : m = 0
  · subst hm0
    have F := Lib.hid (ok_eq (x := x) (t := t) (leaf_eq HX.out HT.out HB.out (List.eq_nil_of_length_eq_zero HM.out)))
    go_wp2_with fail
    go_ret2
    exact GivesExact.yes F.out B4.out.below
  · have F := Lib.hid (ok_ne (x := x) (t := t) (er := 0) (fun e => hm0 (by rw [← HM.out, ← e, HX.out]; rfl)))
    have t3 : ((m : Int) != 0) = true := by simpa using hm0
    clear hm0
    go_wp2_with fail
    go_ret2
    exact GivesExact.no F.out B4.out.below

end Go.Proofs.YtgmefdmeeihgoaaDoor

namespace Go.Proofs.YtgmefdmeeihgoaaDoor
open Go.RowKit
set_option linter.unusedVariables false

/-- The end of a way that hands back an element that a callee made, and an error. -/
theorem gives_copye {w W W0 : World} {tmps : Array Value} {fn : Func} {p u : Tmp} {x : T × Int} {er : Int} {A : Option Addr} {n c : Nat} {K : Option Addr} {m d : Nat} (hx : x.2 = er) (hf : fn.results = #[.cell p 28, .tmp u]) (hp : tmps.getD p undef = .pointer (some ⟨w.heap.size, 0, none⟩)) (hu : tmps.getD u undef = .int .i64 er) (hrb : RB w W) (hin : x.1.InP (W0.heap.size ≤ ·) W (.agg #[.int .i64 x.1.tag, .slice A n c, .slice K m d])) (hW : w.heap.size < W0.heap.size) :
    bodyPost Tryd.prog fn (GivesNodeE x w) .ret { tmps := tmps, defers := [] } (boxed w W (.int .i64 x.1.tag) (.slice A n c) (.slice K m d)) := by
  obtain ⟨h1, h2⟩ := hrb.boxed (.int .i64 x.1.tag) (.slice A n c) (.slice K m d)
  have h := results_nodee (P := Tryd.prog) hf tmps (boxed w W (.int .i64 x.1.tag) (.slice A n c) (.slice K m d)) w.heap.size 28 #[.int .i64 x.1.tag, .slice A n c, .slice K m d] (0, 0) _ hp h1 Tryd.underlying28 rfl Tryd.sizeNode3
  rw [hu, ← hx] at h
  exact bodyPost_ret h rfl ⟨A, n, c, K, m, d, rfl, boxed_in hin hW _ _ _, h2⟩

set_option maxHeartbeats 1000000 in
theorem uint1_any (x : Int) (w : World) (h0 : 0 ≤ x) (h1 : x ≤ 18446744073709551615) : Calls Tryd.prog 63 #[.int .u64 x] w (GivesNodeE (intT x, 0) w) := by
  have S0 := Lib.hid (RB.start w)
  go_enter Tryd.func63, Tryd.ntmps63
  go_wp2_with fail
  refine (int_any x _ h0 h1).mono ?_
  rintro e w3 ⟨A, n3, c3, K, m3, d3, rfl, hin, hb3⟩
  have S3 := Lib.hid (S0.out.go hb3)
  have IN := Lib.hid hin
  have W2 := Lib.hid (S0.out.box.lt)
  obtain ⟨p0, p1, p2, f0, f1, f2⟩ := S3.out.box.six
  clear hin hb3
  go_wp2_with fail
  exact gives_copye (x := (intT x, 0)) rfl rfl rfl rfl S3.out IN.out W2.out

set_option maxHeartbeats 1000000 in
theorem great1_any (a : Option Addr) (n ca : Nat) (zs : List Int) (w : World) (hr : Row w a n zs) (hnc : n ≤ ca) (hn : n ≤ 100000) (hnil : a = none → ca = 0) : Calls Tryd.prog 60 #[.slice a n ca] w (GivesNodeE (bigT zs, 0) w) := by
  have S0 := Lib.hid (RB.start w)
  have CI := Lib.hid (big_any a n ca zs _ (hr.below S0.out.below) hnc hn hnil)
  clear hr hnil
  go_enter Tryd.func60, Tryd.ntmps60
  go_wp2_with fail
  refine CI.out.mono ?_
  rintro e w3 ⟨A, n3, c3, K, m3, d3, rfl, hin, hb3⟩
  have S3 := Lib.hid (S0.out.go hb3)
  have IN := Lib.hid hin
  have W2 := Lib.hid (S0.out.box.lt)
  obtain ⟨p0, p1, p2, f0, f1, f2⟩ := S3.out.box.six
  clear hin hb3 CI
  go_wp2_with fail
  exact gives_copye (x := (bigT zs, 0)) rfl rfl rfl rfl S3.out IN.out W2.out

set_option maxHeartbeats 2000000 in
set_option maxRecDepth 100000 in
theorem uint_any (t : T) (v : Value) (w : World) (hin : t.In w v) (hwt : t.body.length ≤ 1000000) : Calls Tryd.prog 40 #[v] w (GivesUint (uintZ t) w) := by
  obtain ⟨A, n, c, K, m, d, rfl, hw, hr, hn, hc, hm, hm', hks⟩ := hin.open
  have B2 := Lib.hid (Box.start hin)
  have GZ : Hid (uintZ t = if (numZ 0 t.body).2 = true ∧ sameT t (intT (numZ 0 t.body).1) = true then ((numZ 0 t.body).1, 0) else (0, 2)) := rfl
  have NR := numZ_range t.body hr.2.1 0 (by omega) (by omega)
  have hl := hr.1
  have CN := Lib.hid (num_any A n c t.body _ (hr.below B2.out.below) (by omega))
  obtain ⟨g0, g1, g2⟩ := B2.out.cells
  clear hr hks hc hin hm hm' hw hn hl
  generalize (numZ 0 t.body).1 = x at *
  generalize hz : (numZ 0 t.body).2 = is at *
  clear hz
  go_enter Tryd.func40, Tryd.ntmps40
  generalize hw2 : w.alloc (.cells #[.int .i64 t.tag, .slice A n c, .slice K m d] 28) = w2 at *
  go_wp2_with fail
  refine CN.out.mono ?_
  rintro e w3 ⟨rfl, rfl⟩
  clear hw2 CN
  cases is
  · have F : Hid (uintZ t = (0, 2)) := by rw [GZ.out]; simp [Hid]
    clear GZ
    go_wp2_with fail
    go_ret2
    exact GivesUint.of F.out B2.out.below
  have GX : Hid (uintZ t = if sameT t (intT x) = true then (x, 0) else (0, 2)) := by rw [GZ.out]; simp [Hid]
  clear GZ
  have CX := Lib.hid (exact_u64 t _ w3 (intT x, 0) x rfl B2.out.has (fun W hW => (uint1_any x W NR.1 NR.2).mono fun e w' h => h.has))
  go_wp2_with fail
  refine CX.out.mono ?_
  intro e w4 h4
  clear CX
  rcases h4.ways with ⟨hok, rfl, hb4⟩ | ⟨hok, rfl, hb4⟩
  · have F : Hid (uintZ t = (x, 0)) := by
      rw [GX.out, if_pos ((same_iff _ _).2 ((ok_iff _ _).1 hok).2.symm)]
      exact Lib.hid rfl
    have B4 := Lib.hid (Below.step B2.out.below hb4)
    clear hok hb4 h4 GX
    go_wp2_with fail
    go_ret2
    exact GivesUint.of F.out B4.out
  · have F : Hid (uintZ t = (0, 2)) := by
      rw [GX.out, if_neg (fun k => (ok_iff_not _ _).1 hok ⟨rfl, ((same_iff _ _).1 k).symm⟩)]
      exact Lib.hid rfl
    have B4 := Lib.hid (Below.step B2.out.below hb4)
    clear hok hb4 h4 GX
    go_wp2_with fail
    go_ret2
    exact GivesUint.of F.out B4.out

set_option maxHeartbeats 2000000 in
set_option maxRecDepth 100000 in
theorem great_any (t : T) (v : Value) (w : World) (hin : t.In w v) (hcap : Capped v) (hwt : t.body.length ≤ 30000) : Calls Tryd.prog 38 #[v] w (GivesBE (greatZ t) w) := by
  obtain ⟨A, n, c, K, m, d, rfl, hw, hr, hn, hc, hm, hm', hks⟩ := hin.open
  have hnc := hcap.is
  have BX := Lib.hid (Box.start hin)
  have hby := hr.2.1
  have hbb : ∀ x ∈ bareZ t.body, 0 ≤ x ∧ x ≤ 255 := fun x hx => hby x (bare_mem hx)
  have hle := bare_le t.body
  have hl := hr.1
  have GZ : Hid (greatZ t = if sameT t (bigT (bareZ t.body)) = true then (bareZ t.body, 0) else ([], 2)) := rfl
  have CI := Lib.hid (bareW_any A n c t.body _ (hr.below BX.out.below) hnc (by omega) hc)
  obtain ⟨g0, g1, g2⟩ := BX.out.cells
  clear hr hks hc hin hcap hby hm hm' hw hn
  go_enter Tryd.func38, Tryd.ntmps38
  generalize hw2 : w.alloc (.cells #[.int .i64 t.tag, .slice A n c, .slice K m d] 28) = w2 at *
  go_wp2_with fail
  refine CI.out.mono ?_
  rintro e w3 ⟨b3, c3, rfl, hr3, hn3, hc3, rfl⟩
  clear hw2 CI
  have CC := Lib.hid (clone_any b3 _ c3 _ _ hr3 hc3 (by omega) hn3)
  clear hr3 hn3
  go_wp2_with fail
  refine CC.out.mono ?_
  rintro e w4 ⟨b4, c4, rfl, hr4, hn4, hc4, hb4⟩
  have B4 := Lib.hid (BX.out.go hb4)
  have R4 := Lib.hid hr4
  have N4 := Lib.hid hn4
  clear hr4 hn4 hb4 CC BX g0 g1 g2
  obtain ⟨g0, g1, g2⟩ := B4.out.cells
  have CX := Lib.hid (exact_bytes t _ w4 (bigT (bareZ t.body), 0) b4 (bareZ t.body).length c4 rfl B4.out.has (fun W hW => (great1_any b4 _ c4 _ W (R4.out.below hW) hc4 (by omega) N4.out).mono fun e w' h => h.has))
  go_wp2_with fail
  refine CX.out.mono ?_
  intro e w5 h5
  clear CX
  rcases h5.ways with ⟨hok, rfl, hb5⟩ | ⟨hok, rfl, hb5⟩
  · have F : Hid (greatZ t = (bareZ t.body, 0)) := by
      rw [GZ.out, if_pos ((same_iff _ _).2 ((ok_iff _ _).1 hok).2.symm)]
      exact Lib.hid rfl
    have B5 := Lib.hid (Below.step B4.out.below hb5)
    have R5 := Lib.hid (R4.out.below hb5)
    clear hok hb5 h5 GZ
    go_wp2_with fail
    go_ret2
    rw [F.out]
    exact ⟨b4, c4, rfl, R5.out, N4.out, hc4, B5.out⟩
  · have F : Hid (greatZ t = ([], 2)) := by
      rw [GZ.out, if_neg (fun k => (ok_iff_not _ _).1 hok ⟨rfl, ((same_iff _ _).1 k).symm⟩)]
      exact Lib.hid rfl
    have B5 := Lib.hid (Below.step B4.out.below hb5)
    clear hok hb5 h5 GZ
    go_wp2_with fail
    go_ret2
    rw [F.out]
    exact ⟨none, 0, rfl, Row.nil _ _, fun _ => rfl, Nat.le_refl _, B5.out⟩

end Go.Proofs.YtgmefdmeeihgoaaDoor

namespace Go.Proofs
open Go.Shelf
def Tryd.lays128_ren : Go.Shelf.Ren := ⟨fun | 128 => 79 | n => n, fun | 51 => 23 | 3 => 3 | 4 => 4 | 46 => 105 | 5 => 5 | 9 => 9 | n => n, fun | n => n⟩
theorem Tryd.lays128 : Go.Proofs.Lays.n128 Tryd.prog Tryd.lays128_ren := {
  mixed := by kernel_rfl
  f128 := Tryd.func79.trans (congrArg some (by kernel_rfl))
  t3 := Tryd.underlying3
  a3 := Tryd.isAgg3
  z3 := Tryd.sizeOf3
  v3 := Tryd.zeroValue3
  t4 := Tryd.underlying4
  a4 := Tryd.isAgg4
  z4 := Tryd.sizeOf4
  v4 := Tryd.zeroValue4
  t5 := Tryd.underlying5
  a5 := Tryd.isAgg5
  z5 := Tryd.sizeOf5
  v5 := Tryd.zeroValue5
  t9 := Tryd.underlying9
  a9 := Tryd.isAgg9
  z9 := Tryd.sizeOf9
  v9 := Tryd.zeroValue9
  t46 := Tryd.underlying105
  a46 := Tryd.isAgg105
  z46 := Tryd.sizeOf105
  v46 := Tryd.zeroValue105
  t51 := Tryd.underlying23
  a51 := Tryd.isAgg23
  z51 := Tryd.sizeOf23
  v51 := Tryd.zeroValue23 }
theorem Tryd.bits_Len32 (x : Int) (w : World) (h0 : 0 ≤ x) (h1 : x ≤ 4294967295) :
    Calls Tryd.prog 79 #[.int .u32 x] w fun e w' => e = .returned (.int .i64 (Lib.bitLen x.toNat)) ∧ w' = w := Any.bits_Len32 Tryd.lays128 x w h0 h1
end Go.Proofs
