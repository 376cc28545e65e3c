/-
  Merged texts (stage 5): CkRead, CkBack.
-/
import Derived.Test.YtjhffnoddhlikaaDoorGrpB
import Derived.Laws.IdiomStrings
namespace Go.Proofs.YtjhffnoddhlikaaDoor.Clk
open Go.RowKit

/-- The number that stands at a place of a text. -/
def pk (l : List Int) (at_ wd : Nat) : Option Int := nz 0 ((l.drop at_).take wd)
/-- The parts of a text of digits: o: how many digits its year has. -/
def partsOf (l : List Int) (o : Nat) : Option D6 :=
  (pk l 0 o).bind fun y => (pk l o 2).bind fun m => (pk l (o + 2) 2).bind fun d => (pk l (o + 4) 2).bind fun h => (pk l (o + 6) 2).bind fun i => (pk l (o + 8) 2).bind fun s => some ⟨y, m, d, h, i, s⟩
def readD (l : List Int) (long : Bool) : Option D6 :=
  if l.length = (if long = true then 15 else 13) ∧ l[(if long = true then 14 else 12)]?.getD 0 = 90 then
    (partsOf l (if long = true then 4 else 2)).map fun a => if long = true then a else { a with y := fullY a.y }
  else none
def readV (r : Option D6) : Int := match r with | none => 0 | some a => secsR a
def readB (r : Option D6) : Bool := match r with | none => false | some a => okB a
def GivesR (w : World) (r : Option D6) (e : Ending) (w' : World) : Prop := e = .returned (.tuple #[.int .i64 (readV r), .bool (readB r)]) ∧ Below w.heap.size w w'

/-- []byte(t). -/
theorem bytes_of (t : ByteArray) (w : World) : ∃ cap W1, (convert 9 23 (.string t)).run Tryd.prog w = .ok (.slice (some ⟨w.heap.size, 0, none⟩) t.size cap) W1 ∧ Row W1 (some ⟨w.heap.size, 0, none⟩) t.size (numsOf t) ∧ Below w.heap.size w W1 ∧ t.size ≤ cap := by
  refine ⟨_, _, run_bytes_of_string w 9 23 5 t Tryd.underlying9 Tryd.underlying23 Tryd.underlying5, ⟨numsOf_length t, nums_byte t, fun _ => ⟨w.heap.size, 0, rfl, by simp, fun i hi => ?_⟩⟩, (({ Below.refl w.heap.size w with } : Below w.heap.size w w.drew)).alloc (Nat.le_refl _) _, grownCap_ge w t.size 0 5⟩
  generalize hc : grownCap w t.size 0 5 = c
  have e := heap_alloc_new w.drew (.cells (bytesRow t c) 5 ((bytesRow t c).size, (bytesRow t c).size + 1))
  have hd : i < t.data.size := hi
  have q : (w.drew.alloc (.cells (bytesRow t c) 5 ((bytesRow t c).size, (bytesRow t c).size + 1))).cell? ⟨w.heap.size, 0 + i, none⟩ = (bytesRow t c)[i]? := by
    simp only [World.cell?]
    rw [show w.heap.size = w.drew.heap.size from rfl, e, Nat.zero_add]
    rfl
  rw [q, bytesRow_at t c i hd]
  unfold numsOf
  rw [List.getElem?_map, List.getElem?_eq_getElem (by simpa using hd)]
  rfl

/-- A piece of the bytes. -/
theorem _root_.Go.Proofs.YtjhffnoddhlikaaDoor.Row.piece {w : World} {g n : Nat} {zs : List Int} (h : Row w (some ⟨g, 0, none⟩) n zs) (off wd : Nat) (hw : off + wd ≤ n) : Row w (some ⟨g, off, none⟩) wd ((zs.drop off).take wd) := by
  have hl := h.1
  refine ⟨by rw [List.length_take, List.length_drop]; omega, fun x hx => h.2.1 x (List.mem_of_mem_drop (List.mem_of_mem_take hx)), fun h0 => ?_⟩
  obtain ⟨b, o, e, hb, hc⟩ := h.2.2 (by omega)
  injection e with e
  injection e with e1 e2
  subst e1 e2
  exact ⟨g, off, rfl, hb, fun i hi => by rw [show off + i = 0 + (off + i) by omega, hc (off + i) (by omega), List.getElem?_take, if_pos hi, List.getElem?_drop]⟩
theorem _root_.Go.Proofs.YtjhffnoddhlikaaDoor.Row.far {w : World} {g n : Nat} {zs : List Int} (h : Row w (some ⟨g, 0, none⟩) n zs) {b : Nat} (hne : g ≠ b) (j : Nat) (v : Value) : Row (w.setCell ⟨b, j, none⟩ v) (some ⟨g, 0, none⟩) n zs := by
  refine ⟨h.1, h.2.1, fun h0 => ?_⟩
  obtain ⟨b', o, e, hb, hc⟩ := h.2.2 h0
  injection e with e
  injection e with e1 e2
  subst e1 e2
  exact ⟨g, 0, rfl, by simpa using hb, fun i hi => by rw [World.cell?_setCell_other w _ _ _ (fun e => hne (by injection e with e1; exact e1.symm))]; exact hc i hi⟩

/-- What the first k rounds have read. -/
def Pref (l : List Int) (o k : Nat) (a : D6) : Prop := (0 < k → pk l 0 o = some a.y) ∧ (1 < k → pk l o 2 = some a.m) ∧ (2 < k → pk l (o + 2) 2 = some a.d) ∧ (3 < k → pk l (o + 4) 2 = some a.h) ∧ (4 < k → pk l (o + 6) 2 = some a.i) ∧ (5 < k → pk l (o + 8) 2 = some a.s)
def St (w wr : World) (g n : Nat) (l : List Int) (o k : Nat) (a : D6) : Prop := Blk wr w.heap.size 90 a.cells ∧ Row wr (some ⟨g, 0, none⟩) n l ∧ Below w.heap.size w wr ∧ Pref l o k a

theorem parts_none {l : List Int} {o : Nat} (h : pk l 0 o = none ∨ pk l o 2 = none ∨ pk l (o + 2) 2 = none ∨ pk l (o + 4) 2 = none ∨ pk l (o + 6) 2 = none ∨ pk l (o + 8) 2 = none) : partsOf l o = none := by
  unfold partsOf
  cases h0 : pk l 0 o with
  | none => rfl
  | some y =>
    cases h1 : pk l o 2 with
    | none => rfl
    | some m =>
      cases h2 : pk l (o + 2) 2 with
      | none => rfl
      | some d =>
        cases h3 : pk l (o + 4) 2 with
        | none => rfl
        | some hh =>
          cases h4 : pk l (o + 6) 2 with
          | none => rfl
          | some i =>
            cases h5 : pk l (o + 8) 2 with
            | none => rfl
            | some s => simp [h0, h1, h2, h3, h4, h5] at h
theorem parts_some {l : List Int} {o : Nat} {a : D6} (h : Pref l o 6 a) : partsOf l o = some a := by
  obtain ⟨h0, h1, h2, h3, h4, h5⟩ := h
  unfold partsOf
  rw [h0 (by omega), h1 (by omega), h2 (by omega), h3 (by omega), h4 (by omega), h5 (by omega)]
  rfl

/-- numberOf of a piece. -/
theorem piece_any {w wr : World} {g n o k : Nat} {l : List Int} {a : D6} (h : St w wr g n l o k a) (off wd : Nat) (hw : off + wd ≤ n) (h4 : wd ≤ 4) : Calls Tryd.prog 79 #[.slice (some ⟨g, off, none⟩) wd wd] wr (GivesN wr (pk l off wd)) :=
  number_any _ _ _ _ _ (h.2.1.piece off wd hw) h4

theorem GivesR.bad {w wr : World} {r : Option D6} (hr : r = none) (hb : Below w.heap.size w wr) : GivesR w r (.returned (.tuple #[.int .i64 0, .bool false])) wr := by
  subst hr
  exact ⟨rfl, hb⟩

set_option maxRecDepth 100000 in
set_option maxHeartbeats 8000000 in
theorem read_false (t : ByteArray) (w : World) (h1 : t.size = 13) (h2 : nth t 12 = 90) : Calls Tryd.prog 66 #[.string t, .bool false] w (GivesR w (readD (numsOf t) false)) := by
  have NL := Lib.hid (numsOf_length t)
  have hi := str_at t 12 (by omega) 12 rfl
  rw [h2] at hi
  have HD : Hid (readD (numsOf t) false = (partsOf (numsOf t) 2).map fun a => { a with y := fullY a.y }) := by
    unfold Hid readD
    rw [if_pos ⟨by rw [NL.out, h1]; rfl, h2⟩]
    rfl
  have h1' : (t.size : Int) = 13 := by omega
  obtain ⟨i0, i1, i2, i3, i4, i5⟩ := date_index (.int .i64 2) (.int .i64 2) (.int .i64 2) (.int .i64 2) (.int .i64 2) (.int .i64 2)
  have K0 := Lib.hid (Blk.new w 90 (d6c 0 0 0 0 0 0))
  have B0 := Lib.hid ((Below.refl w.heap.size w).alloc (Nat.le_refl _) (.cells (d6c 0 0 0 0 0 0) 90))
  obtain ⟨cap, W1, hrun, hrow, hb1, hcap⟩ := bytes_of t (w.alloc (.cells (d6c 0 0 0 0 0 0) 90))
  rw [show (w.alloc (.cells (d6c 0 0 0 0 0 0) 90)).heap.size = w.heap.size + 1 by simp, h1] at hrun hrow
  have K1 : Hid (Blk W1 w.heap.size 90 (d6c 0 0 0 0 0 0)) := Lib.hid (K0.out.below hb1 (by simp))
  have B1 := Lib.hid (Below.step B0.out hb1)
  have R1 := Lib.hid hrow
  rw [h1] at hcap
  clear hrow hb1 K0 B0 h1 h2
  simp only [d6c] at hrun
  go_enter Tryd.func66, Tryd.ntmps66
  go_wp2_with fail
  refine (widths_any false _).mono ?_
  rintro e w2 ⟨rfl, hb2⟩
  have HZ : Hid (St w w2 (w.heap.size + 1) 13 (numsOf t) 2 0 zeroD) := Lib.hid ⟨K1.out.below hb2 K1.out.lt, R1.out.below hb2, Below.step B1.out hb2, by unfold Pref; simp⟩
  clear hb2 K1 R1 B1 hrun
  rw [if_neg (by simp)]
  simp only [d6c]
  go_wp2
  go_loopw [8, 29] (fun V x wr => ∃ k : Nat, k ≤ 6 ∧ x = .int .i64 (k : Int) ∧ (∃ off c : Nat, off = (if k = 0 then 0 else 2 + 2 * (k - 1)) ∧ c + off = cap ∧ V = .slice (some ⟨w.heap.size + 1, off, none⟩) (13 - off) c) ∧ ∃ a, St w wr (w.heap.size + 1) 13 (numsOf t) 2 k a) (fun _ x _ => 6 - (intOf x).toNat)
  case atStart => exact ⟨0, by omega, rfl, ⟨0, cap, rfl, rfl, rfl⟩, _, HZ.out⟩
  case round =>
    obtain ⟨k, hk, rfl, ⟨off, c, hoff, hc, rfl⟩, a, hst⟩ := hrel
    have HS := Lib.hid hst
    clear hst HZ
    have ht0 := h1'
    rcases k with _ | _ | _ | _ | _ | _ | _ | k
    · obtain rfl : off = 0 := by simpa using hoff
      have hc' : 13 ≤ c := by omega
      clear hoff
      have HC := Lib.hid hc
      clear hc
      have C := Lib.hid (piece_any HS.out 0 2 (by omega) (by omega))
      have fk := HS.out.1.free 0
      have ck : wr.cell? ⟨w.heap.size, 0, none⟩ = some (.int .i64 a.y) := HS.out.1.cell 0
      cases hv : pk (numsOf t) 0 2 with
      | none =>
        rw [hv] at C
        have DN : Hid (readD (numsOf t) false = none) := Lib.hid (by rw [HD.out, parts_none (.inl hv)]; rfl)
        clear hv
        go_wp2_with fail
        refine C.out.mono ?_
        rintro e w5 ⟨rfl, rfl⟩
        simp only [Option.getD_none, Option.isSome_none]
        go_wp2
        go_ret2
        exact GivesR.bad DN.out HS.out.2.2.1
      | some v =>
        rw [hv] at C
        have HN : Hid (St w (wr.setCell ⟨w.heap.size, 0, none⟩ (.int .i64 v)) (w.heap.size + 1) 13 (numsOf t) 2 1 ⟨v, a.m, a.d, a.h, a.i, a.s⟩) := by
          refine ⟨HS.out.1.set 0 _, HS.out.2.1.far (by omega) _ _, HS.out.2.2.1.setCell (Nat.le_refl _) _, ?_⟩
          have hp := HS.out.2.2.2
          unfold Pref at hp ⊢
          obtain ⟨p0, p1, p2, p3, p4, p5⟩ := hp
          refine ⟨fun _ => ?_, fun _ => ?_, fun _ => ?_, fun _ => ?_, fun _ => ?_, fun _ => ?_⟩
          all_goals first | exact hv | exact p0 (by omega) | exact p1 (by omega) | exact p2 (by omega) | exact p3 (by omega) | exact p4 (by omega) | exact p5 (by omega) | omega
        clear hv HS
        go_wp2_with fail
        refine C.out.mono ?_
        rintro e w5 ⟨rfl, rfl⟩
        simp only [Option.getD_some, Option.isSome_some]
        clear C
        go_wp2
        go_roundw
        case rel => exact ⟨1, by omega, by go_num, ⟨2, c - 2, rfl, by have := HC.out; omega, by first | rfl | (congr 1; omega)⟩, _, HN.out⟩
        case measure => simp [intOf]
    · obtain rfl : off = 2 := by simpa using hoff
      have hc' : 11 ≤ c := by omega
      clear hoff
      have HC := Lib.hid hc
      clear hc
      have C := Lib.hid (piece_any HS.out 2 2 (by omega) (by omega))
      have fk := HS.out.1.free 1
      have ck : wr.cell? ⟨w.heap.size, 1, none⟩ = some (.int .i64 a.m) := HS.out.1.cell 1
      cases hv : pk (numsOf t) 2 2 with
      | none =>
        rw [hv] at C
        have DN : Hid (readD (numsOf t) false = none) := Lib.hid (by rw [HD.out, parts_none (.inr (.inl hv))]; rfl)
        clear hv
        go_wp2_with fail
        refine C.out.mono ?_
        rintro e w5 ⟨rfl, rfl⟩
        simp only [Option.getD_none, Option.isSome_none]
        go_wp2
        go_ret2
        exact GivesR.bad DN.out HS.out.2.2.1
      | some v =>
        rw [hv] at C
        have HN : Hid (St w (wr.setCell ⟨w.heap.size, 1, none⟩ (.int .i64 v)) (w.heap.size + 1) 13 (numsOf t) 2 2 ⟨a.y, v, a.d, a.h, a.i, a.s⟩) := by
          refine ⟨HS.out.1.set 1 _, HS.out.2.1.far (by omega) _ _, HS.out.2.2.1.setCell (Nat.le_refl _) _, ?_⟩
          have hp := HS.out.2.2.2
          unfold Pref at hp ⊢
          obtain ⟨p0, p1, p2, p3, p4, p5⟩ := hp
          refine ⟨fun _ => ?_, fun _ => ?_, fun _ => ?_, fun _ => ?_, fun _ => ?_, fun _ => ?_⟩
          all_goals first | exact hv | exact p0 (by omega) | exact p1 (by omega) | exact p2 (by omega) | exact p3 (by omega) | exact p4 (by omega) | exact p5 (by omega) | omega
        clear hv HS
        go_wp2_with fail
        refine C.out.mono ?_
        rintro e w5 ⟨rfl, rfl⟩
        simp only [Option.getD_some, Option.isSome_some]
        clear C
        go_wp2
        go_roundw
        case rel => exact ⟨2, by omega, by go_num, ⟨4, c - 2, rfl, by have := HC.out; omega, by first | rfl | (congr 1; omega)⟩, _, HN.out⟩
        case measure => simp [intOf]
    · obtain rfl : off = 4 := by simpa using hoff
      have hc' : 9 ≤ c := by omega
      clear hoff
      have HC := Lib.hid hc
      clear hc
      have C := Lib.hid (piece_any HS.out 4 2 (by omega) (by omega))
      have fk := HS.out.1.free 2
      have ck : wr.cell? ⟨w.heap.size, 2, none⟩ = some (.int .i64 a.d) := HS.out.1.cell 2
      cases hv : pk (numsOf t) 4 2 with
      | none =>
        rw [hv] at C
        have DN : Hid (readD (numsOf t) false = none) := Lib.hid (by rw [HD.out, parts_none (.inr (.inr (.inl hv)))]; rfl)
        clear hv
        go_wp2_with fail
        refine C.out.mono ?_
        rintro e w5 ⟨rfl, rfl⟩
        simp only [Option.getD_none, Option.isSome_none]
        go_wp2
        go_ret2
        exact GivesR.bad DN.out HS.out.2.2.1
      | some v =>
        rw [hv] at C
        have HN : Hid (St w (wr.setCell ⟨w.heap.size, 2, none⟩ (.int .i64 v)) (w.heap.size + 1) 13 (numsOf t) 2 3 ⟨a.y, a.m, v, a.h, a.i, a.s⟩) := by
          refine ⟨HS.out.1.set 2 _, HS.out.2.1.far (by omega) _ _, HS.out.2.2.1.setCell (Nat.le_refl _) _, ?_⟩
          have hp := HS.out.2.2.2
          unfold Pref at hp ⊢
          obtain ⟨p0, p1, p2, p3, p4, p5⟩ := hp
          refine ⟨fun _ => ?_, fun _ => ?_, fun _ => ?_, fun _ => ?_, fun _ => ?_, fun _ => ?_⟩
          all_goals first | exact hv | exact p0 (by omega) | exact p1 (by omega) | exact p2 (by omega) | exact p3 (by omega) | exact p4 (by omega) | exact p5 (by omega) | omega
        clear hv HS
        go_wp2_with fail
        refine C.out.mono ?_
        rintro e w5 ⟨rfl, rfl⟩
        simp only [Option.getD_some, Option.isSome_some]
        clear C
        go_wp2
        go_roundw
        case rel => exact ⟨3, by omega, by go_num, ⟨6, c - 2, rfl, by have := HC.out; omega, by first | rfl | (congr 1; omega)⟩, _, HN.out⟩
        case measure => simp [intOf]
    · obtain rfl : off = 6 := by simpa using hoff
      have hc' : 7 ≤ c := by omega
      clear hoff
      have HC := Lib.hid hc
      clear hc
      have C := Lib.hid (piece_any HS.out 6 2 (by omega) (by omega))
      have fk := HS.out.1.free 3
      have ck : wr.cell? ⟨w.heap.size, 3, none⟩ = some (.int .i64 a.h) := HS.out.1.cell 3
      cases hv : pk (numsOf t) 6 2 with
      | none =>
        rw [hv] at C
        have DN : Hid (readD (numsOf t) false = none) := Lib.hid (by rw [HD.out, parts_none (.inr (.inr (.inr (.inl hv))))]; rfl)
        clear hv
        go_wp2_with fail
        refine C.out.mono ?_
        rintro e w5 ⟨rfl, rfl⟩
        simp only [Option.getD_none, Option.isSome_none]
        go_wp2
        go_ret2
        exact GivesR.bad DN.out HS.out.2.2.1
      | some v =>
        rw [hv] at C
        have HN : Hid (St w (wr.setCell ⟨w.heap.size, 3, none⟩ (.int .i64 v)) (w.heap.size + 1) 13 (numsOf t) 2 4 ⟨a.y, a.m, a.d, v, a.i, a.s⟩) := by
          refine ⟨HS.out.1.set 3 _, HS.out.2.1.far (by omega) _ _, HS.out.2.2.1.setCell (Nat.le_refl _) _, ?_⟩
          have hp := HS.out.2.2.2
          unfold Pref at hp ⊢
          obtain ⟨p0, p1, p2, p3, p4, p5⟩ := hp
          refine ⟨fun _ => ?_, fun _ => ?_, fun _ => ?_, fun _ => ?_, fun _ => ?_, fun _ => ?_⟩
          all_goals first | exact hv | exact p0 (by omega) | exact p1 (by omega) | exact p2 (by omega) | exact p3 (by omega) | exact p4 (by omega) | exact p5 (by omega) | omega
        clear hv HS
        go_wp2_with fail
        refine C.out.mono ?_
        rintro e w5 ⟨rfl, rfl⟩
        simp only [Option.getD_some, Option.isSome_some]
        clear C
        go_wp2
        go_roundw
        case rel => exact ⟨4, by omega, by go_num, ⟨8, c - 2, rfl, by have := HC.out; omega, by first | rfl | (congr 1; omega)⟩, _, HN.out⟩
        case measure => simp [intOf]
    · obtain rfl : off = 8 := by simpa using hoff
      have hc' : 5 ≤ c := by omega
      clear hoff
      have HC := Lib.hid hc
      clear hc
      have C := Lib.hid (piece_any HS.out 8 2 (by omega) (by omega))
      have fk := HS.out.1.free 4
      have ck : wr.cell? ⟨w.heap.size, 4, none⟩ = some (.int .i64 a.i) := HS.out.1.cell 4
      cases hv : pk (numsOf t) 8 2 with
      | none =>
        rw [hv] at C
        have DN : Hid (readD (numsOf t) false = none) := Lib.hid (by rw [HD.out, parts_none (.inr (.inr (.inr (.inr (.inl hv)))))]; rfl)
        clear hv
        go_wp2_with fail
        refine C.out.mono ?_
        rintro e w5 ⟨rfl, rfl⟩
        simp only [Option.getD_none, Option.isSome_none]
        go_wp2
        go_ret2
        exact GivesR.bad DN.out HS.out.2.2.1
      | some v =>
        rw [hv] at C
        have HN : Hid (St w (wr.setCell ⟨w.heap.size, 4, none⟩ (.int .i64 v)) (w.heap.size + 1) 13 (numsOf t) 2 5 ⟨a.y, a.m, a.d, a.h, v, a.s⟩) := by
          refine ⟨HS.out.1.set 4 _, HS.out.2.1.far (by omega) _ _, HS.out.2.2.1.setCell (Nat.le_refl _) _, ?_⟩
          have hp := HS.out.2.2.2
          unfold Pref at hp ⊢
          obtain ⟨p0, p1, p2, p3, p4, p5⟩ := hp
          refine ⟨fun _ => ?_, fun _ => ?_, fun _ => ?_, fun _ => ?_, fun _ => ?_, fun _ => ?_⟩
          all_goals first | exact hv | exact p0 (by omega) | exact p1 (by omega) | exact p2 (by omega) | exact p3 (by omega) | exact p4 (by omega) | exact p5 (by omega) | omega
        clear hv HS
        go_wp2_with fail
        refine C.out.mono ?_
        rintro e w5 ⟨rfl, rfl⟩
        simp only [Option.getD_some, Option.isSome_some]
        clear C
        go_wp2
        go_roundw
        case rel => exact ⟨5, by omega, by go_num, ⟨10, c - 2, rfl, by have := HC.out; omega, by first | rfl | (congr 1; omega)⟩, _, HN.out⟩
        case measure => simp [intOf]
    · obtain rfl : off = 10 := by simpa using hoff
      have hc' : 3 ≤ c := by omega
      clear hoff
      have HC := Lib.hid hc
      clear hc
      have C := Lib.hid (piece_any HS.out 10 2 (by omega) (by omega))
      have fk := HS.out.1.free 5
      have ck : wr.cell? ⟨w.heap.size, 5, none⟩ = some (.int .i64 a.s) := HS.out.1.cell 5
      cases hv : pk (numsOf t) 10 2 with
      | none =>
        rw [hv] at C
        have DN : Hid (readD (numsOf t) false = none) := Lib.hid (by rw [HD.out, parts_none (.inr (.inr (.inr (.inr (.inr (hv))))))]; rfl)
        clear hv
        go_wp2_with fail
        refine C.out.mono ?_
        rintro e w5 ⟨rfl, rfl⟩
        simp only [Option.getD_none, Option.isSome_none]
        go_wp2
        go_ret2
        exact GivesR.bad DN.out HS.out.2.2.1
      | some v =>
        rw [hv] at C
        have HN : Hid (St w (wr.setCell ⟨w.heap.size, 5, none⟩ (.int .i64 v)) (w.heap.size + 1) 13 (numsOf t) 2 6 ⟨a.y, a.m, a.d, a.h, a.i, v⟩) := by
          refine ⟨HS.out.1.set 5 _, HS.out.2.1.far (by omega) _ _, HS.out.2.2.1.setCell (Nat.le_refl _) _, ?_⟩
          have hp := HS.out.2.2.2
          unfold Pref at hp ⊢
          obtain ⟨p0, p1, p2, p3, p4, p5⟩ := hp
          refine ⟨fun _ => ?_, fun _ => ?_, fun _ => ?_, fun _ => ?_, fun _ => ?_, fun _ => ?_⟩
          all_goals first | exact hv | exact p0 (by omega) | exact p1 (by omega) | exact p2 (by omega) | exact p3 (by omega) | exact p4 (by omega) | exact p5 (by omega) | omega
        clear hv HS
        go_wp2_with fail
        refine C.out.mono ?_
        rintro e w5 ⟨rfl, rfl⟩
        simp only [Option.getD_some, Option.isSome_some]
        clear C
        go_wp2
        go_roundw
        case rel => exact ⟨6, by omega, by go_num, ⟨12, c - 2, rfl, by have := HC.out; omega, by first | rfl | (congr 1; omega)⟩, _, HN.out⟩
        case measure => simp [intOf]
    · clear hoff hc
      have DS := Lib.hid (parts_some HS.out.2.2.2)
      have yr := nz_rng _ 0 a.y (by omega) (HS.out.2.2.2.1 (by omega))
      have yl : (((numsOf t).drop 0).take 2).length = 2 := by rw [List.drop_zero, List.length_take, NL.out]; omega
      rw [yl] at yr
      have y0 : 0 ≤ a.y := yr.1
      have y1 : a.y ≤ 10000 := by omega
      clear yr yl
      have RD : Hid (readD (numsOf t) false = some ⟨fullY a.y, a.m, a.d, a.h, a.i, a.s⟩) := Lib.hid (by rw [HD.out, DS.out]; rfl)
      have c0 : wr.cell? ⟨w.heap.size, 0, none⟩ = some (.int .i64 a.y) := HS.out.1.cell 0
      have f0 := HS.out.1.free 0
      have L1 : Hid (Blk (wr.setCell ⟨w.heap.size, 0, none⟩ (.int .i64 (fullY a.y))) w.heap.size 90 (d6c (fullY a.y) a.m a.d a.h a.i a.s)) := HS.out.1.set 0 _
      have LB := Lib.hid (HS.out.2.2.1.setCell (p := ⟨w.heap.size, 0, none⟩) (Nat.le_refl _) (.int .i64 (fullY a.y)))
      clear HS DS
      go_wp2_with fail
      refine (full_any a.y _ y0 (by omega)).mono ?_
      rintro e w5 ⟨rfl, hw5⟩
      subst hw5
      go_wp2_with (refine wpList_load_row rfl 90 (.tmp 7) rfl w.heap.size rfl 90 (d6c (fullY a.y) a.m a.d a.h a.i a.s) (0, 0) (.array 6 3) L1.out Tryd.underlying90 rfl (Tryd.size22 ..) ?_)
      refine (secs_any (fullY a.y) a.m a.d a.h a.i a.s _).mono ?_
      rintro e w6 ⟨rfl, hb6⟩
      have B6 := Lib.hid (Below.step LB.out hb6)
      clear hb6
      go_wp2
      go_ret2
      exact ⟨by rw [RD.out]; rfl, B6.out⟩
    · omega

set_option maxRecDepth 100000 in
set_option maxHeartbeats 8000000 in
theorem read_true (t : ByteArray) (w : World) (h1 : t.size = 15) (h2 : nth t 14 = 90) : Calls Tryd.prog 66 #[.string t, .bool true] w (GivesR w (readD (numsOf t) true)) := by
  have NL := Lib.hid (numsOf_length t)
  have hi := str_at t 14 (by omega) 14 rfl
  rw [h2] at hi
  have HD : Hid (readD (numsOf t) true = (partsOf (numsOf t) 4).map fun a => a) := by
    unfold Hid readD
    rw [if_pos ⟨by rw [NL.out, h1]; rfl, h2⟩]
    rfl
  have h1' : (t.size : Int) = 15 := by omega
  obtain ⟨i0, i1, i2, i3, i4, i5⟩ := date_index (.int .i64 4) (.int .i64 2) (.int .i64 2) (.int .i64 2) (.int .i64 2) (.int .i64 2)
  have K0 := Lib.hid (Blk.new w 90 (d6c 0 0 0 0 0 0))
  have B0 := Lib.hid ((Below.refl w.heap.size w).alloc (Nat.le_refl _) (.cells (d6c 0 0 0 0 0 0) 90))
  obtain ⟨cap, W1, hrun, hrow, hb1, hcap⟩ := bytes_of t (w.alloc (.cells (d6c 0 0 0 0 0 0) 90))
  rw [show (w.alloc (.cells (d6c 0 0 0 0 0 0) 90)).heap.size = w.heap.size + 1 by simp, h1] at hrun hrow
  have K1 : Hid (Blk W1 w.heap.size 90 (d6c 0 0 0 0 0 0)) := Lib.hid (K0.out.below hb1 (by simp))
  have B1 := Lib.hid (Below.step B0.out hb1)
  have R1 := Lib.hid hrow
  rw [h1] at hcap
  clear hrow hb1 K0 B0 h1 h2
  simp only [d6c] at hrun
  go_enter Tryd.func66, Tryd.ntmps66
  go_wp2_with fail
  refine (widths_any true _).mono ?_
  rintro e w2 ⟨rfl, hb2⟩
  have HZ : Hid (St w w2 (w.heap.size + 1) 15 (numsOf t) 4 0 zeroD) := Lib.hid ⟨K1.out.below hb2 K1.out.lt, R1.out.below hb2, Below.step B1.out hb2, by unfold Pref; simp⟩
  clear hb2 K1 R1 B1 hrun
  rw [if_pos rfl]
  simp only [d6c]
  go_wp2
  go_loopw [8, 29] (fun V x wr => ∃ k : Nat, k ≤ 6 ∧ x = .int .i64 (k : Int) ∧ (∃ off c : Nat, off = (if k = 0 then 0 else 4 + 2 * (k - 1)) ∧ c + off = cap ∧ V = .slice (some ⟨w.heap.size + 1, off, none⟩) (15 - off) c) ∧ ∃ a, St w wr (w.heap.size + 1) 15 (numsOf t) 4 k a) (fun _ x _ => 6 - (intOf x).toNat)
  case atStart => exact ⟨0, by omega, rfl, ⟨0, cap, rfl, rfl, rfl⟩, _, HZ.out⟩
  case round =>
    obtain ⟨k, hk, rfl, ⟨off, c, hoff, hc, rfl⟩, a, hst⟩ := hrel
    have HS := Lib.hid hst
    clear hst HZ
    have ht0 := h1'
    rcases k with _ | _ | _ | _ | _ | _ | _ | k
    · obtain rfl : off = 0 := by simpa using hoff
      have hc' : 15 ≤ c := by omega
      clear hoff
      have HC := Lib.hid hc
      clear hc
      have C := Lib.hid (piece_any HS.out 0 4 (by omega) (by omega))
      have fk := HS.out.1.free 0
      have ck : wr.cell? ⟨w.heap.size, 0, none⟩ = some (.int .i64 a.y) := HS.out.1.cell 0
      cases hv : pk (numsOf t) 0 4 with
      | none =>
        rw [hv] at C
        have DN : Hid (readD (numsOf t) true = none) := Lib.hid (by rw [HD.out, parts_none (.inl hv)]; rfl)
        clear hv
        go_wp2_with fail
        refine C.out.mono ?_
        rintro e w5 ⟨rfl, rfl⟩
        simp only [Option.getD_none, Option.isSome_none]
        go_wp2
        go_ret2
        exact GivesR.bad DN.out HS.out.2.2.1
      | some v =>
        rw [hv] at C
        have HN : Hid (St w (wr.setCell ⟨w.heap.size, 0, none⟩ (.int .i64 v)) (w.heap.size + 1) 15 (numsOf t) 4 1 ⟨v, a.m, a.d, a.h, a.i, a.s⟩) := by
          refine ⟨HS.out.1.set 0 _, HS.out.2.1.far (by omega) _ _, HS.out.2.2.1.setCell (Nat.le_refl _) _, ?_⟩
          have hp := HS.out.2.2.2
          unfold Pref at hp ⊢
          obtain ⟨p0, p1, p2, p3, p4, p5⟩ := hp
          refine ⟨fun _ => ?_, fun _ => ?_, fun _ => ?_, fun _ => ?_, fun _ => ?_, fun _ => ?_⟩
          all_goals first | exact hv | exact p0 (by omega) | exact p1 (by omega) | exact p2 (by omega) | exact p3 (by omega) | exact p4 (by omega) | exact p5 (by omega) | omega
        clear hv HS
        go_wp2_with fail
        refine C.out.mono ?_
        rintro e w5 ⟨rfl, rfl⟩
        simp only [Option.getD_some, Option.isSome_some]
        clear C
        go_wp2
        go_roundw
        case rel => exact ⟨1, by omega, by go_num, ⟨4, c - 4, rfl, by have := HC.out; omega, by first | rfl | (congr 1; omega)⟩, _, HN.out⟩
        case measure => simp [intOf]
    · obtain rfl : off = 4 := by simpa using hoff
      have hc' : 11 ≤ c := by omega
      clear hoff
      have HC := Lib.hid hc
      clear hc
      have C := Lib.hid (piece_any HS.out 4 2 (by omega) (by omega))
      have fk := HS.out.1.free 1
      have ck : wr.cell? ⟨w.heap.size, 1, none⟩ = some (.int .i64 a.m) := HS.out.1.cell 1
      cases hv : pk (numsOf t) 4 2 with
      | none =>
        rw [hv] at C
        have DN : Hid (readD (numsOf t) true = none) := Lib.hid (by rw [HD.out, parts_none (.inr (.inl hv))]; rfl)
        clear hv
        go_wp2_with fail
        refine C.out.mono ?_
        rintro e w5 ⟨rfl, rfl⟩
        simp only [Option.getD_none, Option.isSome_none]
        go_wp2
        go_ret2
        exact GivesR.bad DN.out HS.out.2.2.1
      | some v =>
        rw [hv] at C
        have HN : Hid (St w (wr.setCell ⟨w.heap.size, 1, none⟩ (.int .i64 v)) (w.heap.size + 1) 15 (numsOf t) 4 2 ⟨a.y, v, a.d, a.h, a.i, a.s⟩) := by
          refine ⟨HS.out.1.set 1 _, HS.out.2.1.far (by omega) _ _, HS.out.2.2.1.setCell (Nat.le_refl _) _, ?_⟩
          have hp := HS.out.2.2.2
          unfold Pref at hp ⊢
          obtain ⟨p0, p1, p2, p3, p4, p5⟩ := hp
          refine ⟨fun _ => ?_, fun _ => ?_, fun _ => ?_, fun _ => ?_, fun _ => ?_, fun _ => ?_⟩
          all_goals first | exact hv | exact p0 (by omega) | exact p1 (by omega) | exact p2 (by omega) | exact p3 (by omega) | exact p4 (by omega) | exact p5 (by omega) | omega
        clear hv HS
        go_wp2_with fail
        refine C.out.mono ?_
        rintro e w5 ⟨rfl, rfl⟩
        simp only [Option.getD_some, Option.isSome_some]
        clear C
        go_wp2
        go_roundw
        case rel => exact ⟨2, by omega, by go_num, ⟨6, c - 2, rfl, by have := HC.out; omega, by first | rfl | (congr 1; omega)⟩, _, HN.out⟩
        case measure => simp [intOf]
    · obtain rfl : off = 6 := by simpa using hoff
      have hc' : 9 ≤ c := by omega
      clear hoff
      have HC := Lib.hid hc
      clear hc
      have C := Lib.hid (piece_any HS.out 6 2 (by omega) (by omega))
      have fk := HS.out.1.free 2
      have ck : wr.cell? ⟨w.heap.size, 2, none⟩ = some (.int .i64 a.d) := HS.out.1.cell 2
      cases hv : pk (numsOf t) 6 2 with
      | none =>
        rw [hv] at C
        have DN : Hid (readD (numsOf t) true = none) := Lib.hid (by rw [HD.out, parts_none (.inr (.inr (.inl hv)))]; rfl)
        clear hv
        go_wp2_with fail
        refine C.out.mono ?_
        rintro e w5 ⟨rfl, rfl⟩
        simp only [Option.getD_none, Option.isSome_none]
        go_wp2
        go_ret2
        exact GivesR.bad DN.out HS.out.2.2.1
      | some v =>
        rw [hv] at C
        have HN : Hid (St w (wr.setCell ⟨w.heap.size, 2, none⟩ (.int .i64 v)) (w.heap.size + 1) 15 (numsOf t) 4 3 ⟨a.y, a.m, v, a.h, a.i, a.s⟩) := by
          refine ⟨HS.out.1.set 2 _, HS.out.2.1.far (by omega) _ _, HS.out.2.2.1.setCell (Nat.le_refl _) _, ?_⟩
          have hp := HS.out.2.2.2
          unfold Pref at hp ⊢
          obtain ⟨p0, p1, p2, p3, p4, p5⟩ := hp
          refine ⟨fun _ => ?_, fun _ => ?_, fun _ => ?_, fun _ => ?_, fun _ => ?_, fun _ => ?_⟩
          all_goals first | exact hv | exact p0 (by omega) | exact p1 (by omega) | exact p2 (by omega) | exact p3 (by omega) | exact p4 (by omega) | exact p5 (by omega) | omega
        clear hv HS
        go_wp2_with fail
        refine C.out.mono ?_
        rintro e w5 ⟨rfl, rfl⟩
        simp only [Option.getD_some, Option.isSome_some]
        clear C
        go_wp2
        go_roundw
        case rel => exact ⟨3, by omega, by go_num, ⟨8, c - 2, rfl, by have := HC.out; omega, by first | rfl | (congr 1; omega)⟩, _, HN.out⟩
        case measure => simp [intOf]
    · obtain rfl : off = 8 := by simpa using hoff
      have hc' : 7 ≤ c := by omega
      clear hoff
      have HC := Lib.hid hc
      clear hc
      have C := Lib.hid (piece_any HS.out 8 2 (by omega) (by omega))
      have fk := HS.out.1.free 3
      have ck : wr.cell? ⟨w.heap.size, 3, none⟩ = some (.int .i64 a.h) := HS.out.1.cell 3
      cases hv : pk (numsOf t) 8 2 with
      | none =>
        rw [hv] at C
        have DN : Hid (readD (numsOf t) true = none) := Lib.hid (by rw [HD.out, parts_none (.inr (.inr (.inr (.inl hv))))]; rfl)
        clear hv
        go_wp2_with fail
        refine C.out.mono ?_
        rintro e w5 ⟨rfl, rfl⟩
        simp only [Option.getD_none, Option.isSome_none]
        go_wp2
        go_ret2
        exact GivesR.bad DN.out HS.out.2.2.1
      | some v =>
        rw [hv] at C
        have HN : Hid (St w (wr.setCell ⟨w.heap.size, 3, none⟩ (.int .i64 v)) (w.heap.size + 1) 15 (numsOf t) 4 4 ⟨a.y, a.m, a.d, v, a.i, a.s⟩) := by
          refine ⟨HS.out.1.set 3 _, HS.out.2.1.far (by omega) _ _, HS.out.2.2.1.setCell (Nat.le_refl _) _, ?_⟩
          have hp := HS.out.2.2.2
          unfold Pref at hp ⊢
          obtain ⟨p0, p1, p2, p3, p4, p5⟩ := hp
          refine ⟨fun _ => ?_, fun _ => ?_, fun _ => ?_, fun _ => ?_, fun _ => ?_, fun _ => ?_⟩
          all_goals first | exact hv | exact p0 (by omega) | exact p1 (by omega) | exact p2 (by omega) | exact p3 (by omega) | exact p4 (by omega) | exact p5 (by omega) | omega
        clear hv HS
        go_wp2_with fail
        refine C.out.mono ?_
        rintro e w5 ⟨rfl, rfl⟩
        simp only [Option.getD_some, Option.isSome_some]
        clear C
        go_wp2
        go_roundw
        case rel => exact ⟨4, by omega, by go_num, ⟨10, c - 2, rfl, by have := HC.out; omega, by first | rfl | (congr 1; omega)⟩, _, HN.out⟩
        case measure => simp [intOf]
    · obtain rfl : off = 10 := by simpa using hoff
      have hc' : 5 ≤ c := by omega
      clear hoff
      have HC := Lib.hid hc
      clear hc
      have C := Lib.hid (piece_any HS.out 10 2 (by omega) (by omega))
      have fk := HS.out.1.free 4
      have ck : wr.cell? ⟨w.heap.size, 4, none⟩ = some (.int .i64 a.i) := HS.out.1.cell 4
      cases hv : pk (numsOf t) 10 2 with
      | none =>
        rw [hv] at C
        have DN : Hid (readD (numsOf t) true = none) := Lib.hid (by rw [HD.out, parts_none (.inr (.inr (.inr (.inr (.inl hv)))))]; rfl)
        clear hv
        go_wp2_with fail
        refine C.out.mono ?_
        rintro e w5 ⟨rfl, rfl⟩
        simp only [Option.getD_none, Option.isSome_none]
        go_wp2
        go_ret2
        exact GivesR.bad DN.out HS.out.2.2.1
      | some v =>
        rw [hv] at C
        have HN : Hid (St w (wr.setCell ⟨w.heap.size, 4, none⟩ (.int .i64 v)) (w.heap.size + 1) 15 (numsOf t) 4 5 ⟨a.y, a.m, a.d, a.h, v, a.s⟩) := by
          refine ⟨HS.out.1.set 4 _, HS.out.2.1.far (by omega) _ _, HS.out.2.2.1.setCell (Nat.le_refl _) _, ?_⟩
          have hp := HS.out.2.2.2
          unfold Pref at hp ⊢
          obtain ⟨p0, p1, p2, p3, p4, p5⟩ := hp
          refine ⟨fun _ => ?_, fun _ => ?_, fun _ => ?_, fun _ => ?_, fun _ => ?_, fun _ => ?_⟩
          all_goals first | exact hv | exact p0 (by omega) | exact p1 (by omega) | exact p2 (by omega) | exact p3 (by omega) | exact p4 (by omega) | exact p5 (by omega) | omega
        clear hv HS
        go_wp2_with fail
        refine C.out.mono ?_
        rintro e w5 ⟨rfl, rfl⟩
        simp only [Option.getD_some, Option.isSome_some]
        clear C
        go_wp2
        go_roundw
        case rel => exact ⟨5, by omega, by go_num, ⟨12, c - 2, rfl, by have := HC.out; omega, by first | rfl | (congr 1; omega)⟩, _, HN.out⟩
        case measure => simp [intOf]
    · obtain rfl : off = 12 := by simpa using hoff
      have hc' : 3 ≤ c := by omega
      clear hoff
      have HC := Lib.hid hc
      clear hc
      have C := Lib.hid (piece_any HS.out 12 2 (by omega) (by omega))
      have fk := HS.out.1.free 5
      have ck : wr.cell? ⟨w.heap.size, 5, none⟩ = some (.int .i64 a.s) := HS.out.1.cell 5
      cases hv : pk (numsOf t) 12 2 with
      | none =>
        rw [hv] at C
        have DN : Hid (readD (numsOf t) true = none) := Lib.hid (by rw [HD.out, parts_none (.inr (.inr (.inr (.inr (.inr (hv))))))]; rfl)
        clear hv
        go_wp2_with fail
        refine C.out.mono ?_
        rintro e w5 ⟨rfl, rfl⟩
        simp only [Option.getD_none, Option.isSome_none]
        go_wp2
        go_ret2
        exact GivesR.bad DN.out HS.out.2.2.1
      | some v =>
        rw [hv] at C
        have HN : Hid (St w (wr.setCell ⟨w.heap.size, 5, none⟩ (.int .i64 v)) (w.heap.size + 1) 15 (numsOf t) 4 6 ⟨a.y, a.m, a.d, a.h, a.i, v⟩) := by
          refine ⟨HS.out.1.set 5 _, HS.out.2.1.far (by omega) _ _, HS.out.2.2.1.setCell (Nat.le_refl _) _, ?_⟩
          have hp := HS.out.2.2.2
          unfold Pref at hp ⊢
          obtain ⟨p0, p1, p2, p3, p4, p5⟩ := hp
          refine ⟨fun _ => ?_, fun _ => ?_, fun _ => ?_, fun _ => ?_, fun _ => ?_, fun _ => ?_⟩
          all_goals first | exact hv | exact p0 (by omega) | exact p1 (by omega) | exact p2 (by omega) | exact p3 (by omega) | exact p4 (by omega) | exact p5 (by omega) | omega
        clear hv HS
        go_wp2_with fail
        refine C.out.mono ?_
        rintro e w5 ⟨rfl, rfl⟩
        simp only [Option.getD_some, Option.isSome_some]
        clear C
        go_wp2
        go_roundw
        case rel => exact ⟨6, by omega, by go_num, ⟨14, c - 2, rfl, by have := HC.out; omega, by first | rfl | (congr 1; omega)⟩, _, HN.out⟩
        case measure => simp [intOf]
    · clear hoff hc
      have DS := Lib.hid (parts_some HS.out.2.2.2)
      have yr := nz_rng _ 0 a.y (by omega) (HS.out.2.2.2.1 (by omega))
      have yl : (((numsOf t).drop 0).take 4).length = 4 := by rw [List.drop_zero, List.length_take, NL.out]; omega
      rw [yl] at yr
      have y0 : 0 ≤ a.y := yr.1
      have y1 : a.y ≤ 10000 := by omega
      clear yr yl
      have RD : Hid (readD (numsOf t) true = some ⟨a.y, a.m, a.d, a.h, a.i, a.s⟩) := Lib.hid (by rw [HD.out, DS.out]; rfl)
      have L1 : Hid (Blk wr w.heap.size 90 (d6c a.y a.m a.d a.h a.i a.s)) := HS.out.1
      have LB := Lib.hid HS.out.2.2.1
      clear HS DS
      go_wp2_with (refine wpList_load_row rfl 90 (.tmp 7) rfl w.heap.size rfl 90 (d6c a.y a.m a.d a.h a.i a.s) (0, 0) (.array 6 3) L1.out Tryd.underlying90 rfl (Tryd.size22 ..) ?_)
      refine (secs_any a.y a.m a.d a.h a.i a.s _).mono ?_
      rintro e w6 ⟨rfl, hb6⟩
      have B6 := Lib.hid (Below.step LB.out hb6)
      clear hb6
      go_wp2
      go_ret2
      exact ⟨by rw [RD.out]; rfl, B6.out⟩
    · omega

set_option maxHeartbeats 1000000 in
theorem read_any (t : ByteArray) (long : Bool) (w : World) : Calls Tryd.prog 66 #[.string t, .bool long] w (GivesR w (readD (numsOf t) long)) := by
  have NL := Lib.hid (numsOf_length t)
  cases long
  · by_cases h1 : t.size = 13
    · by_cases h2 : nth t 12 = 90
      · exact read_false t w h1 h2
      · have RD : Hid (readD (numsOf t) false = none) := by
          unfold Hid readD
          rw [if_neg (fun h => h2 h.2)]
        have hi := str_at t 12 (by omega) 12 rfl
        have h1' : (t.size : Int) = 13 := by omega
        generalize nth t 12 = c at hi h2
        have t2 : (c != 90) = true := by simpa using h2
        clear h1
        go_enter Tryd.func66, Tryd.ntmps66
        go_wp2
        go_ret2
        exact GivesR.bad RD.out (Below.refl _ _)
    · have RD : Hid (readD (numsOf t) false = none) := by
        unfold Hid readD
        rw [if_neg (fun h => h1 (by have := h.1; rw [NL.out] at this; exact this))]
      have t1 : ((t.size : Int) != 13) = true := by simp; omega
      go_enter Tryd.func66, Tryd.ntmps66
      go_wp2
      go_ret2
      exact GivesR.bad RD.out (Below.refl _ _)
  · by_cases h1 : t.size = 15
    · by_cases h2 : nth t 14 = 90
      · exact read_true t w h1 h2
      · have RD : Hid (readD (numsOf t) true = none) := by
          unfold Hid readD
          rw [if_neg (fun h => h2 h.2)]
        have hi := str_at t 14 (by omega) 14 rfl
        have h1' : (t.size : Int) = 15 := by omega
        generalize nth t 14 = c at hi h2
        have t2 : (c != 90) = true := by simpa using h2
        clear h1
        go_enter Tryd.func66, Tryd.ntmps66
        go_wp2
        go_ret2
        exact GivesR.bad RD.out (Below.refl _ _)
    · have RD : Hid (readD (numsOf t) true = none) := by
        unfold Hid readD
        rw [if_neg (fun h => h1 (by have := h.1; rw [NL.out] at this; exact this))]
      have t1 : ((t.size : Int) != 15) = true := by simp; omega
      go_enter Tryd.func66, Tryd.ntmps66
      go_wp2
      go_ret2
      exact GivesR.bad RD.out (Below.refl _ _)

end Go.Proofs.YtjhffnoddhlikaaDoor.Clk

namespace Go.Proofs.YtjhffnoddhlikaaDoor.Clk
open Go.RowKit

theorem pk_of {l xs ys zs : List Int} {at_ wd : Nat} (hl : l = xs ++ (ys ++ zs)) (hx : xs.length = at_) (hy : ys.length = wd) : pk l at_ wd = nz 0 ys := by
  unfold pk
  rw [hl, ← hx, List.drop_left, ← hy, List.take_left]

theorem readD_true (l : List Int) : readD l true = if l.length = 15 ∧ l[14]?.getD 0 = 90 then (partsOf l 4).map (fun a => a) else none := rfl
theorem readD_false (l : List Int) : readD l false = if l.length = 13 ∧ l[12]?.getD 0 = 90 then (partsOf l 2).map (fun a => { a with y := fullY a.y }) else none := rfl

theorem long_read {a : D6} (h : a.ok) : readD a.long true = some a := by
  obtain ⟨h1, h2, h3, h4, h5, h6, h7, h8, h9, h10, h11, h12⟩ := h
  have hl := ml_rng a.y a.m
  have e0 : a.long = [] ++ (digs 4 a.y ++ (digs 2 a.m ++ digs 2 a.d ++ digs 2 a.h ++ digs 2 a.i ++ digs 2 a.s ++ [90])) := by simp [D6.long, D6.txt]
  have e1 : a.long = digs 4 a.y ++ (digs 2 a.m ++ (digs 2 a.d ++ digs 2 a.h ++ digs 2 a.i ++ digs 2 a.s ++ [90])) := by simp [D6.long, D6.txt]
  have e2 : a.long = (digs 4 a.y ++ digs 2 a.m) ++ (digs 2 a.d ++ (digs 2 a.h ++ digs 2 a.i ++ digs 2 a.s ++ [90])) := by simp [D6.long, D6.txt]
  have e3 : a.long = (digs 4 a.y ++ digs 2 a.m ++ digs 2 a.d) ++ (digs 2 a.h ++ (digs 2 a.i ++ digs 2 a.s ++ [90])) := by simp [D6.long, D6.txt]
  have e4 : a.long = (digs 4 a.y ++ digs 2 a.m ++ digs 2 a.d ++ digs 2 a.h) ++ (digs 2 a.i ++ (digs 2 a.s ++ [90])) := by simp [D6.long, D6.txt]
  have e5 : a.long = (digs 4 a.y ++ digs 2 a.m ++ digs 2 a.d ++ digs 2 a.h ++ digs 2 a.i) ++ (digs 2 a.s ++ [90]) := by simp [D6.long, D6.txt]
  have p : Pref a.long 4 6 a := by
    refine ⟨fun _ => ?_, fun _ => ?_, fun _ => ?_, fun _ => ?_, fun _ => ?_, fun _ => ?_⟩
    · rw [pk_of (at_ := 0) e0 rfl (digs_length 4 _)]; exact nz_digs 4 _ (by omega) (by show a.y < 10000; omega)
    · rw [pk_of e1 (digs_length 4 _) (digs_length 2 _)]; exact nz_digs 2 _ (by omega) (by show a.m < 100; omega)
    · rw [pk_of e2 (by simp [digs_length]) (digs_length 2 _)]; exact nz_digs 2 _ (by omega) (by show a.d < 100; omega)
    · rw [pk_of e3 (by simp [digs_length]) (digs_length 2 _)]; exact nz_digs 2 _ (by omega) (by show a.h < 100; omega)
    · rw [pk_of e4 (by simp [digs_length]) (digs_length 2 _)]; exact nz_digs 2 _ (by omega) (by show a.i < 100; omega)
    · rw [pk_of e5 (by simp [digs_length]) (digs_length 2 _)]; exact nz_digs 2 _ (by omega) (by show a.s < 100; omega)
  rw [readD_true]
  have h14 : a.long[14]?.getD 0 = 90 := by
    unfold D6.long
    rw [List.getElem?_append_right (by simp [D6.txt, digs_length])]
    simp [D6.txt, digs_length]
  rw [if_pos ⟨D6.long_length a, h14⟩, parts_some p]
  rfl

theorem drop_piece (l : List Int) (a b : Nat) : l.drop a = (l.drop a).take b ++ l.drop (a + b) := by
  rw [← List.drop_drop, List.take_append_drop]
theorem drop_last {l : List Int} {n : Nat} (hl : l.length = n + 1) (h : l[n]?.getD 0 = 90) : l.drop n = [90] := by
  rw [List.drop_eq_getElem_cons (by omega), List.drop_of_length_le (by omega)]
  rw [List.getElem?_eq_getElem (by omega)] at h
  simpa using h

theorem pk_digs {l : List Int} {at_ wd : Nat} {v : Int} (h : pk l at_ wd = some v) (hl : at_ + wd ≤ l.length) : (l.drop at_).take wd = digs wd v ∧ 0 ≤ v ∧ v < 10 ^ wd := by
  have hlen : ((l.drop at_).take wd).length = wd := by rw [List.length_take, List.length_drop]; omega
  have d := digs_nz wd _ v hlen h
  have r := nz_rng _ 0 v (by omega) h
  rw [hlen] at r
  exact ⟨d.1.symm, d.2, by simpa using r.2⟩

theorem parts_pref {l : List Int} {o : Nat} {a : D6} (h : partsOf l o = some a) : Pref l o 6 a := by
  unfold partsOf at h
  simp only [Option.bind_eq_some_iff] at h
  obtain ⟨y, h0, m, h1, d, h2, hh, h3, i, h4, s, h5, e⟩ := h
  injection e with e
  subst e
  exact ⟨fun _ => h0, fun _ => h1, fun _ => h2, fun _ => h3, fun _ => h4, fun _ => h5⟩

/-- A text whose parts are read is the digits of these, and the end sign. -/
theorem parts_txt {l : List Int} {o : Nat} {a : D6} (h : partsOf l o = some a) (hl : l.length = o + 11) (hz : l[o + 10]?.getD 0 = 90) : l = digs o a.y ++ (digs 2 a.m ++ (digs 2 a.d ++ (digs 2 a.h ++ (digs 2 a.i ++ (digs 2 a.s ++ [90]))))) ∧ 0 ≤ a.y ∧ a.y < 10 ^ o := by
  obtain ⟨p0, p1, p2, p3, p4, p5⟩ := parts_pref h
  have q0 := pk_digs (p0 (by omega)) (by omega)
  have q1 := pk_digs (p1 (by omega)) (by omega)
  have q2 := pk_digs (p2 (by omega)) (by omega)
  have q3 := pk_digs (p3 (by omega)) (by omega)
  have q4 := pk_digs (p4 (by omega)) (by omega)
  have q5 := pk_digs (p5 (by omega)) (by omega)
  refine ⟨?_, q0.2⟩
  rw [← q0.1, ← q1.1, ← q2.1, ← q3.1, ← q4.1, ← q5.1, ← drop_last hl hz, ← drop_piece l (o + 8) 2, ← drop_piece l (o + 6) 2, ← drop_piece l (o + 4) 2, ← drop_piece l (o + 2) 2, ← drop_piece l o 2]
  have := drop_piece l 0 o
  rw [Nat.zero_add, List.drop_zero] at this
  rw [List.drop_zero]
  exact this

theorem digs4 (y : Int) : digs 4 y = digs 2 (y / 100) ++ digs 2 y := by
  simp only [digs, List.nil_append, List.cons_append]
  rw [show y / 10 / 10 / 10 = y / 100 / 10 by omega, show y / 10 / 10 = y / 100 by omega]
theorem digs2_full (n : Int) : digs 2 (fullY n) = digs 2 n := by
  have e1 : fullY n % 10 = n % 10 := by unfold fullY; split <;> omega
  have e2 : fullY n / 10 % 10 = n / 10 % 10 := by unfold fullY; split <;> omega
  simp only [digs, List.nil_append, e1, e2]

theorem short_of (a : D6) : a.long.drop 2 = digs 2 a.y ++ (digs 2 a.m ++ (digs 2 a.d ++ (digs 2 a.h ++ (digs 2 a.i ++ (digs 2 a.s ++ [90]))))) := by
  have e : a.long = digs 2 (a.y / 100) ++ (digs 2 a.y ++ (digs 2 a.m ++ (digs 2 a.d ++ (digs 2 a.h ++ (digs 2 a.i ++ (digs 2 a.s ++ [90])))))) := by simp [D6.long, D6.txt, digs4]
  rw [e]
  have := List.drop_left (l₁ := digs 2 (a.y / 100)) (l₂ := digs 2 a.y ++ (digs 2 a.m ++ (digs 2 a.d ++ (digs 2 a.h ++ (digs 2 a.i ++ (digs 2 a.s ++ [90]))))))
  rw [digs_length] at this
  exact this

theorem read_long {l : List Int} {a : D6} (h : readD l true = some a) : l = a.long := by
  rw [readD_true] at h
  by_cases hc : l.length = 15 ∧ l[14]?.getD 0 = 90
  · rw [if_pos hc] at h
    simp only [Option.map_id'] at h
    have := parts_txt h hc.1 hc.2
    rw [this.1]
    simp [D6.long, D6.txt]
  · rw [if_neg hc] at h; cases h
theorem read_short {l : List Int} {a : D6} (h : readD l false = some a) : l = a.long.drop 2 ∧ a.y < 2050 := by
  rw [readD_false] at h
  by_cases hc : l.length = 13 ∧ l[12]?.getD 0 = 90
  · rw [if_pos hc] at h
    simp only [Option.map_eq_some_iff] at h
    obtain ⟨b, hb, e⟩ := h
    subst e
    obtain ⟨h1, h2, h3⟩ := parts_txt hb hc.1 hc.2
    refine ⟨?_, ?_⟩
    · rw [short_of, digs2_full]
      exact h1
    · have : b.y < 100 := h3
      unfold fullY
      simp only
      split <;> omega
  · rw [if_neg hc] at h; cases h

/-- What Read answers of a text that has a date. -/
theorem readV_of {r : Option D6} (h : readB r = true) : ∃ a, r = some a ∧ IsDate (readV r) a := by
  cases r with
  | none => cases h
  | some a =>
    have hk : okB a = true := h
    refine ⟨a, rfl, of_decide_eq_true hk, ?_⟩
    show secs a = secsR a
    unfold secsR
    rw [if_pos hk]
theorem readV_no {r : Option D6} (h : readB r = false) : readV r = 0 := by
  cases r with
  | none => rfl
  | some a =>
    have hk : okB a = false := h
    show secsR a = 0
    unfold secsR
    rw [if_neg (by rw [hk]; simp)]

/- The calls, at a date that is known. -/
theorem secs_is {v : Int} {y m d h i s : Int} (hd : IsDate v ⟨y, m, d, h, i, s⟩) (w : World) : Calls Tryd.prog 81 #[.agg #[.int .i64 y, .int .i64 m, .int .i64 d, .int .i64 h, .int .i64 i, .int .i64 s]] w fun e w' => e = .returned (.tuple #[.int .i64 v, .bool true]) ∧ Below w.heap.size w w' :=
  (secs_any y m d h i s w).mono fun _ _ ⟨he, hb⟩ => ⟨by rw [he, secsR, okB_true hd.1, if_pos rfl, hd.2], hb⟩
theorem long_is {v : Int} {a : D6} (hd : IsDate v a) (w : World) : Calls Tryd.prog 75 #[.int .i64 v] w fun e w' => e = .returned (.tuple #[.string (strOfNums a.long), .bool true]) ∧ Below w.heap.size w w' :=
  (long_any v w).mono fun _ _ ⟨S, ok, hR, he, hb⟩ => by
    obtain ⟨rfl, rfl⟩ := hR.eq (.inl ⟨rfl, a, hd, rfl⟩)
    exact ⟨he, hb⟩
theorem short_is {v : Int} {a : D6} (hd : IsDate v a) (hy : a.y < 2050) (w : World) : Calls Tryd.prog 74 #[.int .i64 v] w fun e w' => e = .returned (.tuple #[.string (strOfNums (a.long.drop 2)), .bool true]) ∧ Below w.heap.size w w' :=
  (short_any v w).mono fun _ _ ⟨S, ok, hR, he, hb⟩ => by
    obtain ⟨rfl, rfl⟩ := hR.eq (.inl ⟨rfl, a, hd, hy, rfl⟩)
    exact ⟨he, hb⟩
theorem read_back {v : Int} {a : D6} (hd : IsDate v a) (w : World) : Calls Tryd.prog 66 #[.string (strOfNums a.long), .bool true] w fun e w' => e = .returned (.tuple #[.int .i64 v, .bool true]) ∧ Below w.heap.size w w' :=
  (read_any (strOfNums a.long) true w).mono fun _ _ ⟨he, hb⟩ => by
    rw [nums_str _ (D6.long_byte a), long_read hd.1] at he
    refine ⟨?_, hb⟩
    rw [he]
    show Ending.returned (.tuple #[.int .i64 (secsR a), .bool (okB a)]) = _
    rw [secsR, okB_true hd.1, if_pos rfl, hd.2]

end Go.Proofs.YtjhffnoddhlikaaDoor.Clk
