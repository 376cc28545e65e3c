/-
  What the reference's part and Read answer, for stage 3 (clock).
-/
import Derived.Test.YtebefamnmmbdnaaBack
import Derived.Test.YtebefamnmmbdnaaRefSecs
import Derived.Deep.QuietTactic
import Derived.BigQuiet
namespace Go.Proofs.Ytebefamnmmbdnaa
open Go.RowKit

/-- Two digits at a place; 999, where they are none. -/
def pz (l : List Int) (k : Nat) : Int := (pk l k 2).getD 999

theorem pk_two {l : List Int} {k : Nat} (h : k + 1 < l.length) : pk l k 2 = nz 0 [l[k]?.getD 0, l[k + 1]?.getD 0] := by
  unfold pk
  rw [List.drop_eq_getElem_cons (by omega), List.drop_eq_getElem_cons (by omega), List.getElem?_eq_getElem (by omega), List.getElem?_eq_getElem (by omega)]
  rfl

theorem keeps_drewN {B : Nat} {w W : World} (k : Below B w W) (m : Nat) : Below B w (W.drewN m) := { k with }

set_option maxHeartbeats 1000000 in
theorem part_any (t : ByteArray) (k : Nat) (x : Int) (w : World) (hx : x = k) (h : k + 1 < t.size) (hs : t.size ≤ 100) : Calls Try.prog 34 #[.string t, .int .i64 x] w fun e w' => e = .returned (.int .i64 (pz (numsOf t) k)) ∧ Below w.heap.size w w' := by
  have hi := str_at t k (by omega) x hx
  have hi2 := str_at t (k + 1) (by omega) (x + 1) (by omega)
  have b0 := nth_range t k
  have b1 := nth_range t (k + 1)
  have E : Hid (pz (numsOf t) k = (nz 0 [nth t k, nth t (k + 1)]).getD 999) := by unfold Hid pz; rw [pk_two (by rw [numsOf_length]; exact h)]; rfl
  generalize nth t k = c at hi b0 E
  generalize nth t (k + 1) = d at hi2 b1 E
  have hx1 : 0 ≤ x := by omega
  have hx2 : x ≤ 100 := by omega
  clear hx
  by_cases c1 : c < 48
  · have t1 : decide (c < 48) = true := by simpa using c1
    have V : Hid (pz (numsOf t) k = 999) := by unfold Hid; rw [E.out, nz, if_neg (by omega)]; rfl
    go_enter Try.func34, Try.ntmps34
    go_wp2
    go_ret
    exact ⟨same_int V.out.symm, Below.refl _ _⟩
  have t1 : decide (c < 48) = false := by simpa using c1
  by_cases c2 : 57 < c
  · have t2 : decide (57 < c) = true := by simpa using c2
    have V : Hid (pz (numsOf t) k = 999) := by unfold Hid; rw [E.out, nz, if_neg (by omega)]; rfl
    go_enter Try.func34, Try.ntmps34
    go_wp2
    go_ret
    exact ⟨same_int V.out.symm, Below.refl _ _⟩
  have t2 : decide (57 < c) = false := by simpa using c2
  by_cases c3 : d < 48
  · have t3 : decide (d < 48) = true := by simpa using c3
    have V : Hid (pz (numsOf t) k = 999) := by unfold Hid; rw [E.out, nz, if_pos (by omega), nz, if_neg (by omega)]; rfl
    go_enter Try.func34, Try.ntmps34
    go_wp2
    go_ret
    exact ⟨same_int V.out.symm, Below.refl _ _⟩
  have t3 : decide (d < 48) = false := by simpa using c3
  by_cases c4 : 57 < d
  · have t4 : decide (57 < d) = true := by simpa using c4
    have V : Hid (pz (numsOf t) k = 999) := by unfold Hid; rw [E.out, nz, if_pos (by omega), nz, if_neg (by omega)]; rfl
    go_enter Try.func34, Try.ntmps34
    go_wp2
    go_ret
    exact ⟨same_int V.out.symm, Below.refl _ _⟩
  have t4 : decide (57 < d) = false := by simpa using c4
  have V : Hid (pz (numsOf t) k = (c - 48) * 10 + (d - 48)) := by unfold Hid; rw [E.out, nz, if_pos (by omega), nz, if_pos (by omega), nz]; simp
  have w1 : IntKind.i64.wrap (x + 1) = x + 1 := IntWalk.i64_in _ (by omega)
  have u1 : IntKind.u8.wrap (c - 48) = c - 48 := IntWalk.u8_in _ (by omega)
  have u2 : IntKind.u8.wrap (d - 48) = d - 48 := IntWalk.u8_in _ (by omega)
  have w2 : IntKind.i64.wrap (c - 48) = c - 48 := IntWalk.i64_in _ (by omega)
  have w3 : IntKind.i64.wrap (d - 48) = d - 48 := IntWalk.i64_in _ (by omega)
  have w4 : IntKind.i64.wrap ((c - 48) * 10) = (c - 48) * 10 := IntWalk.i64_in _ (by omega)
  have w5 : IntKind.i64.wrap ((c - 48) * 10 + (d - 48)) = (c - 48) * 10 + (d - 48) := IntWalk.i64_in _ (by omega)
  go_enter Try.func34, Try.ntmps34
  go_wp2
  go_quiet (fail)
  go_wp2
  go_ret
  exact ⟨same_int V.out.symm, keeps_drewN (Below.refl _ _) _⟩

theorem nz_app : ∀ (xs ys : List Int) (v : Int), nz v (xs ++ ys) = (nz v xs).bind (fun n => nz n ys)
  | [], ys, v => rfl
  | x :: xs, ys, v => by
    simp only [List.cons_append, nz]
    split
    · exact nz_app xs ys _
    · rfl
theorem nz_shift (c d v : Int) : nz v [c, d] = (nz 0 [c, d]).map (fun n => v * 100 + n) := by
  simp only [nz]
  split
  · split
    · simp
      omega
    · rfl
  · rfl
theorem pk_four {l : List Int} (h : 4 ≤ l.length) : pk l 0 4 = (pk l 0 2).bind (fun a => (pk l 2 2).map (fun b => a * 100 + b)) := by
  have e : (l.drop 0).take 4 = [l[0]?.getD 0, l[1]?.getD 0] ++ [l[2]?.getD 0, l[3]?.getD 0] := by
    rw [List.drop_eq_getElem_cons (by omega), List.drop_eq_getElem_cons (by omega), List.drop_eq_getElem_cons (by omega), List.drop_eq_getElem_cons (by omega), List.getElem?_eq_getElem (by omega), List.getElem?_eq_getElem (by omega), List.getElem?_eq_getElem (by omega), List.getElem?_eq_getElem (by omega)]
    rfl
  rw [pk_two (k := 0) (by omega), pk_two (k := 2) (by omega), pk, e, nz_app]
  cases nz 0 [l[0]?.getD 0, l[0 + 1]?.getD 0] with
  | none => rfl
  | some a => exact nz_shift _ _ a

/-- Where a part is no number, there is no date. -/
theorem ref_parts {l : List Int} {o : Nat} {Y y0 : Int} (hy : pk l 0 o = some y0) : (∃ a, partsOf l o = some a ∧ a.y = y0 ∧ (⟨Y, pz l o, pz l (o + 2), pz l (o + 4), pz l (o + 6), pz l (o + 8)⟩ : D6) = { a with y := Y }) ∨
    (partsOf l o = none ∧ ¬ (⟨Y, pz l o, pz l (o + 2), pz l (o + 4), pz l (o + 6), pz l (o + 8)⟩ : D6).ok) := by
  unfold partsOf pz
  rw [hy]
  cases h1 : pk l o 2 with
  | none => exact .inr ⟨rfl, by unfold D6.ok; simp⟩
  | some m =>
    cases h2 : pk l (o + 2) 2 with
    | none => exact .inr ⟨rfl, by have := ml_rng Y m; unfold D6.ok; simp; omega⟩
    | some d =>
      cases h3 : pk l (o + 4) 2 with
      | none => exact .inr ⟨rfl, by unfold D6.ok; simp⟩
      | some hh =>
        cases h4 : pk l (o + 6) 2 with
        | none => exact .inr ⟨rfl, by unfold D6.ok; simp⟩
        | some i =>
          cases h5 : pk l (o + 8) 2 with
          | none => exact .inr ⟨rfl, by unfold D6.ok; simp⟩
          | some s => exact .inl ⟨_, rfl, rfl, rfl⟩

theorem no_secs {a : D6} (h : ¬ a.ok) : secsR a = 0 ∧ okB a = false := by
  refine ⟨?_, okB_false h⟩
  unfold secsR
  rw [if_neg (by rw [okB_false h]; simp)]

/-- The reference's date of a text with four digits of its year. -/
theorem ref_long {l : List Int} {a b : Int} (h1 : l.length = 15 ∧ l[14]?.getD 0 = 90) (ha : pk l 0 2 = some a) (hb : pk l 2 2 = some b) :
    secsR ⟨a * 100 + b, pz l 4, pz l 6, pz l 8, pz l 10, pz l 12⟩ = readV (readD l true) ∧ okB ⟨a * 100 + b, pz l 4, pz l 6, pz l 8, pz l 10, pz l 12⟩ = readB (readD l true) := by
  have hy : pk l 0 4 = some (a * 100 + b) := by rw [pk_four (by omega), ha, hb]; rfl
  rw [readD_true, if_pos h1]
  rcases ref_parts (Y := a * 100 + b) hy with ⟨c, hc, hcy, e⟩ | ⟨hn, hno⟩
  · rw [hc]
    have e' : (⟨a * 100 + b, pz l 4, pz l 6, pz l 8, pz l 10, pz l 12⟩ : D6) = c := by rw [← hcy] at e ⊢; exact e
    rw [e']
    exact ⟨rfl, rfl⟩
  · rw [hn]
    exact no_secs hno
theorem ref_long_no {l : List Int} (h1 : l.length = 15) (h : pk l 0 2 = none ∨ pk l 2 2 = none) : readD l true = none := by
  have hy : pk l 0 4 = none := by
    rw [pk_four (by omega)]
    rcases h with h | h
    · rw [h]; rfl
    · rw [h]; cases pk l 0 2 <;> rfl
  rw [readD_true]
  split
  · rw [parts_none (.inl hy)]; rfl
  · rfl
theorem ref_short {l : List Int} {Y : Int} (h1 : l.length = 13 ∧ l[12]?.getD 0 = 90) (hY : Y = if pz l 0 < 50 then pz l 0 + 2000 else pz l 0 + 1900) :
    secsR ⟨Y, pz l 2, pz l 4, pz l 6, pz l 8, pz l 10⟩ = readV (readD l false) ∧ okB ⟨Y, pz l 2, pz l 4, pz l 6, pz l 8, pz l 10⟩ = readB (readD l false) := by
  rw [readD_false, if_pos h1]
  cases hp : pk l 0 2 with
  | none =>
    rw [parts_none (.inl hp)]
    have : pz l 0 = 999 := by unfold pz; rw [hp]; rfl
    rw [this, if_neg (by omega)] at hY
    subst hY
    exact no_secs (by unfold D6.ok; simp)
  | some y =>
    have hz : pz l 0 = y := by unfold pz; rw [hp]; rfl
    have hf : Y = fullY y := by rw [hY, hz]; unfold fullY; split <;> split <;> omega
    rcases ref_parts (Y := Y) hp with ⟨c, hc, hcy, e⟩ | ⟨hn, hno⟩
    · rw [hc]
      have e' : (⟨Y, pz l 2, pz l 4, pz l 6, pz l 8, pz l 10⟩ : D6) = { c with y := fullY c.y } := by rw [hcy, ← hf]; exact e
      rw [e']
      exact ⟨rfl, rfl⟩
    · rw [hn]
      exact no_secs hno

theorem pz_rng (l : List Int) (k : Nat) : 0 ≤ pz l k ∧ pz l k ≤ 999 := by
  unfold pz
  cases h : pk l k 2 with
  | none => simp
  | some v =>
    have r := nz_rng _ 0 v (by omega) h
    have hl : ((l.drop k).take 2).length ≤ 2 := List.length_take_le _ _
    refine ⟨r.1, ?_⟩
    simp only [Option.getD_some]
    generalize ((l.drop k).take 2).length = n at r hl
    rcases (show n = 0 ∨ n = 1 ∨ n = 2 by omega) with rfl | rfl | rfl <;> omega
theorem pz_some {l : List Int} {k : Nat} (h : pz l k ≠ 999) : pk l k 2 = some (pz l k) := by
  unfold pz at h ⊢
  cases hk : pk l k 2 with
  | none => rw [hk] at h; exact absurd rfl h
  | some v => rfl
theorem pz_none {l : List Int} {k : Nat} (h : pz l k = 999) : pk l k 2 = none := by
  cases hk : pk l k 2 with
  | none => rfl
  | some v =>
    unfold pz at h
    rw [hk] at h
    have r := nz_rng _ 0 v (by omega) hk
    have hl : ((l.drop k).take 2).length ≤ 2 := List.length_take_le _ _
    simp only [Option.getD_some] at h
    subst h
    generalize ((l.drop k).take 2).length = n at r hl
    rcases (show n = 0 ∨ n = 1 ∨ n = 2 by omega) with rfl | rfl | rfl <;> omega

set_option maxRecDepth 100000 in
set_option maxHeartbeats 4000000 in
theorem rread_short (t : ByteArray) (w : World) (h1 : t.size = 13) (h2 : nth t 12 = 90) : Calls Try.prog 20 #[.string t, .bool false] w (GivesR w (readD (numsOf t) false)) := by
  have hi := str_at t 12 (by omega) 12 rfl
  rw [h2] at hi
  have hl : (numsOf t).length = 13 ∧ (numsOf t)[12]?.getD 0 = 90 := ⟨by rw [numsOf_length]; exact h1, h2⟩
  have Bw : Hid (Below w.heap.size w w) := Lib.hid (Below.refl _ _)
  have h1' : (t.size : Int) = 13 := by omega
  have r0 := pz_rng (numsOf t) 0
  have HY : Hid (∀ Y, (Y = if pz (numsOf t) 0 < 50 then pz (numsOf t) 0 + 2000 else pz (numsOf t) 0 + 1900) → secsR ⟨Y, pz (numsOf t) 2, pz (numsOf t) 4, pz (numsOf t) 6, pz (numsOf t) 8, pz (numsOf t) 10⟩ = readV (readD (numsOf t) false) ∧ okB ⟨Y, pz (numsOf t) 2, pz (numsOf t) 4, pz (numsOf t) 6, pz (numsOf t) 8, pz (numsOf t) 10⟩ = readB (readD (numsOf t) false)) := Lib.hid (fun Y hY => ref_short hl hY)
  clear hl h2
  by_cases c : pz (numsOf t) 0 < 50
  · have EQ := Lib.hid (HY.out (pz (numsOf t) 0 + 2000) (by rw [if_pos c]))
    have t1 : decide (pz (numsOf t) 0 < 50) = true := by simpa using c
    clear HY
    go_enter Try.func20, Try.ntmps20
    go_wp2_with fail
    refine (part_any t 0 _ _ (by rfl) (by omega) (by omega)).mono ?_
    rintro e p0 ⟨rfl, hb_p0⟩
    have Bp0 := Lib.hid (Below.step Bw.out hb_p0)
    clear hb_p0
    go_wp2_with fail
    refine (part_any t 2 _ _ (by rfl) (by omega) (by omega)).mono ?_
    rintro e q0 ⟨rfl, hb_q0⟩
    have Bq0 := Lib.hid (Below.step Bp0.out hb_q0)
    clear hb_q0
    go_wp2_with fail
    refine (part_any t 4 _ _ (by rfl) (by omega) (by omega)).mono ?_
    rintro e q1 ⟨rfl, hb_q1⟩
    have Bq1 := Lib.hid (Below.step Bq0.out hb_q1)
    clear hb_q1
    go_wp2_with fail
    refine (part_any t 6 _ _ (by rfl) (by omega) (by omega)).mono ?_
    rintro e q2 ⟨rfl, hb_q2⟩
    have Bq2 := Lib.hid (Below.step Bq1.out hb_q2)
    clear hb_q2
    go_wp2_with fail
    refine (part_any t 8 _ _ (by rfl) (by omega) (by omega)).mono ?_
    rintro e q3 ⟨rfl, hb_q3⟩
    have Bq3 := Lib.hid (Below.step Bq2.out hb_q3)
    clear hb_q3
    go_wp2_with fail
    refine (part_any t 10 _ _ (by rfl) (by omega) (by omega)).mono ?_
    rintro e q4 ⟨rfl, hb_q4⟩
    have Bq4 := Lib.hid (Below.step Bq3.out hb_q4)
    clear hb_q4
    go_wp2_with fail
    refine (rsecs_any (pz (numsOf t) 0 + 2000) (pz (numsOf t) 2) (pz (numsOf t) 4) (pz (numsOf t) 6) (pz (numsOf t) 8) (pz (numsOf t) 10) _).mono ?_
    rintro e qz ⟨rfl, hbz⟩
    have BZ := Lib.hid (Below.step Bq4.out hbz)
    clear hbz
    go_wp2
    go_ret2
    exact ⟨by rw [← EQ.out.1, ← EQ.out.2]; rfl, BZ.out⟩
  · have EQ := Lib.hid (HY.out (pz (numsOf t) 0 + 1900) (by rw [if_neg c]))
    have t1 : decide (pz (numsOf t) 0 < 50) = false := by simpa using c
    clear HY
    go_enter Try.func20, Try.ntmps20
    go_wp2_with fail
    refine (part_any t 0 _ _ (by rfl) (by omega) (by omega)).mono ?_
    rintro e p0 ⟨rfl, hb_p0⟩
    have Bp0 := Lib.hid (Below.step Bw.out hb_p0)
    clear hb_p0
    go_wp2_with fail
    refine (part_any t 2 _ _ (by rfl) (by omega) (by omega)).mono ?_
    rintro e q0 ⟨rfl, hb_q0⟩
    have Bq0 := Lib.hid (Below.step Bp0.out hb_q0)
    clear hb_q0
    go_wp2_with fail
    refine (part_any t 4 _ _ (by rfl) (by omega) (by omega)).mono ?_
    rintro e q1 ⟨rfl, hb_q1⟩
    have Bq1 := Lib.hid (Below.step Bq0.out hb_q1)
    clear hb_q1
    go_wp2_with fail
    refine (part_any t 6 _ _ (by rfl) (by omega) (by omega)).mono ?_
    rintro e q2 ⟨rfl, hb_q2⟩
    have Bq2 := Lib.hid (Below.step Bq1.out hb_q2)
    clear hb_q2
    go_wp2_with fail
    refine (part_any t 8 _ _ (by rfl) (by omega) (by omega)).mono ?_
    rintro e q3 ⟨rfl, hb_q3⟩
    have Bq3 := Lib.hid (Below.step Bq2.out hb_q3)
    clear hb_q3
    go_wp2_with fail
    refine (part_any t 10 _ _ (by rfl) (by omega) (by omega)).mono ?_
    rintro e q4 ⟨rfl, hb_q4⟩
    have Bq4 := Lib.hid (Below.step Bq3.out hb_q4)
    clear hb_q4
    go_wp2_with fail
    refine (rsecs_any (pz (numsOf t) 0 + 1900) (pz (numsOf t) 2) (pz (numsOf t) 4) (pz (numsOf t) 6) (pz (numsOf t) 8) (pz (numsOf t) 10) _).mono ?_
    rintro e qz ⟨rfl, hbz⟩
    have BZ := Lib.hid (Below.step Bq4.out hbz)
    clear hbz
    go_wp2
    go_ret2
    exact ⟨by rw [← EQ.out.1, ← EQ.out.2]; rfl, BZ.out⟩

set_option maxRecDepth 100000 in
set_option maxHeartbeats 4000000 in
theorem rread_long (t : ByteArray) (w : World) (h1 : t.size = 15) (h2 : nth t 14 = 90) : Calls Try.prog 20 #[.string t, .bool true] w (GivesR w (readD (numsOf t) true)) := by
  have hi := str_at t 14 (by omega) 14 rfl
  rw [h2] at hi
  have hl : (numsOf t).length = 15 ∧ (numsOf t)[14]?.getD 0 = 90 := ⟨by rw [numsOf_length]; exact h1, h2⟩
  have Bw : Hid (Below w.heap.size w w) := Lib.hid (Below.refl _ _)
  have h1' : (t.size : Int) = 15 := by omega
  have r0 := pz_rng (numsOf t) 0
  have r2 := pz_rng (numsOf t) 2
  have HL := Lib.hid hl
  clear h2 hl
  by_cases c : pz (numsOf t) 0 = 999
  · have RD := Lib.hid (ref_long_no HL.out.1 (.inl (pz_none c)))
    have t1 : (pz (numsOf t) 0 == 999) = true := by simpa using c
    clear c
    go_enter Try.func20, Try.ntmps20
    go_wp2_with fail
    refine (part_any t 0 _ _ (by rfl) (by omega) (by omega)).mono ?_
    rintro e p0 ⟨rfl, hb_p0⟩
    have Bp0 := Lib.hid (Below.step Bw.out hb_p0)
    clear hb_p0
    go_wp2
    go_ret2
    exact GivesR.bad RD.out Bp0.out
  · have t1 : (pz (numsOf t) 0 == 999) = false := by simpa using c
    by_cases c2 : pz (numsOf t) 2 = 999
    · have RD := Lib.hid (ref_long_no HL.out.1 (.inr (pz_none c2)))
      have t2 : (pz (numsOf t) 2 == 999) = true := by simpa using c2
      clear c c2
      go_enter Try.func20, Try.ntmps20
      go_wp2_with fail
      refine (part_any t 0 _ _ (by rfl) (by omega) (by omega)).mono ?_
      rintro e p0 ⟨rfl, hb_p0⟩
      have Bp0 := Lib.hid (Below.step Bw.out hb_p0)
      clear hb_p0
      go_wp2_with fail
      refine (part_any t 2 _ _ (by rfl) (by omega) (by omega)).mono ?_
      rintro e p1 ⟨rfl, hb_p1⟩
      have Bp1 := Lib.hid (Below.step Bp0.out hb_p1)
      clear hb_p1
      go_wp2
      go_ret2
      exact GivesR.bad RD.out Bp1.out
    · have t2 : (pz (numsOf t) 2 == 999) = false := by simpa using c2
      have EQ := Lib.hid (ref_long HL.out (pz_some c) (pz_some c2))
      clear c c2
      go_enter Try.func20, Try.ntmps20
      go_wp2_with fail
      refine (part_any t 0 _ _ (by rfl) (by omega) (by omega)).mono ?_
      rintro e p0 ⟨rfl, hb_p0⟩
      have Bp0 := Lib.hid (Below.step Bw.out hb_p0)
      clear hb_p0
      go_wp2_with fail
      refine (part_any t 2 _ _ (by rfl) (by omega) (by omega)).mono ?_
      rintro e p1 ⟨rfl, hb_p1⟩
      have Bp1 := Lib.hid (Below.step Bp0.out hb_p1)
      clear hb_p1
      go_wp2_with fail
      refine (part_any t 2 _ _ (by rfl) (by omega) (by omega)).mono ?_
      rintro e p2 ⟨rfl, hb_p2⟩
      have Bp2 := Lib.hid (Below.step Bp1.out hb_p2)
      clear hb_p2
      go_wp2_with fail
      refine (part_any t 4 _ _ (by rfl) (by omega) (by omega)).mono ?_
      rintro e q0 ⟨rfl, hb_q0⟩
      have Bq0 := Lib.hid (Below.step Bp2.out hb_q0)
      clear hb_q0
      go_wp2_with fail
      refine (part_any t 6 _ _ (by rfl) (by omega) (by omega)).mono ?_
      rintro e q1 ⟨rfl, hb_q1⟩
      have Bq1 := Lib.hid (Below.step Bq0.out hb_q1)
      clear hb_q1
      go_wp2_with fail
      refine (part_any t 8 _ _ (by rfl) (by omega) (by omega)).mono ?_
      rintro e q2 ⟨rfl, hb_q2⟩
      have Bq2 := Lib.hid (Below.step Bq1.out hb_q2)
      clear hb_q2
      go_wp2_with fail
      refine (part_any t 10 _ _ (by rfl) (by omega) (by omega)).mono ?_
      rintro e q3 ⟨rfl, hb_q3⟩
      have Bq3 := Lib.hid (Below.step Bq2.out hb_q3)
      clear hb_q3
      go_wp2_with fail
      refine (part_any t 12 _ _ (by rfl) (by omega) (by omega)).mono ?_
      rintro e q4 ⟨rfl, hb_q4⟩
      have Bq4 := Lib.hid (Below.step Bq3.out hb_q4)
      clear hb_q4
      go_wp2_with fail
      refine (rsecs_any (pz (numsOf t) 0 * 100 + pz (numsOf t) 2) (pz (numsOf t) 4) (pz (numsOf t) 6) (pz (numsOf t) 8) (pz (numsOf t) 10) (pz (numsOf t) 12) _).mono ?_
      rintro e qz ⟨rfl, hbz⟩
      have BZ := Lib.hid (Below.step Bq4.out hbz)
      clear hbz
      go_wp2
      go_ret2
      exact ⟨by rw [← EQ.out.1, ← EQ.out.2]; rfl, BZ.out⟩

end Go.Proofs.Ytebefamnmmbdnaa
