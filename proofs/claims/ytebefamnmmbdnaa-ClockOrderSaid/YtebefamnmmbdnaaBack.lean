/-
  Dates and texts undo one another, for stage 3 (clock): plain facts on lists.
-/
import Derived.Test.YtebefamnmmbdnaaRead
import Derived.Test.YtebefamnmmbdnaaTexts
namespace Go.Proofs.Ytebefamnmmbdnaa
open Go.RowKit

theorem pk_of {l xs ys zs : List Int} {at_ wd : Nat} (hl : l = xs ++ (ys ++ zs)) (hx : xs.length = at_) (hy : ys.length = wd) : pk l at_ wd = nz 0 ys := by
  unfold pk
  rw [hl, ← hx, List.drop_left, ← hy, List.take_left]

theorem readD_true (l : List Int) : readD l true = if l.length = 15 ∧ l[14]?.getD 0 = 90 then (partsOf l 4).map (fun a => a) else none := rfl
theorem readD_false (l : List Int) : readD l false = if l.length = 13 ∧ l[12]?.getD 0 = 90 then (partsOf l 2).map (fun a => { a with y := fullY a.y }) else none := rfl

theorem long_read {a : D6} (h : a.ok) : readD a.long true = some a := by
  obtain ⟨h1, h2, h3, h4, h5, h6, h7, h8, h9, h10, h11, h12⟩ := h
  have hl := ml_rng a.y a.m
  have e0 : a.long = [] ++ (digs 4 a.y ++ (digs 2 a.m ++ digs 2 a.d ++ digs 2 a.h ++ digs 2 a.i ++ digs 2 a.s ++ [90])) := by simp [D6.long, D6.txt]
  have e1 : a.long = digs 4 a.y ++ (digs 2 a.m ++ (digs 2 a.d ++ digs 2 a.h ++ digs 2 a.i ++ digs 2 a.s ++ [90])) := by simp [D6.long, D6.txt]
  have e2 : a.long = (digs 4 a.y ++ digs 2 a.m) ++ (digs 2 a.d ++ (digs 2 a.h ++ digs 2 a.i ++ digs 2 a.s ++ [90])) := by simp [D6.long, D6.txt]
  have e3 : a.long = (digs 4 a.y ++ digs 2 a.m ++ digs 2 a.d) ++ (digs 2 a.h ++ (digs 2 a.i ++ digs 2 a.s ++ [90])) := by simp [D6.long, D6.txt]
  have e4 : a.long = (digs 4 a.y ++ digs 2 a.m ++ digs 2 a.d ++ digs 2 a.h) ++ (digs 2 a.i ++ (digs 2 a.s ++ [90])) := by simp [D6.long, D6.txt]
  have e5 : a.long = (digs 4 a.y ++ digs 2 a.m ++ digs 2 a.d ++ digs 2 a.h ++ digs 2 a.i) ++ (digs 2 a.s ++ [90]) := by simp [D6.long, D6.txt]
  have p : Pref a.long 4 6 a := by
    refine ⟨fun _ => ?_, fun _ => ?_, fun _ => ?_, fun _ => ?_, fun _ => ?_, fun _ => ?_⟩
    · rw [pk_of (at_ := 0) e0 rfl (digs_length 4 _)]; exact nz_digs 4 _ (by omega) (by show a.y < 10000; omega)
    · rw [pk_of e1 (digs_length 4 _) (digs_length 2 _)]; exact nz_digs 2 _ (by omega) (by show a.m < 100; omega)
    · rw [pk_of e2 (by simp [digs_length]) (digs_length 2 _)]; exact nz_digs 2 _ (by omega) (by show a.d < 100; omega)
    · rw [pk_of e3 (by simp [digs_length]) (digs_length 2 _)]; exact nz_digs 2 _ (by omega) (by show a.h < 100; omega)
    · rw [pk_of e4 (by simp [digs_length]) (digs_length 2 _)]; exact nz_digs 2 _ (by omega) (by show a.i < 100; omega)
    · rw [pk_of e5 (by simp [digs_length]) (digs_length 2 _)]; exact nz_digs 2 _ (by omega) (by show a.s < 100; omega)
  rw [readD_true]
  have h14 : a.long[14]?.getD 0 = 90 := by
    unfold D6.long
    rw [List.getElem?_append_right (by simp [D6.txt, digs_length])]
    simp [D6.txt, digs_length]
  rw [if_pos ⟨D6.long_length a, h14⟩, parts_some p]
  rfl

theorem drop_piece (l : List Int) (a b : Nat) : l.drop a = (l.drop a).take b ++ l.drop (a + b) := by
  rw [← List.drop_drop, List.take_append_drop]
theorem drop_last {l : List Int} {n : Nat} (hl : l.length = n + 1) (h : l[n]?.getD 0 = 90) : l.drop n = [90] := by
  rw [List.drop_eq_getElem_cons (by omega), List.drop_of_length_le (by omega)]
  rw [List.getElem?_eq_getElem (by omega)] at h
  simpa using h

theorem pk_digs {l : List Int} {at_ wd : Nat} {v : Int} (h : pk l at_ wd = some v) (hl : at_ + wd ≤ l.length) : (l.drop at_).take wd = digs wd v ∧ 0 ≤ v ∧ v < 10 ^ wd := by
  have hlen : ((l.drop at_).take wd).length = wd := by rw [List.length_take, List.length_drop]; omega
  have d := digs_nz wd _ v hlen h
  have r := nz_rng _ 0 v (by omega) h
  rw [hlen] at r
  exact ⟨d.1.symm, d.2, by simpa using r.2⟩

theorem parts_pref {l : List Int} {o : Nat} {a : D6} (h : partsOf l o = some a) : Pref l o 6 a := by
  unfold partsOf at h
  simp only [Option.bind_eq_some_iff] at h
  obtain ⟨y, h0, m, h1, d, h2, hh, h3, i, h4, s, h5, e⟩ := h
  injection e with e
  subst e
  exact ⟨fun _ => h0, fun _ => h1, fun _ => h2, fun _ => h3, fun _ => h4, fun _ => h5⟩

/-- A text whose parts are read is the digits of these, and the end sign. -/
theorem parts_txt {l : List Int} {o : Nat} {a : D6} (h : partsOf l o = some a) (hl : l.length = o + 11) (hz : l[o + 10]?.getD 0 = 90) : l = digs o a.y ++ (digs 2 a.m ++ (digs 2 a.d ++ (digs 2 a.h ++ (digs 2 a.i ++ (digs 2 a.s ++ [90]))))) ∧ 0 ≤ a.y ∧ a.y < 10 ^ o := by
  obtain ⟨p0, p1, p2, p3, p4, p5⟩ := parts_pref h
  have q0 := pk_digs (p0 (by omega)) (by omega)
  have q1 := pk_digs (p1 (by omega)) (by omega)
  have q2 := pk_digs (p2 (by omega)) (by omega)
  have q3 := pk_digs (p3 (by omega)) (by omega)
  have q4 := pk_digs (p4 (by omega)) (by omega)
  have q5 := pk_digs (p5 (by omega)) (by omega)
  refine ⟨?_, q0.2⟩
  rw [← q0.1, ← q1.1, ← q2.1, ← q3.1, ← q4.1, ← q5.1, ← drop_last hl hz, ← drop_piece l (o + 8) 2, ← drop_piece l (o + 6) 2, ← drop_piece l (o + 4) 2, ← drop_piece l (o + 2) 2, ← drop_piece l o 2]
  have := drop_piece l 0 o
  rw [Nat.zero_add, List.drop_zero] at this
  rw [List.drop_zero]
  exact this

theorem digs4 (y : Int) : digs 4 y = digs 2 (y / 100) ++ digs 2 y := by
  simp only [digs, List.nil_append, List.cons_append]
  rw [show y / 10 / 10 / 10 = y / 100 / 10 by omega, show y / 10 / 10 = y / 100 by omega]
theorem digs2_full (n : Int) : digs 2 (fullY n) = digs 2 n := by
  have e1 : fullY n % 10 = n % 10 := by unfold fullY; split <;> omega
  have e2 : fullY n / 10 % 10 = n / 10 % 10 := by unfold fullY; split <;> omega
  simp only [digs, List.nil_append, e1, e2]

theorem short_of (a : D6) : a.long.drop 2 = digs 2 a.y ++ (digs 2 a.m ++ (digs 2 a.d ++ (digs 2 a.h ++ (digs 2 a.i ++ (digs 2 a.s ++ [90]))))) := by
  have e : a.long = digs 2 (a.y / 100) ++ (digs 2 a.y ++ (digs 2 a.m ++ (digs 2 a.d ++ (digs 2 a.h ++ (digs 2 a.i ++ (digs 2 a.s ++ [90])))))) := by simp [D6.long, D6.txt, digs4]
  rw [e]
  have := List.drop_left (l₁ := digs 2 (a.y / 100)) (l₂ := digs 2 a.y ++ (digs 2 a.m ++ (digs 2 a.d ++ (digs 2 a.h ++ (digs 2 a.i ++ (digs 2 a.s ++ [90]))))))
  rw [digs_length] at this
  exact this

theorem read_long {l : List Int} {a : D6} (h : readD l true = some a) : l = a.long := by
  rw [readD_true] at h
  by_cases hc : l.length = 15 ∧ l[14]?.getD 0 = 90
  · rw [if_pos hc] at h
    simp only [Option.map_id'] at h
    have := parts_txt h hc.1 hc.2
    rw [this.1]
    simp [D6.long, D6.txt]
  · rw [if_neg hc] at h; cases h
theorem read_short {l : List Int} {a : D6} (h : readD l false = some a) : l = a.long.drop 2 ∧ a.y < 2050 := by
  rw [readD_false] at h
  by_cases hc : l.length = 13 ∧ l[12]?.getD 0 = 90
  · rw [if_pos hc] at h
    simp only [Option.map_eq_some_iff] at h
    obtain ⟨b, hb, e⟩ := h
    subst e
    obtain ⟨h1, h2, h3⟩ := parts_txt hb hc.1 hc.2
    refine ⟨?_, ?_⟩
    · rw [short_of, digs2_full]
      exact h1
    · have : b.y < 100 := h3
      unfold fullY
      simp only
      split <;> omega
  · rw [if_neg hc] at h; cases h

/-- What Read answers of a text that has a date. -/
theorem readV_of {r : Option D6} (h : readB r = true) : ∃ a, r = some a ∧ IsDate (readV r) a := by
  cases r with
  | none => cases h
  | some a =>
    have hk : okB a = true := h
    refine ⟨a, rfl, of_decide_eq_true hk, ?_⟩
    show secs a = secsR a
    unfold secsR
    rw [if_pos hk]
theorem readV_no {r : Option D6} (h : readB r = false) : readV r = 0 := by
  cases r with
  | none => rfl
  | some a =>
    have hk : okB a = false := h
    show secsR a = 0
    unfold secsR
    rw [if_neg (by rw [hk]; simp)]

/- The calls, at a date that is known. -/
theorem secs_is {v : Int} {y m d h i s : Int} (hd : IsDate v ⟨y, m, d, h, i, s⟩) (w : World) : Calls Try.prog 9 #[.agg #[.int .i64 y, .int .i64 m, .int .i64 d, .int .i64 h, .int .i64 i, .int .i64 s]] w fun e w' => e = .returned (.tuple #[.int .i64 v, .bool true]) ∧ Below w.heap.size w w' :=
  (secs_any y m d h i s w).mono fun _ _ ⟨he, hb⟩ => ⟨by rw [he, secsR, okB_true hd.1, if_pos rfl, hd.2], hb⟩
theorem long_is {v : Int} {a : D6} (hd : IsDate v a) (w : World) : Calls Try.prog 15 #[.int .i64 v] w fun e w' => e = .returned (.tuple #[.string (strOfNums a.long), .bool true]) ∧ Below w.heap.size w w' :=
  (long_any v w).mono fun _ _ ⟨S, ok, hR, he, hb⟩ => by
    obtain ⟨rfl, rfl⟩ := hR.eq (.inl ⟨rfl, a, hd, rfl⟩)
    exact ⟨he, hb⟩
theorem short_is {v : Int} {a : D6} (hd : IsDate v a) (hy : a.y < 2050) (w : World) : Calls Try.prog 13 #[.int .i64 v] w fun e w' => e = .returned (.tuple #[.string (strOfNums (a.long.drop 2)), .bool true]) ∧ Below w.heap.size w w' :=
  (short_any v w).mono fun _ _ ⟨S, ok, hR, he, hb⟩ => by
    obtain ⟨rfl, rfl⟩ := hR.eq (.inl ⟨rfl, a, hd, hy, rfl⟩)
    exact ⟨he, hb⟩
theorem read_back {v : Int} {a : D6} (hd : IsDate v a) (w : World) : Calls Try.prog 19 #[.string (strOfNums a.long), .bool true] w fun e w' => e = .returned (.tuple #[.int .i64 v, .bool true]) ∧ Below w.heap.size w w' :=
  (read_any (strOfNums a.long) true w).mono fun _ _ ⟨he, hb⟩ => by
    rw [nums_str _ (D6.long_byte a), long_read hd.1] at he
    refine ⟨?_, hb⟩
    rw [he]
    show Ending.returned (.tuple #[.int .i64 (secsR a), .bool (okB a)]) = _
    rw [secsR, okB_true hd.1, if_pos rfl, hd.2]

end Go.Proofs.Ytebefamnmmbdnaa
