/-
  What clock.Long, Short and Text answer, for stage 3 (clock).
-/
import Derived.Test.YtebefamnmmbdnaaDigs
namespace Go.Proofs.Ytebefamnmmbdnaa
open Go.RowKit

def LongR (s : Int) (S : ByteArray) (ok : Bool) : Prop := (ok = true ∧ ∃ a, IsDate s a ∧ S = strOfNums a.long) ∨ (ok = false ∧ S = ⟨#[]⟩ ∧ (s < -631152000 ∨ 7258118399 < s))
def ShortR (s : Int) (S : ByteArray) (ok : Bool) : Prop := (ok = true ∧ ∃ a, IsDate s a ∧ a.y < 2050 ∧ S = strOfNums (a.long.drop 2)) ∨ (ok = false ∧ S = ⟨#[]⟩ ∧ ((s < -631152000 ∨ 7258118399 < s) ∨ ∃ a, IsDate s a ∧ 2050 ≤ a.y))
def TextR (s : Int) (S : ByteArray) (ok : Bool) : Prop := (ok = true ∧ ShortR s S true) ∨ (ShortR s ⟨#[]⟩ false ∧ LongR s S ok)
def GivesT (R : ByteArray → Bool → Prop) (w : World) (e : Ending) (w' : World) : Prop := ∃ S ok, R S ok ∧ e = .returned (.tuple #[.string S, .bool ok]) ∧ Below w.heap.size w w'

theorem no_date {s : Int} {a : D6} (h : IsDate s a) : ¬ (s < -631152000 ∨ 7258118399 < s) := by
  have := secs_rng h.1
  rw [h.2] at this
  omega
theorem LongR.eq {s : Int} {S T : ByteArray} {p q : Bool} (h : LongR s S p) (k : LongR s T q) : S = T ∧ p = q := by
  rcases h with ⟨rfl, a, ha, rfl⟩ | ⟨rfl, rfl, h⟩ <;> rcases k with ⟨rfl, b, hb, rfl⟩ | ⟨rfl, rfl, k⟩
  · rw [ha.eq hb]; exact ⟨rfl, rfl⟩
  · exact absurd k (no_date ha)
  · exact absurd h (no_date hb)
  · exact ⟨rfl, rfl⟩
theorem ShortR.eq {s : Int} {S T : ByteArray} {p q : Bool} (h : ShortR s S p) (k : ShortR s T q) : S = T ∧ p = q := by
  rcases h with ⟨rfl, a, ha, hy, rfl⟩ | ⟨rfl, rfl, h⟩ <;> rcases k with ⟨rfl, b, hb, hy', rfl⟩ | ⟨rfl, rfl, k⟩
  · rw [ha.eq hb]; exact ⟨rfl, rfl⟩
  · rcases k with k | ⟨b, hb, hy'⟩
    · exact absurd k (no_date ha)
    · rw [ha.eq hb] at hy; omega
  · rcases h with h | ⟨a, ha, hy⟩
    · exact absurd h (no_date hb)
    · rw [ha.eq hb] at hy; omega
  · exact ⟨rfl, rfl⟩
theorem TextR.eq {s : Int} {S T : ByteArray} {p q : Bool} (h : TextR s S p) (k : TextR s T q) : S = T ∧ p = q := by
  rcases h with ⟨rfl, h⟩ | ⟨h, h'⟩ <;> rcases k with ⟨rfl, k⟩ | ⟨k, k'⟩
  · exact ⟨(h.eq k).1, rfl⟩
  · have := (h.eq k).2; cases this
  · have := (h.eq k).2; cases this
  · exact h'.eq k'

/-- What is cut off a row behind its first two. -/
theorem Row.two {w : World} {g n : Nat} {zs : List Int} (h : Row w (some ⟨g, 0, none⟩) n zs) (h2 : 2 ≤ n) : Row w (some ⟨g, 2, none⟩) (n - 2) (zs.drop 2) := by
  have hl := h.1
  refine ⟨by rw [List.length_drop]; omega, fun x hx => h.2.1 x (List.mem_of_mem_drop hx), fun h0 => ?_⟩
  obtain ⟨b, off, e, hb, hc⟩ := h.2.2 (by omega)
  injection e with e
  injection e with e1 e2
  subst e1 e2
  exact ⟨g, 2, rfl, hb, fun i hi => by rw [show 2 + i = 0 + (2 + i) by omega, hc (2 + i) (by omega), List.getElem?_drop]⟩

set_option maxHeartbeats 1000000 in
theorem long_any (s : Int) (w : World) : Calls Try.prog 15 #[.int .i64 s] w (GivesT (LongR s) w) := by
  have C := Lib.hid (date_any s w)
  go_enter Try.func15, Try.ntmps15
  go_wp2_with fail
  refine C.out.mono ?_
  rintro e w1 ⟨a, ok, hR, rfl, hb1⟩
  clear C
  have B1 := Lib.hid hb1
  clear hb1
  rcases hR with ⟨rfl, hd⟩ | ⟨rfl, rfl, ho⟩
  · have HD := Lib.hid hd
    clear hd
    obtain ⟨y, m, d, h, i, s'⟩ := a
    simp only [D6.cells, d6c]
    go_wp2_with fail
    refine (written_any y m d h i s' _ HD.out.1).mono ?_
    rintro e w2 ⟨V, rfl, ho⟩
    obtain ⟨A, C, rfl, hrow⟩ := ho.row (D6.long_byte _)
    have kc := conv_at C hrow
    have B2 := Lib.hid (Below.step ((B1.out).alloc B1.out.size _) ho.2)
    clear ho hrow
    go_wp2
    go_ret2
    exact ⟨_, true, .inl ⟨rfl, _, HD.out, rfl⟩, rfl, B2.out⟩
  · simp only [D6.cells, d6c, zeroD]
    go_wp2
    go_ret2
    exact ⟨_, false, .inr ⟨rfl, rfl, ho⟩, rfl, B1.out.alloc B1.out.size _⟩

set_option maxHeartbeats 1000000 in
theorem short_any (s : Int) (w : World) : Calls Try.prog 13 #[.int .i64 s] w (GivesT (ShortR s) w) := by
  have C := Lib.hid (date_any s w)
  go_enter Try.func13, Try.ntmps13
  go_wp2_with fail
  refine C.out.mono ?_
  rintro e w1 ⟨a, ok, hR, rfl, hb1⟩
  clear C
  have B1 := Lib.hid hb1
  clear hb1
  rcases hR with ⟨rfl, hd⟩ | ⟨rfl, rfl, ho⟩
  · have HD := Lib.hid hd
    clear hd
    obtain ⟨y, m, d, h, i, s'⟩ := a
    simp only [D6.cells, d6c]
    by_cases hy : 2050 ≤ y
    · go_wp2
      go_ret2
      exact ⟨_, false, .inr ⟨rfl, rfl, .inr ⟨_, HD.out, hy⟩⟩, rfl, B1.out.alloc B1.out.size _⟩
    · have hy' : decide (2050 ≤ y) = false := by simpa using hy
      go_wp2_with fail
      refine (written_any y m d h i s' _ HD.out.1).mono ?_
      rintro e w2 ⟨V, rfl, ho⟩
      obtain ⟨g, C, hV, _⟩ := ho.form (by rw [D6.long_length]; omega)
      have hcap : (15 : Nat) ≤ C := by have := ho.1; rw [hV] at this; have := own_cap this; rw [D6.long_length] at this; exact this
      subst hV
      have hrow := Row.of_own ho.1 (D6.long_byte _)
      rw [D6.long_length] at hrow ⊢
      have kc := conv_at 13 (hrow.two (by omega))
      have B2 := Lib.hid (Below.step ((B1.out).alloc B1.out.size _) ho.2)
      clear ho hrow
      go_wp2
      go_ret2
      exact ⟨_, true, .inl ⟨rfl, _, HD.out, by simp only; omega, rfl⟩, rfl, B2.out⟩
  · simp only [D6.cells, d6c, zeroD]
    go_wp2
    go_ret2
    exact ⟨_, false, .inr ⟨rfl, rfl, .inl ho⟩, rfl, B1.out.alloc B1.out.size _⟩

set_option maxHeartbeats 1000000 in
theorem text_any (s : Int) (w : World) : Calls Try.prog 17 #[.int .i64 s] w (GivesT (TextR s) w) := by
  have C := Lib.hid (short_any s w)
  go_enter Try.func17, Try.ntmps17
  go_wp2_with fail
  refine C.out.mono ?_
  rintro e w1 ⟨S, ok, hR, rfl, hb1⟩
  clear C
  have B1 := Lib.hid hb1
  have HR := Lib.hid hR
  clear hb1 hR
  cases ok
  · go_wp2_with fail
    refine (long_any s _).mono ?_
    rintro e w2 ⟨S', ok', hR', rfl, hb2⟩
    have B2 := Lib.hid (Below.step B1.out hb2)
    have HT : Hid (TextR s S' ok') := .inr ⟨by
      rcases HR.out with ⟨h, _⟩ | ⟨h, e, h'⟩
      · cases h
      · rw [← e]; exact HR.out, hR'⟩
    clear hb2 hR'
    go_wp2
    go_ret2
    exact ⟨S', ok', HT.out, rfl, B2.out⟩
  · go_wp2
    go_ret2
    exact ⟨S, true, .inl ⟨rfl, HR.out⟩, rfl, B1.out⟩

theorem awake_date : IsDate 951868800 ⟨2000, 3, 1, 0, 0, 0⟩ := ⟨by decide, by decide⟩
theorem awake_text : TextR 951868800 ⟨#[48, 48, 48, 51, 48, 49, 48, 48, 48, 48, 48, 48, 90]⟩ true :=
  .inl ⟨rfl, .inl ⟨rfl, _, awake_date, by decide, by kernel_rfl⟩⟩

theorem awake_secs (w : World) : Calls Try.prog 9 #[.agg #[.int .i64 2000, .int .i64 3, .int .i64 1, .int .i64 0, .int .i64 0, .int .i64 0]] w fun e w' => e = .returned (.tuple #[.int .i64 951868800, .bool true]) ∧ Below w.heap.size w w' :=
  (secs_any 2000 3 1 0 0 0 w).mono fun _ _ ⟨he, hb⟩ => ⟨by rw [he]; kernel_rfl, hb⟩
theorem awake_say (w : World) : Calls Try.prog 17 #[.int .i64 951868800] w fun e w' => e = .returned (.tuple #[.string ⟨#[48, 48, 48, 51, 48, 49, 48, 48, 48, 48, 48, 48, 90]⟩, .bool true]) ∧ Below w.heap.size w w' :=
  (text_any 951868800 w).mono fun _ _ ⟨_, _, hR, he, hb⟩ => by
    obtain ⟨rfl, rfl⟩ := hR.eq awake_text
    exact ⟨he, hb⟩

set_option maxHeartbeats 400000 in
theorem awake_any (w : World) : Calls Try.prog 8 #[] w fun e w' => e = .returned (.bool true) ∧ Below w.heap.size w w' := by
  go_enter Try.func8, Try.ntmps8
  go_wp2_with fail
  refine (awake_secs w).mono ?_
  rintro e w1 ⟨rfl, hb1⟩
  go_wp2_with fail
  refine (awake_say w1).mono ?_
  rintro e w2 ⟨rfl, hb2⟩
  go_wp2
  go_ret
  exact ⟨rfl, Below.step hb1 hb2⟩

end Go.Proofs.Ytebefamnmmbdnaa
