/-
  What the package's source.length does, for stage 4 (tlv).
-/
import Derived.Test.YtefdfdnfpacfjaaTTake
import Derived.Test.YtefdfdnfpacfjaaHead
import Derived.Deep.QuietTactic
import Derived.BigQuiet
namespace Go.Proofs.Ytefdfdnfpacfjaa
open Go.RowKit
set_option linter.unusedVariables false

/-- How many bytes a length takes, and the length; or why not. -/
def lenL (l : List Int) : Except Int (Nat × Nat) :=
  if l.length < 1 then .error 3
  else if at0 l 0 < 128 then .ok (1, (at0 l 0).toNat)
  else if at0 l 0 = 129 then (if l.length < 2 then .error 3 else if at0 l 1 < 128 then .error 2 else .ok (2, (at0 l 1).toNat))
  else if at0 l 0 = 130 then (if l.length < 3 then .error 3 else if at0 l 1 = 0 then .error 2 else .ok (3, (at0 l 1 * 256 + at0 l 2).toNat))
  else .error 2
theorem head_len (l : List Int) : headL l = if l.length < 1 then .error 3 else if at0 l 0 % 32 = 31 then .error 2 else (match lenL (l.drop 1) with | .error z => .error z | .ok (h, m) => .ok (h + 1, m)) := by
  have e0 : at0 (l.drop 1) 0 = at0 l 1 := at0_drop l 1 0
  have e1 : at0 (l.drop 1) 1 = at0 l 2 := at0_drop l 1 1
  have e2 : at0 (l.drop 1) 2 = at0 l 3 := at0_drop l 1 2
  have el : (l.drop 1).length = l.length - 1 := List.length_drop
  unfold headL lenL
  rw [e0, e1, e2, el]
  by_cases h1 : l.length < 1
  · rw [if_pos h1, if_pos h1]
  rw [if_neg h1, if_neg h1]
  by_cases h2 : at0 l 0 % 32 = 31
  · rw [if_pos h2, if_pos h2]
  rw [if_neg h2, if_neg h2]
  by_cases h3 : l.length < 2
  · have h3' : l.length - 1 < 1 := by omega
    rw [if_pos h3, if_pos h3']
  have h3' : ¬ l.length - 1 < 1 := by omega
  rw [if_neg h3, if_neg h3']
  by_cases h4 : at0 l 1 < 128
  · rw [if_pos h4, if_pos h4]
  rw [if_neg h4, if_neg h4]
  by_cases h5 : at0 l 1 = 129
  · rw [if_pos h5, if_pos h5]
    by_cases h6 : l.length < 3
    · have h6' : l.length - 1 < 2 := by omega
      rw [if_pos h6, if_pos h6']
    have h6' : ¬ l.length - 1 < 2 := by omega
    rw [if_neg h6, if_neg h6']
    by_cases h7 : at0 l 2 < 128
    · rw [if_pos h7, if_pos h7]
    · rw [if_neg h7, if_neg h7]
  rw [if_neg h5, if_neg h5]
  by_cases h8 : at0 l 1 = 130
  · rw [if_pos h8, if_pos h8]
    by_cases h6 : l.length < 4
    · have h6' : l.length - 1 < 3 := by omega
      rw [if_pos h6, if_pos h6']
    have h6' : ¬ l.length - 1 < 3 := by omega
    rw [if_neg h6, if_neg h6']
    by_cases h7 : at0 l 2 = 0
    · rw [if_pos h7, if_pos h7]
    · rw [if_neg h7, if_neg h7]
  · rw [if_neg h8, if_neg h8]

theorem grown_of {w w' : World} {r : Option Nat} (h : Below w.heap.size w w') : w.grownBy w' r := ⟨h.os, h.tape, h.output, h.size, fun k hk _ => h.block k hk⟩

/-- The first byte of a length's. -/
def firstB (z : Int) : Int := if z < 128 then z else if z < 256 then 129 else 130
theorem tlength_first (z : Int) (w : World) (h0 : 0 ≤ z) (h1 : z ≤ 1000000) : Calls Try.prog 34 #[.int .i64 z] w fun e w' => ∃ b n, e = .returned (.slice (some ⟨b, 0, none⟩) (n + 1) (n + 1)) ∧ w'.cell? ⟨b, 0, none⟩ = some (.int .u8 (firstB z)) ∧ Below w.heap.size w w' := by
  refine (tlength_is z w h0 h1).mono ?_
  rintro e w2 ⟨rfl, rfl⟩
  have hb : Below w.heap.size w (w.alloc (.cells ((lenB z).map (Value.int .u8)).toArray 5)) := (Below.refl _ _).alloc (Nat.le_refl _) _
  have hc := (Blk.new w 5 ((lenB z).map (Value.int .u8)).toArray).cell 0
  have key : ∃ r, lenB z = firstB z :: r := by
    unfold lenB firstB
    split
    · exact ⟨_, rfl⟩
    · split
      · exact ⟨_, rfl⟩
      · exact ⟨_, rfl⟩
  obtain ⟨r, hr⟩ := key
  rw [hr] at hc hb ⊢
  exact ⟨w.heap.size, r.length, rfl, by rw [hc]; simp, hb⟩

theorem take_one {gs lvl Bd : Nat} {zs : List Int} {w w' : World} {e : Ending} (h : GivesTake gs lvl Bd 1 zs w e w') (hl : 0 < zs.length) :
    ∃ b off c, e = .returned (.slice (some ⟨b, off, none⟩) 1 c) ∧ w'.cell? ⟨b, off, none⟩ = some (.int .u8 (at0 zs 0)) ∧ Rest w' gs lvl Bd (zs.drop 1) ∧ w.grownBy w' (some gs) := by
  obtain ⟨A, c, rfl, hr, _, hne, _, hrest, hg⟩ := h
  obtain ⟨b, off, rfl, _, hc⟩ := hr.2.2 (by omega)
  have := hc 0 (by omega)
  rw [List.getElem?_take, if_pos (by omega)] at this
  exact ⟨b, off, c, rfl, this, hrest, hg⟩
theorem take_two {gs lvl Bd : Nat} {zs : List Int} {w w' : World} {e : Ending} (h : GivesTake gs lvl Bd 2 zs w e w') (hl : 1 < zs.length) :
    ∃ b off c, e = .returned (.slice (some ⟨b, off, none⟩) 2 c) ∧ w'.cell? ⟨b, off, none⟩ = some (.int .u8 (at0 zs 0)) ∧ w'.cell? ⟨b, off + 1, none⟩ = some (.int .u8 (at0 zs 1)) ∧ Rest w' gs lvl Bd (zs.drop 2) ∧ w.grownBy w' (some gs) := by
  obtain ⟨A, c, rfl, hr, _, hne, _, hrest, hg⟩ := h
  obtain ⟨b, off, rfl, _, hc⟩ := hr.2.2 (by omega)
  have h0 := hc 0 (by omega)
  have h1 := hc 1 (by omega)
  rw [List.getElem?_take, if_pos (by omega)] at h0
  rw [List.getElem?_take, if_pos (by omega)] at h1
  exact ⟨b, off, c, rfl, h0, h1, hrest, hg⟩

/-- What length answers. -/
def GivesLenS (gs lvl Bd : Nat) (zs : List Int) (w : World) (e : Ending) (w' : World) : Prop :=
  w.grownBy w' (some gs) ∧ ((∃ z : Int, lenL zs = .error z ∧ e = .panicked (errP (norm lvl z))) ∨ (∃ h m : Nat, lenL zs = .ok (h, m) ∧ e = .returned (.int .i64 (m : Int)) ∧ Rest w' gs lvl Bd (zs.drop h)))
theorem norm2 (lvl : Nat) : norm lvl 2 = 2 := by simp [norm]

theorem or_two {x y : Int} (x0 : 0 ≤ x) (x1 : x ≤ 255) (y0 : 0 ≤ y) (y1 : y ≤ 255) : bits .or .i64 (x * 256) y = x * 256 + y :=
  bits_join .i64 63 (by decide) wraps_i64' 8 _ _ (by omega) (by omega) (by omega) (by omega) (by omega) (by omega)

set_option maxHeartbeats 4000000 in
set_option maxRecDepth 100000 in
theorem len_any (gs lvl Bd : Nat) (zs : List Int) (w : World) (hl : lvl ≤ 100) (hr : Rest w gs lvl Bd zs) (hn : zs.length ≤ 30000) :
    Calls Try.prog 37 #[.pointer (some ⟨gs, 0, none⟩)] w (GivesLenS gs lvl Bd zs w) := by
  have hby : ∀ z ∈ zs, 0 ≤ z ∧ z ≤ 255 := by
    obtain ⟨A, c, _, h, _⟩ := hr
    exact h.2.1
  have z0 := at0_byte hby 0
  have z1 := at0_byte hby 1
  have z2 := at0_byte hby 2
  by_cases h1 : zs.length < 1
  · have F : Hid (lenL zs = .error 3) := if_pos h1
    have CI := Lib.hid (show Calls Try.prog 36 #[.pointer (some ⟨gs, 0, none⟩), .int .i64 1] w _ from take_short gs lvl Bd 1 zs w hl hr hn h1 (by omega))
    clear hr
    go_enter Try.func37, Try.ntmps37
    go_wp2_with fail
    refine CI.out.mono ?_
    rintro e w2 ⟨rfl, rfl⟩
    exact ⟨rfl, World.grownBy.refl _ _, .inl ⟨3, F.out, rfl⟩⟩
  have CI := Lib.hid (show Calls Try.prog 36 #[.pointer (some ⟨gs, 0, none⟩), .int .i64 1] w _ from take_ok gs lvl Bd 1 zs w hr hn (by omega))
  clear hr
  have e1 : at0 (zs.drop 1) 0 = at0 zs 1 := at0_drop zs 1 0
  have e2 : at0 (zs.drop 1) 1 = at0 zs 2 := at0_drop zs 1 1
  have el : (zs.drop 1).length = zs.length - 1 := List.length_drop
  have DL : Hid (lenL zs = if at0 zs 0 < 128 then .ok (1, (at0 zs 0).toNat)
      else if at0 zs 0 = 129 then (if zs.length < 2 then .error 3 else if at0 zs 1 < 128 then .error 2 else .ok (2, (at0 zs 1).toNat))
      else if at0 zs 0 = 130 then (if zs.length < 3 then .error 3 else if at0 zs 1 = 0 then .error 2 else .ok (3, (at0 zs 1 * 256 + at0 zs 2).toNat))
      else .error 2) := if_neg h1
  by_cases c1 : at0 zs 0 < 128
  · have F : Hid (lenL zs = .ok (1, (at0 zs 0).toNat)) := DL.out.trans (if_pos c1)
    clear DL e1 e2 el
    go_enter Try.func37, Try.ntmps37
    go_wp2_with fail
    refine CI.out.mono ?_
    intro e w2 h2
    obtain ⟨b, off, c, rfl, hcell, hrest, hg⟩ := take_one h2 (by omega)
    have HG := Lib.hid hg
    have HS := Lib.hid hrest
    clear h2 hg hrest CI
    generalize at0 zs 0 = x0 at hcell F z0 c1
    go_wp2_with fail
    go_ret
    exact ⟨HG.out, .inr ⟨1, x0.toNat, F.out, by rw [Int.toNat_of_nonneg z0.1]; rfl, HS.out⟩⟩
  have DL2 : Hid (lenL zs = if at0 zs 0 = 129 then (if zs.length < 2 then .error 3 else if at0 zs 1 < 128 then .error 2 else .ok (2, (at0 zs 1).toNat))
      else if at0 zs 0 = 130 then (if zs.length < 3 then .error 3 else if at0 zs 1 = 0 then .error 2 else .ok (3, (at0 zs 1 * 256 + at0 zs 2).toNat))
      else .error 2) := DL.out.trans (if_neg c1)
  clear DL
  by_cases c2 : at0 zs 0 = 129
  · have DL3 : Hid (lenL zs = if zs.length < 2 then .error 3 else if at0 zs 1 < 128 then .error 2 else .ok (2, (at0 zs 1).toNat)) := DL2.out.trans (if_pos c2)
    clear DL2
    by_cases h2 : zs.length < 2
    · have F : Hid (lenL zs = .error 3) := DL3.out.trans (if_pos h2)
      clear DL3 e1 e2
      go_enter Try.func37, Try.ntmps37
      go_wp2_with fail
      refine CI.out.mono ?_
      intro e w2 hh2
      obtain ⟨b, off, c, rfl, hcell, hrest, hg⟩ := take_one hh2 (by omega)
      have HG := Lib.hid hg
      have C2 := Lib.hid (show Calls Try.prog 36 #[.pointer (some ⟨gs, 0, none⟩), .int .i64 1] w2 _ from take_short gs lvl Bd 1 (zs.drop 1) w2 hl hrest (by omega) (by omega) (by omega))
      clear hh2 hg hrest CI el
      rw [c2] at hcell
      clear c1 c2 z0
      go_wp2_with fail
      refine C2.out.mono ?_
      rintro e w3 ⟨rfl, rfl⟩
      exact ⟨rfl, HG.out, .inl ⟨3, F.out, rfl⟩⟩
    have DL4 : Hid (lenL zs = if at0 zs 1 < 128 then .error 2 else .ok (2, (at0 zs 1).toNat)) := DL3.out.trans (if_neg h2)
    clear DL3 e2
    go_enter Try.func37, Try.ntmps37
    go_wp2_with fail
    refine CI.out.mono ?_
    intro e w2 hh2
    obtain ⟨b, off, c, rfl, hcell, hrest, hg⟩ := take_one hh2 (by omega)
    have HG := Lib.hid hg
    have C2 := Lib.hid (show Calls Try.prog 36 #[.pointer (some ⟨gs, 0, none⟩), .int .i64 1] w2 _ from take_ok gs lvl Bd 1 (zs.drop 1) w2 hrest (by omega) (by omega))
    have EL := Lib.hid el
    have E1 := Lib.hid e1
    clear hh2 hg hrest CI el e1
    rw [c2] at hcell
    clear c1 c2 z0
    go_wp2_with fail
    refine C2.out.mono ?_
    intro e w3 hh3
    obtain ⟨b2, off2, c3, rfl, hcell2, hrest2, hg2⟩ := take_one hh3 (by rw [EL.out]; omega)
    rw [E1.out] at hcell2
    rw [List.drop_drop] at hrest2
    have HG3 := Lib.hid (grown_trans HG.out hg2)
    have HS3 := Lib.hid hrest2
    clear hh3 hg2 hrest2 HG C2 E1 EL hcell
    generalize at0 zs 1 = x1 at hcell2 z1 DL4
    go_wp2_with fail
    refine (tlength_first _ _ (by omega) (by omega)).mono ?_
    rintro e w4 ⟨b4, n4, rfl, hc4, hb4⟩
    have HG4 := Lib.hid (grown_trans HG3.out (grown_of hb4))
    have HS4 := Lib.hid (HS3.out.below hb4)
    clear hb4 HG3 HS3
    by_cases c5 : x1 < 128
    · have F : Hid (lenL zs = .error 2) := DL4.out.trans (if_pos c5)
      have t5 : (firstB x1 == 129) = false := by simp [firstB, c5]; omega
      clear DL4
      go_wp2_with fail
      exact ⟨rfl, HG4.out, .inl ⟨2, F.out, by rw [norm2]; rfl⟩⟩
    · have F : Hid (lenL zs = .ok (2, x1.toNat)) := DL4.out.trans (if_neg c5)
      have t5 : firstB x1 = 129 := by rw [firstB, if_neg c5, if_pos (by omega)]
      rw [t5] at hc4
      clear DL4 t5
      go_wp2_with fail
      go_ret
      exact ⟨HG4.out, .inr ⟨2, x1.toNat, F.out, by rw [Int.toNat_of_nonneg z1.1]; rfl, HS4.out⟩⟩
  have DL3 : Hid (lenL zs = if at0 zs 0 = 130 then (if zs.length < 3 then .error 3 else if at0 zs 1 = 0 then .error 2 else .ok (3, (at0 zs 1 * 256 + at0 zs 2).toNat)) else .error 2) := DL2.out.trans (if_neg c2)
  clear DL2
  by_cases c3 : at0 zs 0 = 130
  · have DL4 : Hid (lenL zs = if zs.length < 3 then .error 3 else if at0 zs 1 = 0 then .error 2 else .ok (3, (at0 zs 1 * 256 + at0 zs 2).toNat)) := DL3.out.trans (if_pos c3)
    clear DL3
    by_cases h2 : zs.length < 3
    · have F : Hid (lenL zs = .error 3) := DL4.out.trans (if_pos h2)
      clear DL4 e1 e2
      go_enter Try.func37, Try.ntmps37
      go_wp2_with fail
      refine CI.out.mono ?_
      intro e w2 hh2
      obtain ⟨b, off, c, rfl, hcell, hrest, hg⟩ := take_one hh2 (by omega)
      have HG := Lib.hid hg
      have C2 := Lib.hid (show Calls Try.prog 36 #[.pointer (some ⟨gs, 0, none⟩), .int .i64 2] w2 _ from take_short gs lvl Bd 2 (zs.drop 1) w2 hl hrest (by omega) (by omega) (by omega))
      clear hh2 hg hrest CI el
      rw [c3] at hcell
      clear c1 c2 c3 z0
      go_wp2_with fail
      refine C2.out.mono ?_
      rintro e w3 ⟨rfl, rfl⟩
      exact ⟨rfl, HG.out, .inl ⟨3, F.out, rfl⟩⟩
    have DL5 : Hid (lenL zs = if at0 zs 1 = 0 then .error 2 else .ok (3, (at0 zs 1 * 256 + at0 zs 2).toNat)) := DL4.out.trans (if_neg h2)
    clear DL4
    go_enter Try.func37, Try.ntmps37
    go_wp2_with fail
    refine CI.out.mono ?_
    intro e w2 hh2
    obtain ⟨b, off, c, rfl, hcell, hrest, hg⟩ := take_one hh2 (by omega)
    have HG := Lib.hid hg
    have C2 := Lib.hid (show Calls Try.prog 36 #[.pointer (some ⟨gs, 0, none⟩), .int .i64 2] w2 _ from take_ok gs lvl Bd 2 (zs.drop 1) w2 hrest (by omega) (by omega))
    have EL := Lib.hid el
    have E1 := Lib.hid e1
    have E2 := Lib.hid e2
    clear hh2 hg hrest CI el e1 e2
    rw [c3] at hcell
    clear c1 c2 c3 z0
    go_wp2_with fail
    refine C2.out.mono ?_
    intro e w3 hh3
    obtain ⟨b2, off2, c3, rfl, hcell2, hcell3, hrest2, hg2⟩ := take_two hh3 (by rw [EL.out]; omega)
    rw [E1.out] at hcell2
    rw [E2.out] at hcell3
    rw [List.drop_drop] at hrest2
    have HG3 := Lib.hid (grown_trans HG.out hg2)
    have HS3 := Lib.hid hrest2
    clear hh3 hg2 hrest2 HG C2 E1 E2 EL hcell
    generalize at0 zs 1 = x1 at hcell2 z1 DL5
    generalize at0 zs 2 = x2 at hcell3 z2 DL5
    have OR := or_two z1.1 z1.2 z2.1 z2.2
    go_wp2_with fail
    go_quiet (fail)
    have HG3' := Lib.hid (grown_trans HG3.out (grown_of (r := some gs) (drewN_below w3 nq)))
    have HS3' := Lib.hid (HS3.out.below (drewN_below w3 nq))
    clear HG3 HS3 hcell2 hcell3 OR
    go_wp2_with fail
    refine (tlength_first _ _ (by omega) (by omega)).mono ?_
    rintro e w4 ⟨b4, n4, rfl, hc4, hb4⟩
    have HG4 := Lib.hid (grown_trans HG3'.out (grown_of hb4))
    have HS4 := Lib.hid (HS3'.out.below hb4)
    clear hb4 HG3' HS3'
    by_cases c5 : x1 = 0
    · have F : Hid (lenL zs = .error 2) := DL5.out.trans (if_pos c5)
      have t5 : (firstB (x1 * 256 + x2) == 130) = false := by
        unfold firstB
        simp
        split
        · omega
        · split <;> omega
      clear DL5 c5
      go_wp2_with fail
      exact ⟨rfl, HG4.out, .inl ⟨2, F.out, by rw [norm2]; rfl⟩⟩
    · have F : Hid (lenL zs = .ok (3, (x1 * 256 + x2).toNat)) := DL5.out.trans (if_neg c5)
      have t5 : firstB (x1 * 256 + x2) = 130 := by rw [firstB, if_neg (by omega), if_neg (by omega)]
      rw [t5] at hc4
      have E : Hid (((x1 * 256 + x2).toNat : Int) = x1 * 256 + x2) := Int.toNat_of_nonneg (by omega)
      clear DL5 t5 c5
      go_wp2_with fail
      go_ret
      exact ⟨HG4.out, .inr ⟨3, (x1 * 256 + x2).toNat, F.out, by rw [E.out]; rfl, HS4.out⟩⟩
  · have F : Hid (lenL zs = .error 2) := DL3.out.trans (if_neg c3)
    clear DL3 e1 e2 el
    go_enter Try.func37, Try.ntmps37
    go_wp2_with fail
    refine CI.out.mono ?_
    intro e w2 h2
    obtain ⟨b, off, c, rfl, hcell, hrest, hg⟩ := take_one h2 (by omega)
    have HG := Lib.hid hg
    clear h2 hg hrest CI
    generalize at0 zs 0 = x0 at hcell z0 c1 c2 c3
    have t2 : (x0 == 129) = false := by simpa using c2
    have t3 : (x0 == 130) = false := by simpa using c3
    go_wp2_with fail
    exact ⟨rfl, HG.out, .inl ⟨2, F.out, by rw [norm2]; rfl⟩⟩

end Go.Proofs.Ytefdfdnfpacfjaa
