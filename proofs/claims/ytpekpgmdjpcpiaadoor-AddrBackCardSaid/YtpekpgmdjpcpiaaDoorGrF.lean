/-
  Merged texts: AfA, AfB, AfC, BytesC, AfD, AfE, AdW, AfF.
-/
import Derived.Test.YtpekpgmdjpcpiaaDoorGrE
import Derived.Lib.ConvBytes
import Derived.Lib.SmallJoins
import Derived.Test.YtpekpgmdjpcpiaaDoorRows
import Derived.Test.YtpekpgmdjpcpiaaDoorGrA
import Derived.WalkKit
import Derived.WalkSpells
import Derived.WalkLawsBesides
import Derived.Deep.QuietTactic
import Derived.BigQuiet
import Derived.Lib.Hide
import Derived.Test.YtpekpgmdjpcpiaaDoorGrD
import Derived.Deep.Cut
namespace Go.Proofs.YtpekpgmdjpcpiaaDoor
open Go.RowKit
set_option linter.unusedVariables false

theorem itoa_any (L : Int) (w : World) (h0 : 0 ≤ L) (h1 : L ≤ 1000) (hs : Std w) : Calls Tryd.prog 23 #[.int .i64 L] w fun e w' => e = .returned (.string (strOfNums (digZ 10 L.toNat))) ∧ Below w.heap.size w w' := by
  obtain ⟨n, rfl⟩ : ∃ n : Nat, L = (n : Int) := ⟨L.toNat, by omega⟩
  refine (Tryd.strconv_Itoa (n : Int) (by omega) (by omega) w hs.tab).mono (fun e w' ⟨he, k, os, hw⟩ => ⟨?_, ?_⟩)
  · rw [he, Lib.itoa_nonneg, dec_dig, Int.toNat_natCast]
  · rw [hw]
    exact Lib.below_grow _ w (Nat.le_refl _) k os
theorem addrT_size {A : List Int} (hA : Sixteen A) (v : Bool) : (strOfNums (addrT v A)).size ≤ 2000000 := by
  rw [strOfNums_size]
  cases v with
  | true => exact (six_ok hA).2
  | false => have := (four_ok hA).2; show (fourZ A).length ≤ _; omega

set_option maxHeartbeats 1000000 in
set_option maxRecDepth 10000 in
theorem text_any (v : Bool) (A : List Int) (L : Int) (w : World) (hA : Sixteen A) (l0 : -9223372036854775808 ≤ L) (l1 : L ≤ 9223372036854775807) (hs : Std w) :
    Calls Tryd.prog 10 #[.agg (pcells v A L)] w fun e w' => e = .returned (.tuple #[.string (strOfNums (textE v A L)), .int .i64 (textR v A L)]) ∧ Below w.heap.size w w' := by
  have BX := Lib.hid (pbox w v A L)
  have BW := Lib.hid (box_below w (.cells (pcells v A L) 24))
  have HA := Lib.hid hA
  have HS := Lib.hid hs
  have hA16 := hA.1
  have Z1 := Lib.hid (Tryd.sizeP (v := v) (L := L) hA16)
  have CR := Lib.hid (fun W => right_any v A L W hA l0 l1)
  have RI := Lib.hid (right_is v A L)
  have ML := most_le v
  have SZ := addrT_size hA v
  clear hA hs
  go_enter Tryd.func10, Tryd.ntmps10
  generalize hw2 : w.alloc (.cells (pcells v A L) 24) = w2 at *
  go_wp2_with (refine wpList_load_row rfl 24 (.tmp 1) rfl w.heap.size rfl 24 (pcells v A L) (0, 0) _ BX.out Tryd.underlying24 rfl Z1.out ?_)
  refine (CR.out w2).mono ?_
  rintro r w3 ⟨rfl, hb3⟩
  have B3 := Lib.hid (Below.step BW.out hb3)
  have X3 := Lib.hid (BX.out.below hb3 BX.out.lt)
  clear hb3 CR BW BX hw2
  by_cases hr : rightA v A L = true
  · have TE : Hid (strOfNums (addrT v A) ++ ⟨#[47]⟩ ++ strOfNums (digZ 10 L.toNat) = strOfNums (textE v A L)) := Lib.hid (by
      rw [show textE v A L = textZ v A L from if_pos hr]
      unfold textZ addrT
      simp only [str_append]
      rfl)
    have TR : Hid (textR v A L = 0) := Lib.hid (if_pos hr)
    obtain ⟨q0, q1, _⟩ := RI.out.1 hr
    have zL : (strOfNums (digZ 10 L.toNat)).size ≤ 129 := by rw [strOfNums_size]; have := dig_len (b := 10) (by omega) L.toNat; omega
    have CT := Lib.hid (fun W (hW : Std W) => addrtext_any v A L W HA.out hW)
    have CI := Lib.hid (fun W (hW : Std W) => itoa_any L W q0 (by omega) hW)
    have cl := X3.out.l hA16
    have cl' := cell_later cl
    rw [hr]
    clear RI hr
    generalize strOfNums (addrT v A) = S1 at *
    generalize strOfNums (digZ 10 L.toNat) = S2 at *
    generalize hS3 : strOfNums (textE v A L) = S3 at *
    have HS3 := Lib.hid hS3
    clear hS3
    unfold PBlk at X3
    generalize pcells v A L = pc at *
    have lat : ∀ W, Ext w3.drew W → Blk W w.heap.size 24 pc := fun W hW => Blk.below (show Blk w3.drew _ _ _ from X3.out) hW X3.out.lt
    go_wp2_with fail
    refine wp_region_ord Ext Ext.refl (fun _ _ _ => Ext.trans) ((0, false) :: (3, false) :: (4, false) :: (1, true) :: (2, false) :: (5, true) :: (6, false) :: (7, false) :: (8, false) :: []) (by kernel_rfl) (by kernel_rfl) rfl (by kernel_rfl) (fun _ _ _ _ _ h => h) ?_
    refine ord_take (.agg pc) rfl (by rfl) (fun W hW => yields_row 24 (.tmp 1) rfl w.heap.size 24 pc _ rfl (lat W hW) Tryd.underlying24 rfl Z1.out) ?_
    simp only [Act.put, List.setIfInBounds_toArray, List.set_cons_zero, List.set_cons_succ]
    repeat (refine ord_take _ rfl (by rfl) (fun W hW => by go_simp; first | done | rfl | rw [if_neg (by omega)] | rw [if_neg (by simp; omega)]) ?_; simp only [Act.put, List.setIfInBounds_toArray, List.set_cons_zero, List.set_cons_succ])
    clear lat
    refine ord_sole rfl (by rfl) (fun K1 hK1 => ?_)
    go_simp
    refine (CT.out _ ((HS.out.later B3.out).drewN 1)).mono ?_
    rintro r w4 ⟨rfl, hb4⟩
    refine hK1 _ _ hb4 ?_
    have B4 := Lib.hid (Below.step (Below.step B3.out (drewN_below w3 1)) hb4)
    clear hK1 K1 hb4 CT
    repeat (refine ord_take _ rfl (by rfl) (fun W hW => by go_simp; first | done | rfl | rw [if_neg (by omega)] | rw [if_neg (by simp; omega)]) ?_; simp only [Act.put, List.setIfInBounds_toArray, List.set_cons_zero, List.set_cons_succ])
    refine ord_sole rfl (by rfl) (fun K1 hK1 => ?_)
    go_simp
    refine (CI.out _ (HS.out.later B4.out)).mono ?_
    rintro r w5 ⟨rfl, hb5⟩
    refine hK1 _ _ hb5 ?_
    have B5 := Lib.hid (Below.step B4.out hb5)
    clear hK1 K1 hb5 CI
    repeat (refine ord_take _ rfl (by rfl) (fun W hW => by go_simp; first | done | rfl | rw [if_neg (by omega)] | rw [if_neg (by simp; omega)]) ?_; simp only [Act.put, List.setIfInBounds_toArray, List.set_cons_zero, List.set_cons_succ])
    refine ord_end ?_
    rw [TE.out]
    go_wp2_with fail
    go_ret2
    exact ⟨by rw [TR.out, HS3.out]; rfl, B5.out⟩
  · have hr' : rightA v A L = false := by simpa using hr
    have TE : Hid (textE v A L = []) := Lib.hid (if_neg hr)
    have TR : Hid (textR v A L = 1) := Lib.hid (if_neg hr)
    rw [hr']
    go_wp2_with fail
    go_ret2
    exact ⟨by rw [TE.out, TR.out]; rfl, B3.out⟩

end Go.Proofs.YtpekpgmdjpcpiaaDoor

namespace Go.Proofs.YtpekpgmdjpcpiaaDoor
open Go.RowKit
set_option linter.unusedVariables false

def lowZ (c : Int) : Int := bits .or .u8 c 32
theorem low_all : ((List.range 256).all fun c => decide (0 ≤ lowZ (c : Int)) && decide (lowZ (c : Int) ≤ 255)) = true := by kernel_rfl
theorem low_range {c : Int} (h0 : 0 ≤ c) (h1 : c ≤ 255) : 0 ≤ lowZ c ∧ lowZ c ≤ 255 := by
  have h := List.all_eq_true.1 low_all c.toNat (List.mem_range.2 (by omega))
  rw [Int.toNat_of_nonneg h0] at h
  simpa using h
/-- A letter's value as a digit. -/
def chV (c : Int) : Int := if 48 ≤ c ∧ c ≤ 57 then c - 48 else if 97 ≤ lowZ c ∧ lowZ c ≤ 122 then lowZ c - 97 + 10 else 99
/-- The number of digits of base b, m at the most. -/
def puZ (b m : Int) : Int → List Int → Int
  | n, [] => n
  | n, c :: cs => if b ≤ chV c then 0 else if m < n * b + chV c then m else puZ b m (n * b + chV c) cs
theorem pu_drop {b m n : Int} (s : ByteArray) {k : Nat} (h : k < s.size) : puZ b m n ((numsOf s).drop k) = if b ≤ chV (nth s k) then 0 else if m < n * b + chV (nth s k) then m else puZ b m (n * b + chV (nth s k)) ((numsOf s).drop (k + 1)) := by
  rw [drop_nth s h, puZ]
theorem pu_end {b m n : Int} (s : ByteArray) {k : Nat} (h : s.size ≤ k) : puZ b m n ((numsOf s).drop k) = n := by
  rw [List.drop_of_length_le (by rw [numsOf_length]; exact h), puZ]
/-- What the library hands back: the number, and whatever error. -/
def GivesPu (s : ByteArray) (b m : Int) (w : World) (e : Ending) (w' : World) : Prop :=
  ∃ er, e = .returned (.tuple #[.int .u64 (puZ b m 0 (numsOf s)), er]) ∧ (er = .nilIface ∨ er = .iface 98 (.int .i64 1) ∨ er = .iface 98 (.int .i64 2)) ∧ Below w.heap.size w w'
theorem gives_pu {s : ByteArray} {b m n : Int} {w w' : World} {er : Value} (h : puZ b m 0 (numsOf s) = n) (he : er = .nilIface ∨ er = .iface 98 (.int .i64 1) ∨ er = .iface 98 (.int .i64 2)) (hb : Below w.heap.size w w') : GivesPu s b m w (.returned (.tuple #[.int .u64 n, er])) w' := ⟨er, by rw [h], he, hb⟩

set_option maxHeartbeats 4000000 in
set_option maxRecDepth 100000 in
theorem pu10_any (s : ByteArray) (w : World) (hs : s.size ≤ 4000000) :
    Calls Tryd.prog 77 #[.string s, .int .i64 10, .int .i64 8] w (GivesPu s 10 255 w) := by
  rcases Nat.eq_zero_or_pos s.size with h0 | h0
  · have he : s.toList.isEmpty = true := by
      rw [Lib.toList_data, List.isEmpty_iff]
      exact List.eq_nil_of_length_eq_zero (by rw [Array.length_toList]; exact h0)
    have hn : numsOf s = [] := List.eq_nil_of_length_eq_zero (by rw [numsOf_length]; exact h0)
    have F : Hid (puZ 10 255 0 (numsOf s) = 0) := Lib.hid (by rw [hn]; rfl)
    clear hn
    go_enter Tryd.func77, Tryd.ntmps77
    go_wp2_with fail
    go_ret2
    exact gives_pu F.out (.inr (.inr rfl)) (Below.refl _ _)
  · have he : s.toList.isEmpty = false := by
      rw [Lib.toList_data]
      rcases hd : s.data.toList with _ | ⟨y, ys⟩
      · exact absurd (show s.data.size = 0 by rw [← Array.length_toList, hd]; rfl) (by show ¬ s.size = 0; omega)
      · rfl
    have hcv := Lib.run_convert_string_bytes (P := Tryd.prog) w 9 52 5 s (u := .string) Tryd.underlying9 Tryd.underlying52 Tryd.underlying5
    have HB : Hid (∀ j, j < s.size → (Lib.bytesWorld w 5 s).cell? ⟨w.heap.size, j, none⟩ = some (.int .u8 (nth s j))) := Lib.hid (fun j hj => by
      rw [Lib.bytesWorld_cell w 5 s j hj]
      unfold nth numsOf
      rw [List.getElem?_map, List.getD_eq_getElem?_getD, List.getElem?_eq_getElem (by rw [Array.length_toList]; exact hj)]
      rfl)
    have B1 := Lib.hid (Lib.bytesWorld_below w 5 s)
    obtain ⟨W1, hW1⟩ : ∃ W1, W1 = Lib.bytesWorld w 5 s := ⟨_, rfl⟩
    rw [← hW1] at hcv HB B1
    clear hW1
    go_enter Tryd.func77, Tryd.ntmps77
    go_wp2_with fail
    go_loop [12, 13, 101] (fun uV nV iV => ∃ (k : Nat) (n : Int), uV = .bool false ∧ nV = .int .u64 n ∧ iV = .int .i64 (k : Int) ∧ k ≤ s.size ∧ 0 ≤ n ∧ n ≤ 255 ∧ Hid (puZ 10 255 n ((numsOf s).drop k) = puZ 10 255 0 (numsOf s))) (fun _ _ iV => s.size - (intOf iV).toNat)
    case atStart => exact ⟨0, 0, rfl, rfl, rfl, Nat.zero_le _, by omega, by omega, Lib.hid rfl⟩
    case round =>
      obtain ⟨k, n, rfl, rfl, rfl, hk, hn0, hn1, HE⟩ := hrel
      by_cases hlt : k < s.size
      · have hc := HB.out k hlt
        have DR := Lib.hid (HE.out.symm.trans (pu_drop s hlt))
        have nr := nth_range s k
        have CL := Lib.hid (fun W => Tryd.internal_strconv_lower (nth s k) W)
        have lr := low_range nr.1 nr.2
        have LV : Hid (chV (nth s k) = if 48 ≤ nth s k ∧ nth s k ≤ 57 then nth s k - 48 else if 97 ≤ lowZ (nth s k) ∧ lowZ (nth s k) ≤ 122 then lowZ (nth s k) - 97 + 10 else 99) := Lib.hid rfl
        have LL : Hid (bits .or .u8 (nth s k) 32 = lowZ (nth s k)) := Lib.hid rfl
        rw [LL.out] at CL
        have L95 : nth s k = 95 → lowZ (nth s k) = 127 := fun h => by rw [h]; kernel_rfl
        clear HE LL
        generalize lowZ (nth s k) = l at *
        generalize chV (nth s k) = d at *
        generalize nth s k = c at *
        have n1 : decide ((1844674407370955162 : Int) ≤ n) = false := decide_eq_false (by omega)
        have n2 : decide ((1152921504606846976 : Int) ≤ n) = false := decide_eq_false (by omega)
        by_cases h95 : c = 95
        · obtain rfl : l = 127 := L95 h95
          subst h95
          have F := Lib.hid (DR.out.trans (if_pos (by rw [LV.out, if_neg (by omega), if_neg (by omega)]; omega)))
          clear DR LV
          go_wp2_with (go_at_call 93; refine (CL.out _).mono ?_; rintro e w' ⟨rfl, rfl⟩)
          go_ret2
          exact gives_pu F.out (.inr (.inr rfl)) B1.out
        have t95 : (c == 95) = false := by simpa using h95
        clear h95 L95
        by_cases h1 : 48 ≤ c
        · have g1 : decide ((48 : Int) ≤ c) = true := decide_eq_true h1
          by_cases h2 : c ≤ 57
          · have g2 : decide (c ≤ 57) = true := decide_eq_true h2
            have hd : d = c - 48 := by rw [LV.out, if_pos ⟨by omega, by omega⟩]
            clear LV
            subst hd
            have t1 : decide ((10 : Int) ≤ c - 48) = false := decide_eq_false (by omega)
            have u1 : decide (n * 10 + (c - 48) < n * 10) = false := decide_eq_false (by omega)
            by_cases hov : 255 < n * 10 + (c - 48)
            · have u2 : decide ((255 : Int) < n * 10 + (c - 48)) = true := decide_eq_true hov
              have F := Lib.hid (DR.out.trans ((if_neg (by omega)).trans (if_pos hov)))
              clear DR
              go_wp2_with fail
              go_ret2
              exact gives_pu F.out (.inr (.inl rfl)) B1.out
            · have u2 : decide ((255 : Int) < n * 10 + (c - 48)) = false := decide_eq_false hov
              have F := Lib.hid (DR.out.trans ((if_neg (by omega)).trans (if_neg hov)))
              clear DR
              go_wp2_with fail
              go_round
              case rel => exact ⟨k + 1, n * 10 + (c - 48), rfl, rfl, by go_num, by omega, by omega, by omega, Lib.hid F.out.symm⟩
              case measure => simp only [intOf]; omega
          · have g2 : decide (c ≤ 57) = false := decide_eq_false h2
            by_cases h3 : 97 ≤ l
            · have t3 : decide ((97 : Int) ≤ l) = true := decide_eq_true h3
              by_cases h4 : l ≤ 122
              · have t4 : decide (l ≤ 122) = true := decide_eq_true h4
                have hd : d = l - 97 + 10 := by rw [LV.out, if_neg (by omega), if_pos ⟨by omega, by omega⟩]
                clear LV
                subst hd
                have t1 : decide ((10 : Int) ≤ l - 97 + 10) = true := decide_eq_true (by omega)
                have F := Lib.hid (DR.out.trans (if_pos (by omega)))
                clear DR
                go_wp2_with (go_at_call 93; refine (CL.out _).mono ?_; rintro e w' ⟨rfl, rfl⟩)
                go_ret2
                exact gives_pu F.out (.inr (.inr rfl)) B1.out
              · have t4 : decide (l ≤ 122) = false := decide_eq_false h4
                have F := Lib.hid (DR.out.trans (if_pos (by rw [LV.out, if_neg (by omega), if_neg (by omega)]; omega)))
                clear DR LV
                go_wp2_with (go_at_call 93; refine (CL.out _).mono ?_; rintro e w' ⟨rfl, rfl⟩)
                go_ret2
                exact gives_pu F.out (.inr (.inr rfl)) B1.out
            · have t3 : decide ((97 : Int) ≤ l) = false := decide_eq_false h3
              have F := Lib.hid (DR.out.trans (if_pos (by rw [LV.out, if_neg (by omega), if_neg (by omega)]; omega)))
              clear DR LV
              go_wp2_with (go_at_call 93; refine (CL.out _).mono ?_; rintro e w' ⟨rfl, rfl⟩)
              go_ret2
              exact gives_pu F.out (.inr (.inr rfl)) B1.out
        · have g1 : decide ((48 : Int) ≤ c) = false := decide_eq_false h1
          by_cases h3 : 97 ≤ l
          · have t3 : decide ((97 : Int) ≤ l) = true := decide_eq_true h3
            by_cases h4 : l ≤ 122
            · have t4 : decide (l ≤ 122) = true := decide_eq_true h4
              have hd : d = l - 97 + 10 := by rw [LV.out, if_neg (by omega), if_pos ⟨by omega, by omega⟩]
              clear LV
              subst hd
              have t1 : decide ((10 : Int) ≤ l - 97 + 10) = true := decide_eq_true (by omega)
              have F := Lib.hid (DR.out.trans (if_pos (by omega)))
              clear DR
              go_wp2_with (go_at_call 93; refine (CL.out _).mono ?_; rintro e w' ⟨rfl, rfl⟩)
              go_ret2
              exact gives_pu F.out (.inr (.inr rfl)) B1.out
            · have t4 : decide (l ≤ 122) = false := decide_eq_false h4
              have F := Lib.hid (DR.out.trans (if_pos (by rw [LV.out, if_neg (by omega), if_neg (by omega)]; omega)))
              clear DR LV
              go_wp2_with (go_at_call 93; refine (CL.out _).mono ?_; rintro e w' ⟨rfl, rfl⟩)
              go_ret2
              exact gives_pu F.out (.inr (.inr rfl)) B1.out
          · have t3 : decide ((97 : Int) ≤ l) = false := decide_eq_false h3
            have F := Lib.hid (DR.out.trans (if_pos (by rw [LV.out, if_neg (by omega), if_neg (by omega)]; omega)))
            clear DR LV
            go_wp2_with (go_at_call 93; refine (CL.out _).mono ?_; rintro e w' ⟨rfl, rfl⟩)
            go_ret2
            exact gives_pu F.out (.inr (.inr rfl)) B1.out
      · obtain rfl : k = s.size := by omega
        have F := Lib.hid (HE.out.symm.trans (pu_end s (Nat.le_refl _)))
        clear HE
        generalize s.size = sz at *
        go_wp2_with fail
        go_ret2
        exact gives_pu F.out (.inl rfl) B1.out

end Go.Proofs.YtpekpgmdjpcpiaaDoor

namespace Go.Proofs.YtpekpgmdjpcpiaaDoor
open Go.RowKit
set_option linter.unusedVariables false

set_option maxHeartbeats 4000000 in
set_option maxRecDepth 100000 in
theorem pu16_any (s : ByteArray) (w : World) (hs : s.size ≤ 4000000) :
    Calls Tryd.prog 77 #[.string s, .int .i64 16, .int .i64 16] w (GivesPu s 16 65535 w) := by
  rcases Nat.eq_zero_or_pos s.size with h0 | h0
  · have he : s.toList.isEmpty = true := by
      rw [Lib.toList_data, List.isEmpty_iff]
      exact List.eq_nil_of_length_eq_zero (by rw [Array.length_toList]; exact h0)
    have hn : numsOf s = [] := List.eq_nil_of_length_eq_zero (by rw [numsOf_length]; exact h0)
    have F : Hid (puZ 16 65535 0 (numsOf s) = 0) := Lib.hid (by rw [hn]; rfl)
    clear hn
    go_enter Tryd.func77, Tryd.ntmps77
    go_wp2_with fail
    go_ret2
    exact gives_pu F.out (.inr (.inr rfl)) (Below.refl _ _)
  · have he : s.toList.isEmpty = false := by
      rw [Lib.toList_data]
      rcases hd : s.data.toList with _ | ⟨y, ys⟩
      · exact absurd (show s.data.size = 0 by rw [← Array.length_toList, hd]; rfl) (by show ¬ s.size = 0; omega)
      · rfl
    have hcv := Lib.run_convert_string_bytes (P := Tryd.prog) w 9 52 5 s (u := .string) Tryd.underlying9 Tryd.underlying52 Tryd.underlying5
    have HB : Hid (∀ j, j < s.size → (Lib.bytesWorld w 5 s).cell? ⟨w.heap.size, j, none⟩ = some (.int .u8 (nth s j))) := Lib.hid (fun j hj => by
      rw [Lib.bytesWorld_cell w 5 s j hj]
      unfold nth numsOf
      rw [List.getElem?_map, List.getD_eq_getElem?_getD, List.getElem?_eq_getElem (by rw [Array.length_toList]; exact hj)]
      rfl)
    have B1 := Lib.hid (Lib.bytesWorld_below w 5 s)
    obtain ⟨W1, hW1⟩ : ∃ W1, W1 = Lib.bytesWorld w 5 s := ⟨_, rfl⟩
    rw [← hW1] at hcv HB B1
    clear hW1
    go_enter Tryd.func77, Tryd.ntmps77
    go_wp2_with fail
    go_loop [12, 13, 101] (fun uV nV iV => ∃ (k : Nat) (n : Int), uV = .bool false ∧ nV = .int .u64 n ∧ iV = .int .i64 (k : Int) ∧ k ≤ s.size ∧ 0 ≤ n ∧ n ≤ 65535 ∧ Hid (puZ 16 65535 n ((numsOf s).drop k) = puZ 16 65535 0 (numsOf s))) (fun _ _ iV => s.size - (intOf iV).toNat)
    case atStart => exact ⟨0, 0, rfl, rfl, rfl, Nat.zero_le _, by omega, by omega, Lib.hid rfl⟩
    case round =>
      obtain ⟨k, n, rfl, rfl, rfl, hk, hn0, hn1, HE⟩ := hrel
      by_cases hlt : k < s.size
      · have hc := HB.out k hlt
        have DR := Lib.hid (HE.out.symm.trans (pu_drop s hlt))
        have nr := nth_range s k
        have CL := Lib.hid (fun W => Tryd.internal_strconv_lower (nth s k) W)
        have lr := low_range nr.1 nr.2
        have LV : Hid (chV (nth s k) = if 48 ≤ nth s k ∧ nth s k ≤ 57 then nth s k - 48 else if 97 ≤ lowZ (nth s k) ∧ lowZ (nth s k) ≤ 122 then lowZ (nth s k) - 97 + 10 else 99) := Lib.hid rfl
        have LL : Hid (bits .or .u8 (nth s k) 32 = lowZ (nth s k)) := Lib.hid rfl
        rw [LL.out] at CL
        have L95 : nth s k = 95 → lowZ (nth s k) = 127 := fun h => by rw [h]; kernel_rfl
        clear HE LL
        generalize lowZ (nth s k) = l at *
        generalize chV (nth s k) = d at *
        generalize nth s k = c at *
        have n1 : decide ((1844674407370955162 : Int) ≤ n) = false := decide_eq_false (by omega)
        have n2 : decide ((1152921504606846976 : Int) ≤ n) = false := decide_eq_false (by omega)
        by_cases h95 : c = 95
        · obtain rfl : l = 127 := L95 h95
          subst h95
          have F := Lib.hid (DR.out.trans (if_pos (by rw [LV.out, if_neg (by omega), if_neg (by omega)]; omega)))
          clear DR LV
          go_wp2_with (go_at_call 93; refine (CL.out _).mono ?_; rintro e w' ⟨rfl, rfl⟩)
          go_ret2
          exact gives_pu F.out (.inr (.inr rfl)) B1.out
        have t95 : (c == 95) = false := by simpa using h95
        clear h95 L95
        by_cases h1 : 48 ≤ c
        · have g1 : decide ((48 : Int) ≤ c) = true := decide_eq_true h1
          by_cases h2 : c ≤ 57
          · have g2 : decide (c ≤ 57) = true := decide_eq_true h2
            have hd : d = c - 48 := by rw [LV.out, if_pos ⟨by omega, by omega⟩]
            clear LV
            subst hd
            have t1 : decide ((16 : Int) ≤ c - 48) = false := decide_eq_false (by omega)
            have u1 : decide (n * 16 + (c - 48) < n * 16) = false := decide_eq_false (by omega)
            by_cases hov : 65535 < n * 16 + (c - 48)
            · have u2 : decide ((65535 : Int) < n * 16 + (c - 48)) = true := decide_eq_true hov
              have F := Lib.hid (DR.out.trans ((if_neg (by omega)).trans (if_pos hov)))
              clear DR
              go_wp2_with fail
              go_ret2
              exact gives_pu F.out (.inr (.inl rfl)) B1.out
            · have u2 : decide ((65535 : Int) < n * 16 + (c - 48)) = false := decide_eq_false hov
              have F := Lib.hid (DR.out.trans ((if_neg (by omega)).trans (if_neg hov)))
              clear DR
              go_wp2_with fail
              go_round
              case rel => exact ⟨k + 1, n * 16 + (c - 48), rfl, rfl, by go_num, by omega, by omega, by omega, Lib.hid F.out.symm⟩
              case measure => simp only [intOf]; omega
          · have g2 : decide (c ≤ 57) = false := decide_eq_false h2
            by_cases h3 : 97 ≤ l
            · have t3 : decide ((97 : Int) ≤ l) = true := decide_eq_true h3
              by_cases h4 : l ≤ 122
              · have t4 : decide (l ≤ 122) = true := decide_eq_true h4
                have hd : d = l - 97 + 10 := by rw [LV.out, if_neg (by omega), if_pos ⟨by omega, by omega⟩]
                clear LV
                subst hd
                by_cases hbd : 16 ≤ l - 97 + 10
                · have t1 : decide ((16 : Int) ≤ l - 97 + 10) = true := decide_eq_true (by omega)
                  have F := Lib.hid (DR.out.trans (if_pos (by omega)))
                  clear DR
                  go_wp2_with (go_at_call 93; refine (CL.out _).mono ?_; rintro e w' ⟨rfl, rfl⟩)
                  go_ret2
                  exact gives_pu F.out (.inr (.inr rfl)) B1.out
                · have t1 : decide ((16 : Int) ≤ l - 97 + 10) = false := decide_eq_false (by omega)
                  have u1 : decide (n * 16 + (l - 97 + 10) < n * 16) = false := decide_eq_false (by omega)
                  by_cases hov : 65535 < n * 16 + (l - 97 + 10)
                  · have u2 : decide ((65535 : Int) < n * 16 + (l - 97 + 10)) = true := decide_eq_true hov
                    have F := Lib.hid (DR.out.trans ((if_neg (by omega)).trans (if_pos hov)))
                    clear DR
                    go_wp2_with (go_at_call 93; refine (CL.out _).mono ?_; rintro e w' ⟨rfl, rfl⟩)
                    go_ret2
                    exact gives_pu F.out (.inr (.inl rfl)) B1.out
                  · have u2 : decide ((65535 : Int) < n * 16 + (l - 97 + 10)) = false := decide_eq_false hov
                    have F := Lib.hid (DR.out.trans ((if_neg (by omega)).trans (if_neg hov)))
                    clear DR
                    go_wp2_with (go_at_call 93; refine (CL.out _).mono ?_; rintro e w' ⟨rfl, rfl⟩)
                    go_round
                    case rel => exact ⟨k + 1, n * 16 + (l - 97 + 10), rfl, rfl, by go_num, by omega, by omega, by omega, Lib.hid F.out.symm⟩
                    case measure => simp only [intOf]; omega
              · have t4 : decide (l ≤ 122) = false := decide_eq_false h4
                have F := Lib.hid (DR.out.trans (if_pos (by rw [LV.out, if_neg (by omega), if_neg (by omega)]; omega)))
                clear DR LV
                go_wp2_with (go_at_call 93; refine (CL.out _).mono ?_; rintro e w' ⟨rfl, rfl⟩)
                go_ret2
                exact gives_pu F.out (.inr (.inr rfl)) B1.out
            · have t3 : decide ((97 : Int) ≤ l) = false := decide_eq_false h3
              have F := Lib.hid (DR.out.trans (if_pos (by rw [LV.out, if_neg (by omega), if_neg (by omega)]; omega)))
              clear DR LV
              go_wp2_with (go_at_call 93; refine (CL.out _).mono ?_; rintro e w' ⟨rfl, rfl⟩)
              go_ret2
              exact gives_pu F.out (.inr (.inr rfl)) B1.out
        · have g1 : decide ((48 : Int) ≤ c) = false := decide_eq_false h1
          by_cases h3 : 97 ≤ l
          · have t3 : decide ((97 : Int) ≤ l) = true := decide_eq_true h3
            by_cases h4 : l ≤ 122
            · have t4 : decide (l ≤ 122) = true := decide_eq_true h4
              have hd : d = l - 97 + 10 := by rw [LV.out, if_neg (by omega), if_pos ⟨by omega, by omega⟩]
              clear LV
              subst hd
              by_cases hbd : 16 ≤ l - 97 + 10
              · have t1 : decide ((16 : Int) ≤ l - 97 + 10) = true := decide_eq_true (by omega)
                have F := Lib.hid (DR.out.trans (if_pos (by omega)))
                clear DR
                go_wp2_with (go_at_call 93; refine (CL.out _).mono ?_; rintro e w' ⟨rfl, rfl⟩)
                go_ret2
                exact gives_pu F.out (.inr (.inr rfl)) B1.out
              · have t1 : decide ((16 : Int) ≤ l - 97 + 10) = false := decide_eq_false (by omega)
                have u1 : decide (n * 16 + (l - 97 + 10) < n * 16) = false := decide_eq_false (by omega)
                by_cases hov : 65535 < n * 16 + (l - 97 + 10)
                · have u2 : decide ((65535 : Int) < n * 16 + (l - 97 + 10)) = true := decide_eq_true hov
                  have F := Lib.hid (DR.out.trans ((if_neg (by omega)).trans (if_pos hov)))
                  clear DR
                  go_wp2_with (go_at_call 93; refine (CL.out _).mono ?_; rintro e w' ⟨rfl, rfl⟩)
                  go_ret2
                  exact gives_pu F.out (.inr (.inl rfl)) B1.out
                · have u2 : decide ((65535 : Int) < n * 16 + (l - 97 + 10)) = false := decide_eq_false hov
                  have F := Lib.hid (DR.out.trans ((if_neg (by omega)).trans (if_neg hov)))
                  clear DR
                  go_wp2_with (go_at_call 93; refine (CL.out _).mono ?_; rintro e w' ⟨rfl, rfl⟩)
                  go_round
                  case rel => exact ⟨k + 1, n * 16 + (l - 97 + 10), rfl, rfl, by go_num, by omega, by omega, by omega, Lib.hid F.out.symm⟩
                  case measure => simp only [intOf]; omega
            · have t4 : decide (l ≤ 122) = false := decide_eq_false h4
              have F := Lib.hid (DR.out.trans (if_pos (by rw [LV.out, if_neg (by omega), if_neg (by omega)]; omega)))
              clear DR LV
              go_wp2_with (go_at_call 93; refine (CL.out _).mono ?_; rintro e w' ⟨rfl, rfl⟩)
              go_ret2
              exact gives_pu F.out (.inr (.inr rfl)) B1.out
          · have t3 : decide ((97 : Int) ≤ l) = false := decide_eq_false h3
            have F := Lib.hid (DR.out.trans (if_pos (by rw [LV.out, if_neg (by omega), if_neg (by omega)]; omega)))
            clear DR LV
            go_wp2_with (go_at_call 93; refine (CL.out _).mono ?_; rintro e w' ⟨rfl, rfl⟩)
            go_ret2
            exact gives_pu F.out (.inr (.inr rfl)) B1.out
      · obtain rfl : k = s.size := by omega
        have F := Lib.hid (HE.out.symm.trans (pu_end s (Nat.le_refl _)))
        clear HE
        generalize s.size = sz at *
        go_wp2_with fail
        go_ret2
        exact gives_pu F.out (.inl rfl) B1.out

end Go.Proofs.YtpekpgmdjpcpiaaDoor

namespace Go.Proofs.YtpekpgmdjpcpiaaDoor
open Go.RowKit

/-- The k big-endian bytes of a number, modulo 256^k. -/
def beZ : Nat → Int → List Int
  | 0, _ => []
  | k + 1, n => n / 256 ^ k % 256 :: beZ k n

theorem beZ_length (k : Nat) (n : Int) : (beZ k n).length = k := by
  induction k with
  | zero => rfl
  | succ k ih => simp [beZ, ih]

theorem beZ_byte (k : Nat) (n : Int) : ∀ x ∈ beZ k n, 0 ≤ x ∧ x ≤ 255 := by
  induction k with
  | zero => simp [beZ]
  | succ k ih =>
    intro x hx
    simp only [beZ, List.mem_cons] at hx
    rcases hx with rfl | hx
    · omega
    · exact ih x hx

/-- What stands in a row of m bytes when the last k are laid. -/
def layZ (m k : Nat) (n : Int) : List Int := List.replicate (m - k) 0 ++ beZ k n

theorem layZ_length {m k : Nat} (n : Int) (h : k ≤ m) : (layZ m k n).length = m := by
  simp [layZ, beZ_length]; omega

theorem layZ_set {m k : Nat} {n : Int} (h : k < m) : (layZ m k n).set (m - 1 - k) (n / 256 ^ k % 256) = layZ m (k + 1) n := by
  unfold layZ
  have e1 : m - k = (m - 1 - k) + 1 := by omega
  have e2 : m - (k + 1) = m - 1 - k := by omega
  rw [e1, e2, List.replicate_succ', List.append_assoc, List.set_append_right _ _ (by simp)]
  simp [beZ]

theorem lay_vals {m k : Nat} {n u : Int} (h : k < m) (hu : u = n / 256 ^ k % 256) :
    ((layZ m k n).map (Value.int .u8)).set (m - 1 - k) (.int .u8 u) = (layZ m (k + 1) n).map (Value.int .u8) := by
  rw [← layZ_set h, List.map_set, hu]

theorem div_step (n : Int) (k : Nat) : n / 256 ^ k / 256 = n / 256 ^ (k + 1) := by
  rw [Int.ediv_ediv_of_nonneg (Int.le_of_lt (Int.pow_pos (by decide))), Int.pow_succ]

theorem Tryd.info5 : (Tryd.prog.info? 5).map (fun i => (i.zero, i.size, i.bytes)) = some (some (.int .u8 0), 1, 1) := by kernel_rfl

/-- Bytes' answer. -/
def bytesZ (n many : Int) : List Int × Bool :=
  if 0 ≤ many ∧ many ≤ 64 then (if n / 256 ^ many.toNat = 0 then (beZ many.toNat n, true) else ([], false)) else ([], false)

/-- What a call of Bytes or Least leaves: a slice that reads as these bytes, in a world that has turned nothing that was there. -/
def GivesBytes (w : World) (zs : List Int) (ok : Bool) (e : Ending) (w' : World) : Prop :=
  ∃ a c, e = .returned (.tuple #[.slice a zs.length c, .bool ok]) ∧ Row w' a zs.length zs ∧ Below w.heap.size w w' ∧ zs.length ≤ c

/-- The world in a round of Bytes: the row that was made bears the last k bytes; s is what is left of the number. -/
def Laid (w : World) (m k : Nat) (n s : Int) (wr : World) : Prop :=
  wr.ownsRow w.heap.size 5 1 (.slice (some ⟨w.heap.size, 0, none⟩) m m) m ((layZ m k n).map (Value.int .u8)) ∧ Below w.heap.size w wr ∧ s = n / 256 ^ k

theorem bytes_start {w w1 : World} {m : Nat} {n : Int} (hown : w1.ownsRow w.heap.size 5 1 (.slice (some ⟨w.heap.size, 0, none⟩) m m) m (madeCells #[Value.int .u8 0] m).toList) (hg : w.grownBy w1 none) :
    Laid w m 0 n n w1 := by
  refine ⟨?_, (Below.refl _ _).grown hg (Nat.le_refl _) (fun k h => by cases h), by simp⟩
  have e : (madeCells #[Value.int .u8 0] m).toList = (layZ m 0 n).map (Value.int .u8) := by
    rw [toList_madeCells_one]
    simp [layZ, beZ]
  rw [← e]
  exact hown

theorem Laid.step {w wr : World} {m k : Nat} {n s : Int} (h : Laid w m k n s wr) (hk : k < m) :
    (∃ v, wr.cell? ⟨w.heap.size, m - 1 - k, none⟩ = some v) ∧ wr.frozen? ⟨w.heap.size, m - 1 - k, none⟩ = false ∧
    ∀ u, u = s % 256 → Laid w m (k + 1) n (s / 256) (wr.setCell ⟨w.heap.size, m - 1 - k, none⟩ (.int .u8 u)) := by
  obtain ⟨ho, hb, rfl⟩ := h
  have hl := layZ_length (m := m) (k := k) n (by omega)
  refine ⟨⟨_, (ho.cellAt (m - 1 - k) (by omega)).trans (List.getElem?_eq_getElem (by simp [hl]; omega))⟩, ho.frozenAt _, fun u hu => ⟨?_, hb.setCell (Nat.le_refl _) _, div_step n k⟩⟩
  have := (ho.stored (m - 1 - k) (.int .u8 u)).1
  rw [lay_vals hk hu] at this
  exact this

theorem bytesZ_in (n : Int) (m : Nat) (hm : m ≤ 64) : bytesZ n m = if n / 256 ^ m = 0 then (beZ m n, true) else ([], false) := by
  rw [bytesZ, if_pos (by omega), Int.toNat_natCast]

theorem bytes_end {w wr : World} {m k : Nat} {n : Int} (hm : m ≤ 64) (hk : k = m) (h : Laid w m k n 0 wr) :
    GivesBytes w (bytesZ n m).1 (bytesZ n m).2 (.returned (.tuple #[.slice (some ⟨w.heap.size, 0, none⟩) m m, .bool true])) wr := by
  subst hk
  obtain ⟨ho, hb, hs⟩ := h
  rw [bytesZ_in n k hm, if_pos hs.symm]
  have e : layZ k k n = beZ k n := by simp [layZ]
  rw [e] at ho
  refine ⟨some ⟨w.heap.size, 0, none⟩, k, ?_, ?_, hb, ?_⟩
  · rw [beZ_length]
  · rw [beZ_length]
    exact Row.of_own ho (beZ_byte k n)
  · rw [beZ_length]
    exact Nat.le_refl _

theorem bytes_none {w wr : World} {m k : Nat} {n s : Int} (hm : m ≤ 64) (hk : k = m) (hs : ¬ s = 0) (h : Laid w m k n s wr) :
    GivesBytes w (bytesZ n m).1 (bytesZ n m).2 (.returned (.tuple #[.slice none 0 0, .bool false])) wr := by
  subst hk
  obtain ⟨_, hb, rfl⟩ := h
  rw [bytesZ_in n k hm, if_neg hs]
  exact ⟨none, 0, rfl, Row.nil _ _, hb, Nat.le_refl _⟩

set_option maxHeartbeats 400000 in
theorem bytes_in (n : Int) (m : Nat) (w : World) (h0 : 0 ≤ n) (h1 : n ≤ 18446744073709551615) (hm : m ≤ 64) :
    Calls Tryd.prog 61 #[.int .u64 n, .int .i64 (m : Int)] w (GivesBytes w (bytesZ n m).1 (bytesZ n m).2) := by
  obtain ⟨i0, hi, hz0, hz1, hz2⟩ := info_parts Tryd.info5
  have d1 : decide ((m : Int) < 0) = false := by simp
  have d2 : decide (64 < (m : Int)) = false := by simp; omega
  go_enter Tryd.func61, Tryd.ntmps61
  go_wp2_with (at_make; refine wpList_make_full _ rfl _ _ 52 rfl w.heap.size 5 i0 (.int .u8 0) 1 Tryd.underlying52 hi hz0 hz1 _ _ _ _ m rfl rfl rfl rfl ?b1 ?b2 ?b3 ?_)
  case b1 => rw [hz2]; omega
  case b2 => unfold maxLen; omega
  case b3 => exact Nat.le_refl _
  intro w1 hown0 hgrow
  have HB := Lib.hid (bytes_start (n := n) hown0 hgrow)
  clear hown0 hgrow hz2 hz1 hz0 hi
  go_wp2
  go_loopw [0, 17] (fun t i wr => ∃ k : Nat, ∃ s : Int, k ≤ m ∧ 0 ≤ s ∧ s ≤ 18446744073709551615 ∧ i = .int .i64 k ∧ t = .int .u64 s ∧ Laid w m k n s wr) (fun _ i _ => m - (intOf i).toNat)
  case atStart => exact ⟨0, n, Nat.zero_le _, h0, h1, rfl, rfl, by simpa using HB.out⟩
  case round =>
    obtain ⟨k, s, hk, hs0, hs1, rfl, rfl, hl⟩ := hrel
    by_cases hlt : k < m
    · obtain ⟨⟨v, hc⟩, hf, hnext⟩ := hl.step hlt
      have HN := Lib.hid hnext
      clear hl hnext
      go_wp2
      go_roundw
      case rel => exact ⟨k + 1, _, by omega, by omega, by omega, by go_num, rfl, HN.out _ (by omega)⟩
      case measure => simp [intOf]; omega
    · have HL := Lib.hid hl
      clear hl
      by_cases hs : s = 0
      · subst hs
        go_wp2
        go_ret2
        exact bytes_end hm (by omega) HL.out
      · have hs' : (s != 0) = true := by simpa using hs
        go_wp2
        go_ret2
        exact bytes_none hm (by omega) hs HL.out

theorem bytesZ_out {n many : Int} (h : many < 0 ∨ 64 < many) : bytesZ n many = ([], false) := by
  rw [bytesZ, if_neg (by omega)]

set_option maxHeartbeats 400000 in
theorem bytes_out (n many : Int) (w : World) (h : many < 0 ∨ 64 < many) :
    Calls Tryd.prog 61 #[.int .u64 n, .int .i64 many] w (GivesBytes w (bytesZ n many).1 (bytesZ n many).2) := by
  rw [bytesZ_out h]
  rcases h with h | h
  · go_enter Tryd.func61, Tryd.ntmps61
    go_wp2
    go_ret2
    exact ⟨none, 0, rfl, Row.nil _ _, Below.refl _ _, Nat.le_refl _⟩
  · have h' : ¬ many < 0 := by omega
    go_enter Tryd.func61, Tryd.ntmps61
    go_wp2
    go_ret2
    exact ⟨none, 0, rfl, Row.nil _ _, Below.refl _ _, Nat.le_refl _⟩

theorem bytes_any (n many : Int) (w : World) (h0 : 0 ≤ n) (h1 : n ≤ 18446744073709551615) :
    Calls Tryd.prog 61 #[.int .u64 n, .int .i64 many] w (GivesBytes w (bytesZ n many).1 (bytesZ n many).2) := by
  by_cases h : many < 0 ∨ 64 < many
  · exact bytes_out n many w h
  · obtain ⟨m, rfl⟩ := Int.eq_ofNat_of_zero_le (show 0 ≤ many by omega)
    exact bytes_in n m w h0 h1 (by omega)

end Go.Proofs.YtpekpgmdjpcpiaaDoor

namespace Go.Proofs.YtpekpgmdjpcpiaaDoor
open Go.RowKit
set_option linter.unusedVariables false

def famM (v : Bool) : Int := if v then 65535 else 255
def puV (v : Bool) (s : ByteArray) : Int := puZ (famB v) (famM v) 0 (numsOf s)
theorem chV_low (c : Int) (h0 : 0 ≤ c) (h1 : c ≤ 255) : 0 ≤ chV c := by
  unfold chV
  split
  · omega
  · split <;> omega
theorem puZ_range {b m : Int} (hb : 0 ≤ b) (hm : 0 ≤ m) : ∀ (xs : List Int) (n : Int), (∀ x ∈ xs, 0 ≤ x ∧ x ≤ 255) → 0 ≤ n → n ≤ m → 0 ≤ puZ b m n xs ∧ puZ b m n xs ≤ m
  | [], n, _, h0, h1 => ⟨h0, h1⟩
  | c :: cs, n, hx, h0, h1 => by
    rw [puZ]
    have hc := chV_low c (hx c (by simp)).1 (hx c (by simp)).2
    split
    · omega
    · split
      · omega
      · exact puZ_range hb hm cs _ (fun x h => hx x (by simp [h])) (by have := Int.mul_nonneg h0 hb; omega) (by omega)
theorem puV_range (v : Bool) (s : ByteArray) : 0 ≤ puV v s ∧ puV v s ≤ famM v := puZ_range (by omega) (by cases v <;> decide) _ 0 (nums_byte s) (by omega) (by cases v <;> decide)

def GivesNum (n : Int) (w : World) (e : Ending) (w' : World) : Prop := ∃ er, e = .returned (.tuple #[.int .u64 n, er]) ∧ Below w.heap.size w w'
set_option maxHeartbeats 1000000 in
theorem parse_any (v : Bool) (s : ByteArray) (w : World) (hz : s.size ≤ 4000000) (hs : Std w) :
    Calls Tryd.prog 60 #[.string s, .int .i64 (famB v : Int), .int .i64 (8 * (famG v : Int))] w (GivesNum (puV v s) w) := by
  have CP : Hid (Calls Tryd.prog 77 #[.string s, .int .i64 (famB v : Int), .int .i64 (8 * (famG v : Int))] w (GivesPu s (famB v) (famM v) w)) := Lib.hid (by
    cases v with
    | true => exact pu16_any s w hz
    | false => exact pu10_any s w hz)
  have PV : Hid (puZ (famB v) (famM v) 0 (numsOf s) = puV v s) := Lib.hid rfl
  unfold GivesPu at CP
  rw [PV.out] at CP
  have HS := Lib.hid hs
  clear hs
  generalize puV v s = n at *
  generalize (famB v : Int) = b at *
  generalize 8 * (famG v : Int) = bs at *
  go_enter Tryd.func60, Tryd.ntmps60
  go_upto_region 2 with (go_at_call 77; refine CP.out.mono ?_; rintro e w2 ⟨er, rfl, her, hb2⟩; have HB := Lib.hid hb2; have HE := Lib.hid her; clear hb2 her CP)
  rcases HE.out with rfl | rfl | rfl
  · go_wp2_with fail
    go_ret2
    exact ⟨.nilIface, rfl, HB.out⟩
  · obtain ⟨ev, h1, h2⟩ := (HS.out.later HB.out).ran
    have CE := Lib.hid (Tryd.strconv_toError_range ⟨#[80, 97, 114, 115, 101, 85, 105, 110, 116]⟩ s b bs ev w2 (by omega) h1 h2)
    clear h1 h2
    go_wp2_with (go_at_call 58; refine CE.out.mono ?_; rintro e w3 ⟨N, rfl, _, _, hb3⟩; have B3 := Lib.hid (Below.step HB.out hb3); clear hb3 CE)
    go_ret2
    exact ⟨_, rfl, B3.out⟩
  · obtain ⟨ev, h1, h2⟩ := (HS.out.later HB.out).syn
    have CE := Lib.hid (Tryd.strconv_toError_syntax ⟨#[80, 97, 114, 115, 101, 85, 105, 110, 116]⟩ s b bs ev w2 (by omega) h1 h2)
    clear h1 h2
    go_wp2_with (go_at_call 58; refine CE.out.mono ?_; rintro e w3 ⟨N, rfl, _, _, hb3⟩; have B3 := Lib.hid (Below.step HB.out hb3); clear hb3 CE)
    go_ret2
    exact ⟨_, rfl, B3.out⟩

/-- A number's bytes, as many as a group has. -/
def partB (v : Bool) (n : Int) : List Int := if v then [n / 256, n % 256] else [n]
theorem partB_len (v : Bool) (n : Int) : (partB v n).length = famG v := by cases v <;> rfl
theorem partB_byte {v : Bool} {n : Int} (h0 : 0 ≤ n) (h1 : n ≤ famM v) : ∀ x ∈ partB v n, 0 ≤ x ∧ x ≤ 255 := by
  intro x hx
  cases v with
  | true =>
    have h1' : n ≤ 65535 := h1
    have hx' : x = n / 256 ∨ x = n % 256 := by simpa [partB] using hx
    omega
  | false =>
    have h1' : n ≤ 255 := h1
    have hx' : x = n := by simpa [partB] using hx
    omega
theorem fits_any (v : Bool) (n : Int) (w : World) (h0 : 0 ≤ n) (h1 : n ≤ famM v) :
    Calls Tryd.prog 61 #[.int .u64 n, .int .i64 (famG v : Int)] w (GivesBytes w (partB v n) true) := by
  have hm : famM v ≤ 65535 := by cases v <;> decide
  have h := bytes_any n (famG v : Int) w h0 (by omega)
  have e : bytesZ n (famG v : Int) = (partB v n, true) := by
    cases v with
    | true =>
      have h1' : n ≤ 65535 := h1
      show bytesZ n 2 = ([n / 256, n % 256], true)
      unfold bytesZ
      rw [if_pos (by omega)]
      show (if n / 256 ^ 2 = 0 then (beZ 2 n, true) else ([], false)) = _
      rw [if_pos (by omega)]
      simp only [beZ]
      congr 2
      · omega
      · congr 1
        omega
    | false =>
      have h1' : n ≤ 255 := h1
      show bytesZ n 1 = ([n], true)
      unfold bytesZ
      rw [if_pos (by omega)]
      show (if n / 256 ^ 1 = 0 then (beZ 1 n, true) else ([], false)) = _
      rw [if_pos (by omega)]
      simp only [beZ]
      congr 2
      omega
  rw [e] at h
  exact h

/-- The bytes of a text's groups. -/
def piecesZ (v : Bool) (t : ByteArray) : List ByteArray := Lib.splitB (famS v) 0 (min (famK v) (t.size + 1) - 1) t
def groupsB (v : Bool) (P : List ByteArray) : List Int := (P.map fun p => partB v (puV v p)).flatten
theorem groupsB_more (v : Bool) (P : List ByteArray) (k : Nat) (h : k < P.length) : groupsB v (P.take (k + 1)) = groupsB v (P.take k) ++ partB v (puV v (P[k]?.getD ByteArray.empty)) := by
  unfold groupsB
  rw [List.take_succ_eq_append_getElem h, List.map_append, List.flatten_append, List.getElem?_eq_getElem h]
  simp
theorem groupsB_len (v : Bool) (P : List ByteArray) : (groupsB v P).length = famG v * P.length := by
  unfold groupsB
  induction P with
  | nil => simp
  | cons p P ih =>
    simp only [List.map_cons, List.flatten_cons, List.length_append, List.length_cons, partB_len, Nat.mul_add, Nat.mul_one]
    omega
theorem groupsB_byte (v : Bool) (P : List ByteArray) : ∀ x ∈ groupsB v P, 0 ≤ x ∧ x ≤ 255 := by
  intro x hx
  obtain ⟨l, hl, hx⟩ := List.mem_flatten.1 hx
  obtain ⟨p, _, rfl⟩ := List.mem_map.1 hl
  have hr := puV_range v p
  exact partB_byte hr.1 hr.2 x hx

end Go.Proofs.YtpekpgmdjpcpiaaDoor

namespace Go.Proofs.YtpekpgmdjpcpiaaDoor
open Go.RowKit
set_option linter.unusedVariables false

theorem cellsOf_at (P : List ByteArray) (N k : Nat) (h : k < P.length) : (Lib.cellsOf P N)[k]? = some (.string (P[k]?.getD ByteArray.empty)) := by
  unfold Lib.cellsOf
  rw [List.getElem?_toArray, List.getElem?_append_left (by simpa using h), List.getElem?_map, List.getElem?_eq_getElem h]
  rfl
theorem pieces_len (v : Bool) (t : ByteArray) : (piecesZ v t).length ≤ famK v ∧ 1 ≤ famK v ∧ famK v ≤ 8 := by
  have h := Lib.splitB_length_le (famS v) 0 (min (famK v) (t.size + 1) - 1) t
  have hf := fam_is v
  unfold piecesZ
  omega
theorem splitB_size (sep : ByteArray) : ∀ (k : Nat) (s : ByteArray), ∀ p ∈ Lib.splitB sep 0 k s, p.size ≤ s.size
  | 0, s => by
    intro p hp
    rw [Lib.splitB_zero] at hp
    simp at hp
    rw [hp]
    exact Nat.le_refl _
  | k + 1, s => by
    intro p hp
    unfold Lib.splitB at hp
    split at hp
    · simp at hp
      rw [hp]
      exact Nat.le_refl _
    · rcases List.mem_cons.1 hp with rfl | hp
      · rw [ByteArray.size_extract]
        omega
      · have := splitB_size sep k _ p hp
        rw [ByteArray.size_extract] at this
        omega

set_option maxHeartbeats 2000000 in
set_option maxRecDepth 10000 in
theorem groupsof_any (v : Bool) (t : ByteArray) (w : World) (hn : t.size ≤ 4000000) (hs : Std w) :
    Calls Tryd.prog 46 #[.agg (famC v), .string t] w (GivesNew (groupsB v (piecesZ v t)) w) := by
  have BF := Lib.hid (Blk.new w 56 (famC v))
  have BW := Lib.hid (box_below w (.cells (famC v) 56))
  have HS := Lib.hid (hs.later BW.out)
  have FI := fam_is v
  have PL := pieces_len v t
  have PS := Lib.hid (splitB_size (famS v) (min (famK v) (t.size + 1) - 1) t)
  have C0 := Lib.hid (show (famC v)[0]? = some (.int .i64 (famN v : Int)) from rfl)
  have C1 := Lib.hid (show (famC v)[1]? = some (.int .i64 (famG v : Int)) from rfl)
  have C2 := Lib.hid (show (famC v)[2]? = some (.int .i64 (famB v : Int)) from rfl)
  have C3 := Lib.hid (show (famC v)[3]? = some (.string (famS v)) from rfl)
  have d0 := (BF.out.cell 0).trans C0.out
  have d1 := (BF.out.cell 1).trans C1.out
  have d3 := (BF.out.cell 3).trans C3.out
  have qd : (famN v : Int).tdiv (famG v : Int) = (famK v : Int) := by cases v <;> rfl
  have q0 : ¬ famG v = 0 := by cases v <;> decide
  have qw : IntKind.i64.wrap (famK v : Int) = (famK v : Int) := IntWalk.i64_in _ (by omega)
  have CS : Hid (∀ W, Std W → Calls Tryd.prog 59 #[.string t, .string (famS v), .int .i64 (famK v : Int)] W fun e w' =>
      ∃ g, e = .returned (.slice (some ⟨g, 0, none⟩) (piecesZ v t).length (min (famK v) (t.size + 1))) ∧ Blk w' g 9 (Lib.cellsOf (piecesZ v t) (min (famK v) (t.size + 1))) ∧ Below W.heap.size W w') := Lib.hid (fun W hW => by
    obtain ⟨m, hm⟩ := hW.most
    refine (Tryd.strings_SplitN t (famS v) (famK v) m W (by omega) hm (by cases v <;> decide) (by omega) (by omega)).mono ?_
    rintro e w' ⟨he, hw⟩
    exact ⟨W.heap.size, he, by rw [hw]; exact Blk.new W _ _, by rw [hw]; exact box_below W _⟩)
  have CA := Lib.hid (fun k (h : k < (piecesZ v t).length) => cellsOf_at (piecesZ v t) (min (famK v) (t.size + 1)) k h)
  clear hs
  go_enter Tryd.func46, Tryd.ntmps46
  generalize hfc : famC v = fc at *
  generalize hw2 : w.alloc (.cells fc 56) = w2 at *
  have HFI := Lib.hid FI
  clear FI
  have m0 := cell_later d0
  have m1 := cell_later d1
  have m3 := cell_later d3
  go_wp2_with fail
  clear hw2 hfc
  refine wp_region_ord Ext Ext.refl (fun _ _ _ => Ext.trans) ((0, false) :: (1, false) :: (2, false) :: (3, false) :: (4, false) :: (5, false) :: (6, false) :: (7, false) :: (10, false) :: (8, true) :: (9, false) :: []) (by kernel_rfl) (by kernel_rfl) rfl (by kernel_rfl) (fun _ _ _ _ _ h => h) ?_
  repeat (refine ord_take _ rfl (by rfl) (fun W hW => by go_simp; first | done | rfl) ?_; simp only [Act.put, List.setIfInBounds_toArray, List.set_cons_zero, List.set_cons_succ])
  refine ord_sole rfl (by rfl) (fun K1 hK1 => ?_)
  go_simp
  refine (CS.out _ (HS.out.drewN 1)).mono ?_
  rintro r w3 ⟨gS, rfl, ks, hb3⟩
  have KS := Lib.hid ks
  clear ks
  refine hK1 _ _ hb3 ?_
  have E3 := Lib.hid (Below.step (drewN_below w2 1) hb3)
  have B3 := Lib.hid (Below.step BW.out E3.out)
  have F3 := Lib.hid (BF.out.below E3.out BF.out.lt)
  have H3 := Lib.hid (HS.out.later E3.out)
  clear hK1 K1 CS hb3 m0 m1 m3 d0 d1 d3 BW BF HS E3 qd q0 qw
  have hlen := pieces_len v t
  have PZ : Hid (∀ p ∈ piecesZ v t, p.size ≤ t.size) := Lib.hid PS.out
  generalize min (famK v) (t.size + 1) = cN at *
  generalize piecesZ v t = P at *
  repeat (refine ord_take _ rfl (by rfl) (fun W hW => by go_simp; first | done | rfl) ?_; simp only [Act.put, List.setIfInBounds_toArray, List.set_cons_zero, List.set_cons_succ])
  refine ord_end ?_
  go_wp2_with fail
  have hG := HFI.out
  have gw : IntKind.i64.wrap (8 * (famG v : Int)) = 8 * (famG v : Int) := IntWalk.i64_in _ (by omega)
  clear PS PL
  go_loopw [5, 22] (fun V iV wr => ∃ (k : Nat), iV = .int .i64 (k : Int) ∧ k ≤ P.length ∧ Out w3 wr V (groupsB v (P.take k))) (fun _ iV _ => (20 - intOf iV).toNat)
  case atStart => exact ⟨0, rfl, Nat.zero_le _, by rw [List.take_zero]; exact out_nil w3⟩
  case round =>
    obtain ⟨k, rfl, hk, ho⟩ := hrel
    have HO := Lib.hid ho
    have HSr := Lib.hid (H3.out.later ho.2)
    have FR := Lib.hid (F3.out.below ho.2 F3.out.lt)
    have KR := Lib.hid (KS.out.below ho.2 KS.out.lt)
    clear ho
    by_cases hlt : k < P.length
    · have t0 : decide ((k : Int) < (P.length : Int)) = true := decide_eq_true (by omega)
      have t0' : decide (k < P.length) = true := decide_eq_true hlt
      have ck := (KR.out.cell k).trans (CA.out k hlt)
      have GM := Lib.hid (groupsB_more v P k hlt)
      have psz : (P[k]?.getD ByteArray.empty).size ≤ 4000000 := by
        rw [List.getElem?_eq_getElem hlt]
        have := PZ.out _ (List.getElem_mem hlt)
        show (P[k]).size ≤ _
        omega
      have CP := Lib.hid (parse_any v (P[k]?.getD ByteArray.empty) wr psz HSr.out)
      have pr := puV_range v (P[k]?.getD ByteArray.empty)
      have CB := Lib.hid (fun W => fits_any v (puV v (P[k]?.getD ByteArray.empty)) W pr.1 pr.2)
      have PL2 := Lib.hid (partB_len v (puV v (P[k]?.getD ByteArray.empty)))
      have PB2 := Lib.hid (partB_byte (v := v) pr.1 pr.2)
      have LL : (groupsB v (P.take k)).length + famG v ≤ 1000000 := by
        rw [groupsB_len, List.length_take]
        have := Nat.mul_le_mul hG.2.2.1 (show min k P.length ≤ 8 by omega)
        omega
      have d1 := (FR.out.cell 1).trans C1.out
      have d2 := (FR.out.cell 2).trans C2.out
      have pb : famM v ≤ 65535 := by cases v <;> decide
      generalize P[k]?.getD ByteArray.empty = p at *
      generalize puV v p = num at *
      generalize partB v num = pz at *
      generalize hgl : groupsB v (P.take k) = GL at *
      have HGL := Lib.hid hgl
      clear hgl hG
      have HP := Lib.hid hlt
      have G1 := Lib.hid HFI.out.2.1
      have LLh := Lib.hid LL
      clear LL
      go_wp2_with (first
        | (go_at_call 60; refine CP.out.mono ?_; rintro e w4 ⟨er, rfl, hb4⟩; have O4 := Lib.hid (HO.out.below hb4); have d1' := ((F3.out.below O4.out.2 F3.out.lt).cell 1).trans C1.out; clear hb4 CP d1 d2)
        | (go_at_call 61; refine (CB.out _).mono ?_; rintro e w5 ⟨ab, cb, rfl, hrow, hb5, _⟩; obtain ⟨b5, o5, rfl, _, _⟩ := hrow.2.2 (by rw [PL2.out]; exact G1.out); have O5 := Lib.hid (O4.out.below hb5); have HR5 := Lib.hid hrow; clear hb5 hrow CB d1')
        | (at_builtin; refine out_append (W0 := w3) (L := GL) (zs := pz) rfl _ _ rfl rfl O5.out rfl HR5.out (fun h => by cases h) (by rw [PL2.out]; exact LLh.out) ?_; intro V6 w6 ho6; have O6 := Lib.hid ho6; clear ho6))
      go_roundw
      case rel => exact ⟨k + 1, by go_num, by have := HP.out; omega, by rw [GM.out]; exact O6.out⟩
      case measure => simp only [intOf]; have := HP.out; omega
    · obtain rfl : k = P.length := by omega
      have HX : Hid (∀ V, Out w3 wr V (groupsB v (P.take P.length)) → Out w wr V (groupsB v P)) := Lib.hid (fun V h => by
        rw [List.take_length] at h
        exact Out.wider h B3.out)
      generalize groupsB v (P.take P.length) = GL at *
      generalize hPl : P.length = n at *
      go_wp2_with fail
      go_ret
      exact ⟨_, rfl, HX.out _ HO.out⟩

end Go.Proofs.YtpekpgmdjpcpiaaDoor

namespace Go.Proofs.YtpekpgmdjpcpiaaDoor
open Go.RowKit
set_option linter.unusedVariables false

theorem rparts_s (s : ByteArray) (c : Int) (w : World) (hs : s.size ≤ 6000) (hc0 : 0 ≤ c) (hc1 : c ≤ 255) : Calls Tryd.prog 27 #[.string s, .int .u8 c] w fun e w' => ∃ a n, e = .returned (.slice a (strsZ s c).length n) ∧ SRow w' a (strsZ s c).length (strsZ s c) ∧ (∀ b off, a = some ⟨b, off, none⟩ → w.heap.size ≤ b) ∧ Below w.heap.size w w' := by
  refine (rparts_any s c w hs hc0 hc1).mono ?_
  rintro e w' ⟨a, n, rfl, hr, ho, hb⟩
  unfold strsZ
  rw [sb_len]
  exact ⟨a, n, rfl, hr, ho, hb⟩
theorem SRow.at_ {w : World} {a : Option Addr} {n : Nat} {ss : List ByteArray} (h : SRow w a n ss) (hn : 0 < n) : ∃ b off, a = some ⟨b, off, none⟩ ∧ b < w.heap.size ∧ ∀ i, i < n → w.cell? ⟨b, off + i, none⟩ = some (.string (strAt ss i)) := h.2 hn
theorem str_no {x y : ByteArray} (h : ¬ x = y) : (x.toList == y.toList) = false := by
  rw [beq_eq_false_iff_ne]
  intro e
  rw [Lib.toList_data, Lib.toList_data] at e
  obtain ⟨⟨x⟩⟩ := x
  obtain ⟨⟨y⟩⟩ := y
  exact h (by rw [show x = y from e])
theorem zp_one : ZP.all (·.oneCell') = true := pcells_one false (List.replicate 16 0) 0
theorem zp_len (L : Int) : pcells false zeroA L = ZP.setIfInBounds 17 (.int .i64 L) := rfl

set_option maxHeartbeats 4000000 in
set_option maxRecDepth 10000 in
theorem rread_any (s : ByteArray) (w : World) (hs : s.size ≤ 1000) : Calls Tryd.prog 13 #[.string s] w (GivesRead s w) := by
  have BR := Lib.hid (Blk.new w 24 ZP)
  have BW := Lib.hid (box_below w (.cells ZP 24))
  have SZP : Hid ((Tryd.prog.info? 24).map (·.size) = some ZP.size) := Lib.hid (Tryd.sizeP (A := List.replicate 16 0) rfl)
  have CP := Lib.hid (fun W => rparts_s s 47 W (by omega) (by omega) (by omega))
  have ZS1 := strAt_size s 47 1
  have ZS0 := strAt_size s 47 0
  have ZP1 : Hid (ZP.all (·.oneCell') = true) := Lib.hid zp_one
  have ZPS : Hid (∀ (v : Bool) (A : List Int) (L : Int), A.length = 16 → ZP.size = (pcells v A L).size) := Lib.hid (fun v A L h => by rw [pcells_size h]; rfl)
  have ZPL : Hid (∀ L : Int, pcells false zeroA L = ZP.setIfInBounds 17 (.int .i64 L)) := Lib.hid zp_len
  have N2 := Lib.hid (parse_none2 (s := s))
  have N4 := Lib.hid (fun h4 i hi hf => parse_nofour (s := s) h4 (i := i) hi hf)
  have Y4 := Lib.hid (fun h h4 hf => parse_four (s := s) h h4 hf)
  have Y6 := Lib.hid (fun h h4 => parse_six (s := s) h h4)
  generalize hzz : ZP = zp at *
  have ZZ := Lib.hid hzz
  clear hzz
  go_enter Tryd.func13, Tryd.ntmps13
  go_wp2_with (refine Great.wpList_allocTo rfl (some 2) rfl (.pointer (some ⟨w.heap.size, 0, none⟩)) (.cells zp 24) (by rw [← ZZ.out]; rfl) ?_)
  generalize w.alloc (.cells zp 24) = w2 at *
  refine (CP.out _).mono ?_
  rintro e w3 ⟨a, c, rfl, hr, _, hb⟩
  have R3 := Lib.hid (BR.out.below hb BR.out.lt)
  have B3 := Lib.hid (Below.step BW.out hb)
  have S3 := Lib.hid hr
  clear CP BR BW hr hb
  generalize hss : strsZ s 47 = ss at *
  have SS := Lib.hid hss
  clear hss
  by_cases h2 : ss.length = 2
  · rw [h2] at S3 ⊢
    obtain ⟨b, off, rfl, hbl, hcell⟩ := S3.out.at_ (by omega)
    have c0 := hcell 0 (by omega)
    have c1 := hcell 1 (by omega)
    rw [Nat.add_zero] at c0
    have CN := Lib.hid (fun W => rnumber_any (strAt ss 1) 10 128 W (by omega) (by omega) (by omega) (by omega) (by omega))
    have LR := lenN_rng ss
    have LD : numG 10 128 0 (numsOf (strAt ss 1)) = lenN ss := rfl
    rw [LD] at CN
    clear LD hcell S3 N2
    generalize strAt ss 1 = s1 at *
    generalize lenN ss = L at *
    go_wp2_with fail
    refine (CN.out _).mono ?_
    rintro e w4 ⟨rfl, rfl⟩
    clear CN c1
    have RL := R3.out.lt
    have s5 := Blk.new w4 24 zp
    have S5 := Lib.hid s5
    have P5 : Hid (PBlk ((w4.alloc (.cells zp 24)).setRow w4.heap.size (pcells false zeroA L)) w4.heap.size false zeroA L) := Lib.hid (setRow_heap _ _ _ _ _ _ s5)
    have b5 : Below w4.heap.size w4 ((w4.alloc (.cells zp 24)).setRow w4.heap.size (pcells false zeroA L)) := below_setRow (box_below w4 _) (Nat.le_refl _) _
    have R5 := Lib.hid (R3.out.below b5 R3.out.lt)
    have B5 := Lib.hid (Below.step B3.out b5)
    have c5 := (b5.cell (p := ⟨b, off, none⟩) hbl).trans c0
    have SZ0 := Lib.hid (Tryd.sizeP (v := false) (L := L) zeroA_ok.1)
    have NS0 := Lib.hid (ZPS.out false zeroA L zeroA_ok.1)
    have BU : Hid (pcells false zeroA L = zp.setIfInBounds 17 (.int .i64 L)) := Lib.hid (ZPL.out L)
    clear s5 b5 R3 B3 c0
    go_wp2_with (first
      | (refine wpList_buildTo rfl 24 #[(2, .tmp 22)] rfl (some 23) rfl (pcells false zeroA L) (by first | rfl | kernel_rfl) ?_)
      | (refine Great.wpList_allocTo rfl (some 5) rfl (.pointer (some ⟨w4.heap.size, 0, none⟩)) (.cells zp 24) (by rw [← ZZ.out]; rfl) ?_)
      | (refine wpList_store_rowTo rfl 24 (.tmp 5) (.tmp 23) rfl rfl w4.heap.size (pcells false zeroA L) rfl rfl 24 zp S5.out SZ0.out NS0.out (pcells_one ..) ?_))
    have CP4 := Lib.hid (fun W => rparts_s (strAt ss 0) 46 W (by omega) (by omega) (by omega))
    have CP8 := Lib.hid (fun W => rparts_s (strAt ss 0) 58 W (by omega) (by omega) (by omega))
    have FZ4 := Lib.hid (fun i => strAt_size (strAt ss 0) 46 i)
    have FZ8 := Lib.hid (strs_size (strAt ss 0) 58)
    have FL8 := strs_len (strAt ss 0) 58
    clear S5 SZ0 NS0 BU
    generalize (w4.alloc (.cells zp 24)).setRow w4.heap.size (pcells false zeroA L) = w5 at *
    generalize w4.heap.size = gp at *
    generalize strAt ss 0 = s0 at *
    have LP := P5.out.lt
    refine (CP4.out _).mono ?_
    rintro e w6 ⟨a4, n4, rfl, hr4, ho4, hb4⟩
    have R6 := Lib.hid (R5.out.below hb4 R5.out.lt)
    have P6 := Lib.hid (P5.out.below hb4 P5.out.lt)
    have B6 := Lib.hid (Below.step B5.out hb4)
    have c6 := (hb4.cell (p := ⟨b, off, none⟩) (show b < w5.heap.size by omega)).trans c5
    have hb6 : b < w6.heap.size := by have := hb4.size; omega
    clear hb4 c5 CP4 R5 P5 B5
    have F4 := Lib.hid hr4
    have O4 := Lib.hid ho4
    clear hr4 ho4
    generalize strsZ s0 46 = F at *
    by_cases h4 : F.length = 4
    · rw [h4] at F4 ⊢
      obtain ⟨b4, o4, rfl, hbl4, hc4⟩ := F4.out.at_ (by omega)
      have lo4 := O4.out b4 o4 rfl
      have HC4 := Lib.hid hc4
      have NO4 := Lib.hid (N4.out h4)
      have YO4 := Lib.hid (Y4.out h2 h4)
      clear hc4 F4 O4 CP8 FZ8 c6 N4 Y4 Y6
      go_wp2_with fail
      go_loopg [7] 4 (fun gk iV wr => ∃ i : Nat, gk + i = 4 ∧ iV = .int .i64 (i : Int) ∧ (∀ j, j < i → 0 ≤ fourN F j) ∧ Blk wr w.heap.size 24 zp ∧ PBlk wr gp false (fourK F i) L ∧ (∀ j, j < 4 → wr.cell? ⟨b4, o4 + j, none⟩ = some (.string (strAt F j))) ∧ Below w.heap.size w wr)
      case atStart => exact ⟨0, rfl, rfl, fun j hj => absurd hj (by omega), R6.out, P6.out, HC4.out, B6.out⟩
      case round =>
        obtain ⟨i, hgi, rfl, hpos, hR, hP, hC, hB⟩ := hrel
        have PO := Lib.hid hpos
        have R7 := Lib.hid hR
        have P7 := Lib.hid hP
        have C7 := Lib.hid hC
        have B7 := Lib.hid hB
        clear hpos hR hP hC hB R6 P6 HC4 B6
        by_cases hi : i < 4
        · have t0 : decide ((i : Int) < 4) = true := decide_eq_true (by omega)
          have t0' : decide (i < 4) = true := decide_eq_true hi
          obtain ⟨g, rfl⟩ : ∃ g, gk = g + 1 := ⟨gk - 1, by omega⟩
          have ci := C7.out i hi
          have zi := FZ4.out i
          have CN := Lib.hid (fun W => rnumber_any (strAt F i) 10 255 W (by omega) (by omega) (by omega) (by omega) (by omega))
          have XE : numG 10 255 0 (numsOf (strAt F i)) = fourN F i := rfl
          rw [XE] at CN
          have XR := fourN_rng F i
          have A7 := Lib.hid (fourK_ok F i PO.out)
          have a16 := A7.out.1
          have c1 := (Blk.cell P7.out (1 + i)).trans (pcells_a a16 i (by omega))
          have f1 := Blk.free P7.out (1 + i)
          have P8 : Hid (PBlk (wr.setCell ⟨gp, 1 + i, none⟩ (.int .u8 (fourN F i))) gp false (fourK F (i + 1)) L) := Lib.hid (PBlk.setA P7.out a16 i (by omega) (fourN F i))
          have POS : Hid (0 ≤ fourN F i → ∀ j, j < i + 1 → 0 ≤ fourN F j) := Lib.hid (fun h j hj => by
            rcases Nat.lt_or_ge j i with h' | h'
            · exact PO.out j h'
            · rw [show j = i by omega]; exact h)
          have NOi := Lib.hid (NO4.out i hi)
          clear XE zi
          generalize strAt F i = si at *
          generalize (fourK F i)[i]?.getD 0 = y at c1
          generalize hx : fourN F i = x at *
          have k1 : IntKind.u8.wrap x = if 0 ≤ x then x else 255 := by
            split
            · exact IntWalk.u8_in _ (by omega)
            · rw [show x = -1 by omega]; rfl
          go_wp2_with fail
          refine (CN.out _).mono ?_
          rintro e w8 ⟨rfl, rfl⟩
          by_cases h0 : 0 ≤ x
          · have t1 : decide (x < 0) = false := decide_eq_false (by omega)
            rw [if_pos h0] at k1
            have PX := Lib.hid (POS.out h0)
            have R8 := Lib.hid (Blk.far R7.out (show w.heap.size ≠ gp by omega) (1 + i) (.int .u8 x))
            have C8 := Lib.hid (fun j (hj : j < 4) => (World.cell?_setCell_other w8 ⟨gp, 1 + i, none⟩ ⟨b4, o4 + j, none⟩ (.int .u8 x) (fun e => by injection e with e1; omega)).trans (C7.out j hj))
            have B8 := Lib.hid (Below.setCell B7.out (p := ⟨gp, 1 + i, none⟩) (Nat.le_of_lt RL) (.int .u8 x))
            clear CN POS NOi ci R7 P7 C7 B7
            go_wp2_with fail
            go_roundg g
            case measure => omega
            case rel => exact ⟨i + 1, by omega, by go_num, PX.out, R8.out, P8.out, C8.out, B8.out⟩
          · have t1 : decide (x < 0) = true := decide_eq_true (by omega)
            have NO := Lib.hid (NOi.out (by omega))
            have RR := R7
            have BB := B7
            clear CN POS NOi ci P7 C7 P8
            go_wp2_with (first
              | (refine wpList_buildTo rfl 24 #[] rfl (some 42) rfl zp (by rw [← ZZ.out]; kernel_rfl) ?_)
              | (refine wpList_store_rowTo rfl 24 (.tmp 2) (.tmp 42) rfl rfl w.heap.size zp rfl rfl 24 zp RR.out SZP.out rfl ZP1.out ?_))
            exact bodyPost_ret (results_row_val (p := 2) (u := 3) rfl _ _ w.heap.size 24 zp (0, 0) _ rfl (setRow_heap _ _ _ _ 24 _ RR.out) Tryd.underlying24 rfl SZP.out) rfl (by rw [← ZZ.out]; exact gives_none NO.out (below_setRow BB.out (Nat.le_refl _) _))
        · have t0 : decide ((i : Int) < 4) = false := decide_eq_false (by omega)
          have t0' : decide (i < 4) = false := decide_eq_false hi
          obtain rfl : i = 4 := by omega
          have YY := Lib.hid (YO4.out PO.out)
          have A6 := Lib.hid (fourK_ok F 4 PO.out)
          have P6 := P7
          have RR := R7
          have BB := B7
          clear YO4 NO4 PO C7 P7 R7 B7 FZ4
          generalize fourK F 4 = A at *
          have a16 := A6.out.1
          have SZ6 := Lib.hid (Tryd.sizeP (v := false) (L := L) a16)
          have CT := Lib.hid (fun W => rtext_any false A L W A6.out (by omega) (by omega))
          have NS := Lib.hid (ZPS.out false A L a16)
          have N1 := Lib.hid (pcells_one false A L)
          have TE1 : Hid (rightA false A L = true → textE false A L = textZ false A L) := Lib.hid (fun h => if_pos h)
          have TR1 : Hid (rightA false A L = true → textR false A L = 0) := Lib.hid (fun h => if_pos h)
          have TR0 : Hid (¬ rightA false A L = true → textR false A L = 1) := Lib.hid (fun h => if_neg h)
          have GW := Lib.hid (fun hn W hb => gives_wrong (s := s) (w := w) (w' := W) YY.out hn hb)
          have GO := Lib.hid (fun hr ht W hb => gives_one (s := s) (w := w) (w' := W) A6.out YY.out hr ht hb)
          have PC := Lib.hid (show Blk _ gp 24 (pcells false A L) from P6.out)
          clear YY P6 A6
          generalize pcells false A L = pc at *
          go_wp2_with (refine wpList_load_row rfl 24 (.tmp 5) rfl gp rfl 24 pc (0, 0) _ PC.out Tryd.underlying24 rfl SZ6.out ?_)
          refine (CT.out _).mono ?_
          rintro e w9 ⟨rfl, hb9⟩
          have R9 := Lib.hid (RR.out.below hb9 RR.out.lt)
          have P9 := Lib.hid (PC.out.below hb9 PC.out.lt)
          have B9 := Lib.hid (Below.step BB.out hb9)
          clear CT hb9 RR PC BB
          have RR := R9
          have BB := B9
          clear R9 B9
          by_cases hr : rightA false A L = true
          · rw [TE1.out hr, TR1.out hr]
            have GO1 := Lib.hid (GO.out hr)
            have GW1 := Lib.hid (fun (ht : ¬ strOfNums (textZ false A L) = s) => GW.out (fun h => ht h.2))
            clear GO GW TE1 TR1 TR0
            generalize strOfNums (textZ false A L) = tx at *
            by_cases ht : tx = s
            · have G2 := Lib.hid (GO1.out ht)
              clear GO1 GW1
              subst ht
              go_wp2_with (first
                | (refine wpList_load_row rfl 24 (.tmp 5) rfl gp rfl 24 pc (0, 0) _ P9.out Tryd.underlying24 rfl SZ6.out ?_)
                | (refine wpList_store_rowTo rfl 24 (.tmp 2) (.tmp 75) rfl rfl w.heap.size pc rfl rfl 24 zp RR.out SZ6.out NS.out N1.out ?_))
              exact bodyPost_ret (results_row_val (p := 2) (u := 3) rfl _ _ w.heap.size 24 pc (0, 0) _ rfl (setRow_heap _ _ _ _ 24 _ RR.out) Tryd.underlying24 rfl SZ6.out) rfl (G2.out _ (below_setRow BB.out (Nat.le_refl _) _))
            · have hne := str_no ht
              have G2 := Lib.hid (GW1.out ht)
              clear GO1 GW1
              go_wp2_with (first
                | (refine wpList_buildTo rfl 24 #[] rfl (some 74) rfl zp (by rw [← ZZ.out]; kernel_rfl) ?_)
                | (refine wpList_store_rowTo rfl 24 (.tmp 2) (.tmp 74) rfl rfl w.heap.size zp rfl rfl 24 zp RR.out SZP.out rfl ZP1.out ?_))
              exact bodyPost_ret (results_row_val (p := 2) (u := 3) rfl _ _ w.heap.size 24 zp (0, 0) _ rfl (setRow_heap _ _ _ _ 24 _ RR.out) Tryd.underlying24 rfl SZP.out) rfl (by rw [← ZZ.out]; exact G2.out _ (below_setRow BB.out (Nat.le_refl _) _))
          · rw [TR0.out hr]
            have G2 := Lib.hid (GW.out (fun h => hr h.1))
            clear GO GW TE1 TR1 TR0
            go_wp2_with (first
              | (refine wpList_buildTo rfl 24 #[] rfl (some 74) rfl zp (by rw [← ZZ.out]; kernel_rfl) ?_)
              | (refine wpList_store_rowTo rfl 24 (.tmp 2) (.tmp 74) rfl rfl w.heap.size zp rfl rfl 24 zp RR.out SZP.out rfl ZP1.out ?_))
            exact bodyPost_ret (results_row_val (p := 2) (u := 3) rfl _ _ w.heap.size 24 zp (0, 0) _ rfl (setRow_heap _ _ _ _ 24 _ RR.out) Tryd.underlying24 rfl SZP.out) rfl (by rw [← ZZ.out]; exact G2.out _ (below_setRow BB.out (Nat.le_refl _) _))
    · have Y8 := Lib.hid (Y6.out h2 h4)
      clear N4 Y4 Y6 F4 O4 FZ4
      go_wp2_with fail
      refine (CP8.out _).mono ?_
      rintro e w7 ⟨a8, n8, rfl, hr8, _, hb8⟩
      have R7 := Lib.hid (R6.out.below hb8 R6.out.lt)
      have P7 := Lib.hid (P6.out.below hb8 P6.out.lt)
      have B7 := Lib.hid (Below.step B6.out hb8)
      have CG := Lib.hid (rgroups_any (strsZ s0 58) a8 (strsZ s0 58).length n8 w7 hr8 (by omega) (fun t ht => by have := FZ8.out t ht; omega))
      clear CP8 FZ8 hr8 hb8 R6 P6 B6 c6
      generalize strsZ s0 58 = G at *
      go_wp2_with fail
      refine CG.out.mono ?_
      rintro e w8 ⟨A, hA, rfl, hsome, hb⟩
      have A8 := Lib.hid hA
      have a16 := hA.1
      have R8 := Lib.hid (R7.out.below hb R7.out.lt)
      have P8 := Lib.hid (P7.out.below hb P7.out.lt)
      have B8 := Lib.hid (Below.step B7.out hb)
      have HS := Lib.hid hsome
      clear CG R7 P7 B7 hsome hb hA
      have l8 := P8.out.lt
      have s9 := Blk.new w8 22 Z16
      have S9 := Lib.hid s9
      have K9 : Hid (Blk ((w8.alloc (.cells Z16 22)).setRow w8.heap.size (acells A).toArray) w8.heap.size 22 (acells A).toArray) := Lib.hid (setRow_heap _ _ _ _ _ _ s9)
      have b9 : Below w8.heap.size w8 ((w8.alloc (.cells Z16 22)).setRow w8.heap.size (acells A).toArray) := below_setRow (box_below w8 (.cells Z16 22)) (Nat.le_refl _) _
      have R9 := Lib.hid (R8.out.below b9 R8.out.lt)
      have P9 := Lib.hid (P8.out.below b9 P8.out.lt)
      have B9 := Lib.hid (Below.step B8.out b9)
      have SAZ : Hid ((Tryd.prog.info? 22).map (·.size) = some (acells A).toArray.size) := Lib.hid (by rw [Tryd.sizeA a16]; simp)
      have SZ9 : Hid (Z16.size = (acells A).toArray.size) := Lib.hid (by simp [Z16, acells_len a16])
      clear s9 b9 R8 P8 B8
      go_upto_region 15 with (first
        | (refine Great.wpList_allocTo rfl (some 9) rfl (.pointer (some ⟨w8.heap.size, 0, none⟩)) (.cells Z16 22) rfl ?_)
        | (refine wpList_store_rowTo rfl 22 (.tmp 9) (.tmp 54) rfl rfl w8.heap.size (acells A).toArray rfl rfl 22 Z16 S9.out SAZ.out SZ9.out (acells_one _) ?_))
      clear S9 SZ9
      generalize (w8.alloc (.cells Z16 22)).setRow w8.heap.size (acells A).toArray = w9 at *
      generalize w8.heap.size = g9 at *
      cases hgz : groupsZ G with
      | none =>
        have NO : Hid (parseZ s = none) := Lib.hid (by rw [Y8.out, hgz]; rfl)
        have RR := R9
        have BB := B9
        clear HS Y8 P9 K9 hgz
        simp only [Option.isSome_none]
        go_wp2_with (first
          | (refine wpList_buildTo rfl 24 #[] rfl (some 58) rfl zp (by rw [← ZZ.out]; kernel_rfl) ?_)
          | (refine wpList_store_rowTo rfl 24 (.tmp 2) (.tmp 58) rfl rfl w.heap.size zp rfl rfl 24 zp RR.out SZP.out rfl ZP1.out ?_))
        exact bodyPost_ret (results_row_val (p := 2) (u := 3) rfl _ _ w.heap.size 24 zp (0, 0) _ rfl (setRow_heap _ _ _ _ 24 _ RR.out) Tryd.underlying24 rfl SZP.out) rfl (by rw [← ZZ.out]; exact gives_none NO.out (below_setRow BB.out (Nat.le_refl _) _))
      | some C =>
        have YY : Hid (parseZ s = some (true, A, L)) := Lib.hid (by rw [Y8.out, hgz, HS.out C hgz]; rfl)
        clear HS Y8 hgz
        simp only [Option.isSome_some]
        have c1 := P9.out.v
        have f1 := Blk.free P9.out 0
        have p1 := PBlk.setV P9.out true
        have T1 := Lib.hid (p1.there zeroA_ok.1)
        have P2 := Lib.hid (PBlk.setWhole zeroA_ok.1 a16 p1)
        have R2 := Lib.hid (Blk.farAll (show w.heap.size ≠ gp by omega) (acells A) 1 _ (Blk.far R9.out (show w.heap.size ≠ gp by omega) 0 (.bool true)))
        have B2 := Lib.hid (below_setCells (Nat.le_of_lt RL) (acells A) 1 _ (Below.setCell B9.out (p := ⟨gp, 0, none⟩) (Nat.le_of_lt RL) (.bool true)))
        have K2 := Lib.hid (Blk.far K9.out (show g9 ≠ gp by omega) 0 (.bool true))
        have SM : Hid ((acells A).toArray.size = 16) := Lib.hid (by rw [List.size_toArray, acells_len a16])
        clear P9 R9 B9 K9 p1
        go_upto_region 19 with (first
          | (refine wpList_load_row rfl 22 (.tmp 9) rfl g9 rfl 22 (acells A).toArray (0, 0) (.array 16 5) K2.out Tryd.underlying22 rfl SAZ.out ?_)
          | (refine wpList_store_mid rfl 22 (.tmp 61) (.tmp 60) rfl gp 1 (acells A).toArray rfl rfl (by rw [SM.out]; exact T1.out) SAZ.out (acells_one _) ?_))
        clear c1 f1 T1 K2
        generalize (w9.setCell ⟨gp, 0, none⟩ (.bool true)).setCells gp 1 (acells A) = wA at *
        have P6 := P2
        have RR := R2
        have BB := B2
        have A6 := A8
        clear P2 R2 B2 A8
        have a16 := A6.out.1
        have SZ6 := Lib.hid (Tryd.sizeP (v := true) (L := L) a16)
        have CT := Lib.hid (fun W => rtext_any true A L W A6.out (by omega) (by omega))
        have NS := Lib.hid (ZPS.out true A L a16)
        have N1 := Lib.hid (pcells_one true A L)
        have TE1 : Hid (rightA true A L = true → textE true A L = textZ true A L) := Lib.hid (fun h => if_pos h)
        have TR1 : Hid (rightA true A L = true → textR true A L = 0) := Lib.hid (fun h => if_pos h)
        have TR0 : Hid (¬ rightA true A L = true → textR true A L = 1) := Lib.hid (fun h => if_neg h)
        have GW := Lib.hid (fun hn W hb => gives_wrong (s := s) (w := w) (w' := W) YY.out hn hb)
        have GO := Lib.hid (fun hr ht W hb => gives_one (s := s) (w := w) (w' := W) A6.out YY.out hr ht hb)
        have PC := Lib.hid (show Blk _ gp 24 (pcells true A L) from P6.out)
        clear YY P6 A6
        generalize pcells true A L = pc at *
        go_wp2_with (refine wpList_load_row rfl 24 (.tmp 5) rfl gp rfl 24 pc (0, 0) _ PC.out Tryd.underlying24 rfl SZ6.out ?_)
        refine (CT.out _).mono ?_
        rintro e w9 ⟨rfl, hb9⟩
        have R9 := Lib.hid (RR.out.below hb9 RR.out.lt)
        have P9 := Lib.hid (PC.out.below hb9 PC.out.lt)
        have B9 := Lib.hid (Below.step BB.out hb9)
        clear CT hb9 RR PC BB
        have RR := R9
        have BB := B9
        clear R9 B9
        by_cases hr : rightA true A L = true
        · rw [TE1.out hr, TR1.out hr]
          have GO1 := Lib.hid (GO.out hr)
          have GW1 := Lib.hid (fun (ht : ¬ strOfNums (textZ true A L) = s) => GW.out (fun h => ht h.2))
          clear GO GW TE1 TR1 TR0
          generalize strOfNums (textZ true A L) = tx at *
          by_cases ht : tx = s
          · have G2 := Lib.hid (GO1.out ht)
            clear GO1 GW1
            subst ht
            go_wp2_with (first
              | (refine wpList_load_row rfl 24 (.tmp 5) rfl gp rfl 24 pc (0, 0) _ P9.out Tryd.underlying24 rfl SZ6.out ?_)
              | (refine wpList_store_rowTo rfl 24 (.tmp 2) (.tmp 75) rfl rfl w.heap.size pc rfl rfl 24 zp RR.out SZ6.out NS.out N1.out ?_))
            exact bodyPost_ret (results_row_val (p := 2) (u := 3) rfl _ _ w.heap.size 24 pc (0, 0) _ rfl (setRow_heap _ _ _ _ 24 _ RR.out) Tryd.underlying24 rfl SZ6.out) rfl (G2.out _ (below_setRow BB.out (Nat.le_refl _) _))
          · have hne := str_no ht
            have G2 := Lib.hid (GW1.out ht)
            clear GO1 GW1
            go_wp2_with (first
              | (refine wpList_buildTo rfl 24 #[] rfl (some 74) rfl zp (by rw [← ZZ.out]; kernel_rfl) ?_)
              | (refine wpList_store_rowTo rfl 24 (.tmp 2) (.tmp 74) rfl rfl w.heap.size zp rfl rfl 24 zp RR.out SZP.out rfl ZP1.out ?_))
            exact bodyPost_ret (results_row_val (p := 2) (u := 3) rfl _ _ w.heap.size 24 zp (0, 0) _ rfl (setRow_heap _ _ _ _ 24 _ RR.out) Tryd.underlying24 rfl SZP.out) rfl (by rw [← ZZ.out]; exact G2.out _ (below_setRow BB.out (Nat.le_refl _) _))
        · rw [TR0.out hr]
          have G2 := Lib.hid (GW.out (fun h => hr h.1))
          clear GO GW TE1 TR1 TR0
          go_wp2_with (first
            | (refine wpList_buildTo rfl 24 #[] rfl (some 74) rfl zp (by rw [← ZZ.out]; kernel_rfl) ?_)
            | (refine wpList_store_rowTo rfl 24 (.tmp 2) (.tmp 74) rfl rfl w.heap.size zp rfl rfl 24 zp RR.out SZP.out rfl ZP1.out ?_))
          exact bodyPost_ret (results_row_val (p := 2) (u := 3) rfl _ _ w.heap.size 24 zp (0, 0) _ rfl (setRow_heap _ _ _ _ 24 _ RR.out) Tryd.underlying24 rfl SZP.out) rfl (by rw [← ZZ.out]; exact G2.out _ (below_setRow BB.out (Nat.le_refl _) _))
  · have NO := Lib.hid (N2.out h2)
    clear N2 N4 Y4 Y6
    have RR := R3
    have BB := B3
    go_wp2_with (first
      | (refine wpList_buildTo rfl 24 #[] rfl (some 18) rfl zp (by rw [← ZZ.out]; kernel_rfl) ?_)
      | (refine wpList_store_rowTo rfl 24 (.tmp 2) (.tmp 18) rfl rfl w.heap.size zp rfl rfl 24 zp R3.out SZP.out rfl (by rw [← ZZ.out]; exact zp_one) ?_))
    exact bodyPost_ret (results_row_val (p := 2) (u := 3) rfl _ _ w.heap.size 24 zp (0, 0) _ rfl (setRow_heap _ _ _ _ 24 _ R3.out) Tryd.underlying24 rfl SZP.out) rfl (by rw [← ZZ.out]; exact gives_none NO.out (below_setRow B3.out (Nat.le_refl _) _))

end Go.Proofs.YtpekpgmdjpcpiaaDoor

namespace Go.Proofs.YtpekpgmdjpcpiaaDoor
open Go.RowKit
set_option linter.unusedVariables false

/-- A text, cut at the first sep. -/
def cutB (s sep : ByteArray) : ByteArray × ByteArray × Bool := (⟨(Lib.cut s.data.toList sep.data.toList).1.toArray⟩, ⟨(Lib.cut s.data.toList sep.data.toList).2.1.toArray⟩, (Lib.cut s.data.toList sep.data.toList).2.2)
theorem cuts_any (s sep : ByteArray) (w : World) (hn : s.size ≤ 4000000) (hs : Std w) :
    Calls Tryd.prog 44 #[.string s, .string sep] w fun e w' => e = .returned (.tuple #[.string (cutB s sep).1, .string (cutB s sep).2.1, .bool (cutB s sep).2.2]) ∧ Below w.heap.size w w' := by
  obtain ⟨m, hm⟩ := hs.most
  refine (Tryd.strings_Cut s sep m w (by omega) hm).mono (fun e w' ⟨he, n, hw⟩ => ⟨he, ?_⟩)
  rw [hw]
  exact drewN_below w n
/-- The number that Atoi hands back. -/
def atoiV (s : ByteArray) : Int := match Lib.atoiAll s.data.toList with
  | .ok v => v
  | Lib.NumEnd.syntax => 0
  | .range => Lib.atoiSat s.data.toList
theorem atoi_ok {l : List UInt8} {v : Int} (h : Lib.atoiAll l = .ok v) : -9223372036854775808 ≤ v ∧ v ≤ 9223372036854775807 := by
  unfold Lib.atoiAll at h
  split at h
  · cases h
  · simp only at h
    split at h
    · cases h
    · cases h
    · split at h
      · cases h
      · split at h
        · cases h
        · injection h with h
          split at h <;> omega
theorem atoiV_range (s : ByteArray) : -9223372036854775808 ≤ atoiV s ∧ atoiV s ≤ 9223372036854775807 := by
  unfold atoiV
  split
  · rename_i h
    exact atoi_ok h
  · omega
  · unfold Lib.atoiSat
    split <;> omega
theorem atois_any (s : ByteArray) (w : World) (hn : s.size ≤ 4000000) (hs : Std w) : Calls Tryd.prog 45 #[.string s] w fun e w' => ∃ er, e = .returned (.tuple #[.int .i64 (atoiV s), er]) ∧ Below w.heap.size w w' := by
  cases h : Lib.atoiAll s.data.toList
  · rename_i v
    have e : atoiV s = v := by unfold atoiV; rw [h]
    rw [e]
    refine (Tryd.strconv_Atoi_ok s (by omega) v h w).mono (fun e w' ⟨he, hw⟩ => ⟨_, he, ?_⟩)
    rcases hw with rfl | ⟨t, rfl⟩
    · exact Below.refl _ _
    · exact Lib.bytesWorld_below w _ t
  · have e : atoiV s = 0 := by unfold atoiV; rw [h]
    rw [e]
    obtain ⟨ev, h1, h2⟩ := hs.syn
    exact (Tryd.strconv_Atoi_syntax s (by omega) h ev w h1 h2).mono (fun e w' ⟨N, he, _, _, hb⟩ => ⟨_, he, hb⟩)
  · have e : atoiV s = Lib.atoiSat s.data.toList := by unfold atoiV; rw [h]
    rw [e]
    obtain ⟨ev, h1, h2⟩ := hs.ran
    exact (Tryd.strconv_Atoi_range s (by omega) h ev w h1 h2).mono (fun e w' ⟨N, he, _, _, hb⟩ => ⟨_, he, hb⟩)

/-- Bytes, laid into an address from byte o on. -/
def copyAt (A G : List Int) (o : Nat) : List Int := A.take o ++ G ++ A.drop (o + G.length)
theorem copyAt_ok {A G : List Int} {o : Nat} (hA : Sixteen A) (hG : ∀ x ∈ G, 0 ≤ x ∧ x ≤ 255) (h : o + G.length ≤ 16) : Sixteen (copyAt A G o) := by
  have h16 := hA.1
  refine ⟨by unfold copyAt; simp; omega, fun x hx => ?_⟩
  rcases List.mem_append.1 hx with hx | hx
  · rcases List.mem_append.1 hx with hx | hx
    · exact hA.2 x (List.mem_of_mem_take hx)
    · exact hG x hx
  · exact hA.2 x (List.mem_of_mem_drop hx)
theorem splice_p {v : Bool} {A G : List Int} {L : Int} {o : Nat} (hA : A.length = 16) (h : o + G.length ≤ 16) : (splice (pcells v A L).toList (1 + o) (G.map (Value.int .u8))).toArray = pcells v (copyAt A G o) L := by
  unfold splice pcells copyAt
  congr 1
  rw [Nat.add_comm 1 o, show o + 1 + (G.map (Value.int .u8)).length = (o + G.length) + 1 by rw [List.length_map]; omega]
  show List.take (o + 1) (Value.bool v :: (acells A ++ [.int .i64 L])) ++ (G.map (Value.int .u8) ++ List.drop (o + G.length + 1) (Value.bool v :: (acells A ++ [.int .i64 L]))) = _
  rw [List.take_succ_cons, List.drop_succ_cons, List.take_append_of_le_length (by rw [acells_len hA]; omega), List.drop_append_of_le_length (by rw [acells_len hA]; omega)]
  unfold acells
  simp [List.map_append, List.map_take, List.map_drop]
theorem Tryd.sizeU8 : (Tryd.prog.info? 5).map (·.size) = some 1 := by kernel_rfl
theorem u8_ones (cs : List Int) : ∀ v ∈ cs.map (Value.int .u8), v.oneCell' = true := by
  intro v hv
  obtain ⟨_, _, rfl⟩ := List.mem_map.1 hv
  rfl
/-- Every block but g is as it was. -/
def But (g : Nat) (w w' : World) : Prop := ∀ k, k ≠ g → w'.heap[k]? = w.heap[k]?
theorem Blk.but {w w' : World} {g k : Nat} {t : TypeId} {cs : Array Value} (h : Blk w k t cs) (hb : But g w w') (hne : k ≠ g) : Blk w' k t cs := (hb k hne).trans h
/-- Bytes are copied into a prefix: one step of a region that draws its order. -/
theorem step_copyP {o : Oper} {a : Act} {w W0 : World} {K : Act → World → Prop} {Q : Exit → Act → World → Prop} (hgd : o.guard = none) (d s : Operand) (hop : o.op = .call { callee := .builtin .copy, args := #[d, s], argTypes := #[52, 52] })
    (g off : Nat) (sp : Option Addr) (n c : Nat) (v : Bool) (A G : List Int) (L : Int) (dp : Option Addr) (dLen dCap : Nat) (hdp : 0 < n → dp = some ⟨g, 1 + off, none⟩) (hd : a.eval d = .slice dp dLen dCap) (hs : a.eval s = .slice sp n c) (hdl : n ≤ dLen)
    (hp : PBlk w g v A L) (hA : A.length = 16) (hr : Row w sp n G) (ho : off + n ≤ 16) (hb : Below W0.heap.size W0 w) (hg : W0.heap.size ≤ g)
    (h : ∀ w', PBlk w' g v (copyAt A G off) L → But g w w' → Below W0.heap.size W0 w' → K (a.put o.dst (.int .i64 (n : Int))) w') : o.wp Tryd.prog a w K Q := by
  have hn := hr.1
  rcases Nat.eq_zero_or_pos n with h0 | h0
  · subst h0
    obtain rfl : G = [] := List.eq_nil_of_length_eq_zero hn
    have hrun := run_copy_none (P := Tryd.prog) w 52 52 o.type 5 dp sp dLen dCap 0 c Tryd.underlying52 Tryd.sizeU8 (by simp)
    unfold Oper.wp
    simp [execOp, hop, resolve, invoke, builtin, hd, hs, hrun, Result.andThen]
    exact h w (by unfold copyAt; simpa using hp) (fun _ _ => rfl) hb
  · obtain ⟨b, of, rfl, _, _⟩ := hr.2.2 h0
    obtain rfl := hdp h0
    have hrun := run_copy_row (P := Tryd.prog) w 52 52 o.type 5 g (1 + off) dLen dCap ⟨b, of, none⟩ n c (pcells v A L) 24 (G.map (Value.int .u8)) Tryd.underlying52 Tryd.sizeU8 hp (by rw [List.length_map, hn]; exact (Nat.min_eq_left (by omega)).symm) hr.cells (by rw [List.length_map, pcells_size hA]; omega) (u8_ones G)
    unfold Oper.wp
    simp [execOp, hop, resolve, invoke, builtin, hd, hs, hrun, Result.andThen]
    have e := setRow_heap w g (pcells v A L) ((pcells v A L).toList.take (1 + off) ++ ((G.map (Value.int .u8)) ++ (pcells v A L).toList.drop (1 + off + (G.map (Value.int .u8)).length))).toArray 24 (0, 0) hp
    have e2 := splice_p (v := v) (L := L) (G := G) (o := off) hA (by omega)
    unfold splice at e2
    rw [e2] at e
    have h3 := h (w.setRow g (pcells v (copyAt A G off) L)) e (fun k hk => setRow_other w g k _ hk) (below_setRow hb hg _)
    rw [List.length_map] at e2
    rw [← e2, ← hn] at h3
    exact h3
/-- The same, of a list of operations. -/
theorem list_copyP {ops : Array Oper} {rest : List Oper} {o : Oper} {a : Act} {w W0 : World} {Q : Exit → Act → World → Prop} (hgd : o.guard = none) (d s : Operand) (hop : o.op = .call { callee := .builtin .copy, args := #[d, s], argTypes := #[52, 52] })
    (g off : Nat) (sp : Option Addr) (n c : Nat) (v : Bool) (A G : List Int) (L : Int) (dp : Option Addr) (dLen dCap : Nat) (hdp : 0 < n → dp = some ⟨g, 1 + off, none⟩) (hd : a.eval d = .slice dp dLen dCap) (hs : a.eval s = .slice sp n c) (hdl : n ≤ dLen)
    (hp : PBlk w g v A L) (hA : A.length = 16) (hr : Row w sp n G) (ho : off + n ≤ 16) (hb : Below W0.heap.size W0 w) (hg : W0.heap.size ≤ g)
    (h : ∀ w', PBlk w' g v (copyAt A G off) L → But g w w' → Below W0.heap.size W0 w' → wpList Tryd.prog ops Q rest (a.put o.dst (.int .i64 (n : Int))) w') : wpList Tryd.prog ops Q (o :: rest) a w :=
  wpList_plain hgd fun K hK => step_copyP hgd d s hop g off sp n c v A G L dp dLen dCap hdp hd hs hdl hp hA hr ho hb hg (fun w' h1 h2 h3 => hK _ _ (h w' h1 h2 h3))

end Go.Proofs.YtpekpgmdjpcpiaaDoor
