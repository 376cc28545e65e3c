/-
  What the reference's sign, worth and Encode answer, for stage 2 (radix).
-/
import Derived.Test.YtmmcmiljnmbfcaaApp
import Derived.Test.YtmmcmiljnmbfcaaDec
namespace Go.Proofs.Ytmmcmiljnmbfcaa
open Go.RowKit

/-- The text of all letters. -/
def signs : ByteArray := ⟨#[65, 66, 67, 68, 69, 70, 71, 72, 73, 74, 75, 76, 77, 78, 79, 80, 81, 82, 83, 84, 85, 86, 87, 88, 89, 90, 97, 98, 99, 100, 101, 102, 103, 104, 105, 106, 107, 108, 109, 110, 111, 112, 113, 114, 115, 116, 117, 118, 119, 120, 121, 122, 48, 49, 50, 51, 52, 53, 54, 55, 56, 57, 43, 47]⟩
theorem signs_at : ∀ v : Fin 64, nth signs v.val = (sg v.val : Int) := by decide
theorem sign_run (v : Int) (h0 : 0 ≤ v) (h1 : v < 64) (W : World) : (Instr.index 9 (.string signs) (.int .i64 v)).run Try.prog W = .ok (.int .u8 (sgZ v)) W := by
  have h := str_at signs v.toNat (by show v.toNat < 64; omega) v (by omega) W
  rw [h, signs_at ⟨v.toNat, by omega⟩]
  rfl

theorem sign_any (v : Int) (w : World) (h0 : 0 ≤ v) (h1 : v < 64) : Calls Try.prog 16 #[.int .i64 v] w fun e w' => e = .returned (.int .u8 (sgZ v)) ∧ w' = w := by
  have hr : ∀ W : World, (Instr.index 9 (.string ⟨#[65, 66, 67, 68, 69, 70, 71, 72, 73, 74, 75, 76, 77, 78, 79, 80, 81, 82, 83, 84, 85, 86, 87, 88, 89, 90, 97, 98, 99, 100, 101, 102, 103, 104, 105, 106, 107, 108, 109, 110, 111, 112, 113, 114, 115, 116, 117, 118, 119, 120, 121, 122, 48, 49, 50, 51, 52, 53, 54, 55, 56, 57, 43, 47]⟩) (.int .i64 v)).run Try.prog W = .ok (.int .u8 (sgZ v)) W := sign_run v h0 h1
  go_enter Try.func16, Try.ntmps16
  go_wp2
  go_ret
  exact ⟨rfl, rfl⟩

/-- A letter's worth; 0, where it is none. -/
def wth (c : Int) : Int := if vlZ c < 64 then vlZ c else 0
theorem wth_range (c : Int) : 0 ≤ wth c ∧ wth c < 64 := by
  have := vlZ_range c
  unfold wth
  split <;> omega
theorem wth_is {c : Int} {n : Nat} (hn : n < 64) (h : sgZ (n : Int) = c) : wth c = n := by
  have e : vlZ c = n := by
    rw [← h]
    unfold vlZ sgZ
    rw [Int.toNat_natCast, Int.toNat_natCast, vl_sg _ hn]
  unfold wth
  rw [e, if_pos (by omega)]
theorem wth_none {c : Int} (h0 : 0 ≤ c) (h : ∀ m : Nat, m < 64 → sgZ (m : Int) ≠ c) : wth c = 0 := by
  unfold wth
  rw [if_neg]
  intro hv
  refine h (vlZ c).toNat (by have := vlZ_range c; omega) ?_
  unfold vlZ sgZ at *
  rw [Int.toNat_natCast, Int.toNat_natCast, sg_vl _ (by omega)]
  omega

set_option maxHeartbeats 400000 in
theorem worth_any (c : Int) (w : World) (h0 : 0 ≤ c) : Calls Try.prog 13 #[.int .u8 c] w fun e w' => e = .returned (.int .i64 (wth c)) ∧ w' = w := by
  go_enter Try.func13, Try.ntmps13
  go_wp2
  go_loop [3] (fun i => ∃ n : Nat, n ≤ 64 ∧ i = .int .i64 (n : Int) ∧ ∀ m : Nat, m < n → sgZ (m : Int) ≠ c) (fun i => 64 - (intOf i).toNat)
  case atStart => exact ⟨0, by omega, rfl, fun m hm => by omega⟩
  case round =>
    obtain ⟨n, hn, rfl, hall⟩ := hrel
    have HA := Lib.hid hall
    clear hall
    by_cases hlt : n < 64
    · by_cases he : sgZ (n : Int) = c
      · have HW := Lib.hid (wth_is hlt he)
        have te : (sgZ (n : Int) == c) = true := by simpa using he
        clear he
        go_wp2_with fail
        refine (sign_any (n : Int) _ (by omega) (by omega)).mono ?_
        rintro e w1 ⟨rfl, rfl⟩
        go_wp2
        go_ret
        exact ⟨same_int HW.out.symm, rfl⟩
      · have te : (sgZ (n : Int) == c) = false := by simpa using he
        have HN : Hid (∀ m : Nat, m < n + 1 → sgZ (m : Int) ≠ c) := fun m hm => by
          rcases Nat.lt_or_ge m n with h | h
          · exact HA.out m h
          · obtain rfl : m = n := by omega
            exact he
        clear he HA
        go_wp2_with fail
        refine (sign_any (n : Int) _ (by omega) (by omega)).mono ?_
        rintro e w1 ⟨rfl, rfl⟩
        go_wp2
        go_round
        case rel => exact ⟨n + 1, by omega, by go_num, HN.out⟩
        case measure => simp [intOf]; omega
    · obtain rfl : n = 64 := by omega
      have HW := Lib.hid (wth_none h0 HA.out)
      clear HA
      go_wp2
      go_ret
      exact ⟨same_int HW.out.symm, rfl⟩

/-- A row of the call's own: where it lies. -/
theorem Out.form {W0 wr : World} {V : Value} {L : List Int} (h : Out W0 wr V L) (h0 : 0 < L.length) : ∃ g cap, V = .slice (some ⟨g, 0, none⟩) L.length cap ∧ W0.heap.size ≤ g := by
  rcases h.1.2 with ⟨_, e⟩ | ⟨g, cap, cur, e, hb, _⟩
  · omega
  · exact ⟨g, cap, e, hb⟩
theorem Out.cell {W0 wr : World} {g cap n : Nat} {L : List Int} (h : Out W0 wr (.slice (some ⟨g, 0, none⟩) n cap) L) (j : Nat) (hj : j < L.length) : wr.cell? ⟨g, j, none⟩ = some (.int .u8 (L[j]?.getD 0)) ∧ wr.frozen? ⟨g, j, none⟩ = false := by
  have hn : n = L.length := by
    rcases h.1.2 with ⟨e, _⟩ | ⟨g, cap, cur, e, hb, _⟩
    · cases e
    · injection e
  subst hn
  refine ⟨?_, h.1.frozenAt j⟩
  rw [h.1.cellAt j (by omega), List.getElem?_map, List.getElem?_eq_getElem hj]
  rfl
theorem Out.set {W0 wr : World} {g cap n : Nat} {L : List Int} (h : Out W0 wr (.slice (some ⟨g, 0, none⟩) n cap) L) (hg : W0.heap.size ≤ g) (j : Nat) (x : Int) : Out W0 (wr.setCell ⟨g, j, none⟩ (.int .u8 x)) (.slice (some ⟨g, 0, none⟩) n cap) (L.set j x) := by
  have hn : n = L.length := by
    rcases h.1.2 with ⟨e, _⟩ | ⟨g, cap, cur, e, hb, _⟩
    · cases e
    · injection e
  subst hn
  refine ⟨?_, h.2.setCell hg _⟩
  have := (h.1.stored j (.int .u8 x)).1
  rw [List.length_set, List.map_set]
  exact this

theorem set_last2 (L : List Int) (a b c d x : Int) : (L ++ [a, b, c, d]).set (L.length + 2) x = L ++ [a, b, x, d] := by
  rw [List.set_append_right _ _ (by omega)]
  simp
theorem set_last1 (L : List Int) (a b c d x : Int) : (L ++ [a, b, c, d]).set (L.length + 3) x = L ++ [a, b, c, x] := by
  rw [List.set_append_right _ _ (by omega)]
  simp

/-- A new row of four bytes. -/
theorem row_four (w : World) (a b c d : Int) (ha : 0 ≤ a ∧ a ≤ 255) (hb : 0 ≤ b ∧ b ≤ 255) (hc : 0 ≤ c ∧ c ≤ 255) (hd : 0 ≤ d ∧ d ≤ 255) : Row (w.alloc (.cells #[.int .u8 a, .int .u8 b, .int .u8 c, .int .u8 d] 5)) (some ⟨w.heap.size, 0, none⟩) 4 [a, b, c, d] := by
  refine ⟨rfl, by simp; exact ⟨ha, hb, hc, hd⟩, fun _ => ⟨w.heap.size, 0, rfl, by simp, fun i hi => ?_⟩⟩
  have e := heap_alloc_new w (.cells #[.int .u8 a, .int .u8 b, .int .u8 c, .int .u8 d] 5)
  simp only [World.cell?, e]
  rcases i with _ | _ | _ | _ | i
  · rfl
  · rfl
  · rfl
  · rfl
  · omega

theorem sgZ_rng {v : Int} (h0 : 0 ≤ v) (h1 : v < 64) : 0 ≤ sgZ v ∧ sgZ v ≤ 255 := by
  rcases sgZ_byte v with h | h
  · exact h
  · omega

theorem enc3_1 (x : Int) : enc3 [x] = [sgZ (x * 65536 / 262144 % 64), sgZ (x * 65536 / 4096 % 64), 61, 61] := by
  simp [enc3, grp, bitsN]
theorem enc3_2 (x y : Int) : enc3 [x, y] = [sgZ ((x * 65536 + y * 256) / 262144 % 64), sgZ ((x * 65536 + y * 256) / 4096 % 64), sgZ ((x * 65536 + y * 256) / 64 % 64), 61] := by
  simp [enc3, grp, bitsN]
theorem enc3_3 (x y z : Int) : enc3 [x, y, z] = [sgZ ((x * 65536 + y * 256 + z) / 262144 % 64), sgZ ((x * 65536 + y * 256 + z) / 4096 % 64), sgZ ((x * 65536 + y * 256 + z) / 64 % 64), sgZ ((x * 65536 + y * 256 + z) % 64)] := by
  simp [enc3, grp, bitsN]

theorem grpAt_one {zs : List Int} {k : Nat} (h : 3 * k < zs.length) (h1 : zs.length ≤ 3 * k + 1) : grpAt zs k = [zs[3 * k]?.getD 0] := by
  rw [grpAt, List.drop_eq_getElem_cons h, List.drop_of_length_le (by omega), List.getElem?_eq_getElem h]
  rfl
theorem grpAt_two {zs : List Int} {k : Nat} (h : 3 * k + 1 < zs.length) (h1 : zs.length ≤ 3 * k + 2) : grpAt zs k = [zs[3 * k]?.getD 0, zs[3 * k + 1]?.getD 0] := by
  rw [grpAt, List.drop_eq_getElem_cons (by omega), List.drop_eq_getElem_cons (by omega), List.drop_of_length_le (by omega), List.getElem?_eq_getElem (by omega), List.getElem?_eq_getElem (by omega)]
  rfl
theorem grpAt_three {zs : List Int} {k : Nat} (h : 3 * k + 2 < zs.length) : grpAt zs k = [zs[3 * k]?.getD 0, zs[3 * k + 1]?.getD 0, zs[3 * k + 2]?.getD 0] := by
  rw [grpAt, List.drop_eq_getElem_cons (by omega), List.drop_eq_getElem_cons (by omega), List.drop_eq_getElem_cons (by omega), List.getElem?_eq_getElem (by omega), List.getElem?_eq_getElem (by omega), List.getElem?_eq_getElem (by omega)]
  rfl

set_option maxRecDepth 100000 in
set_option maxHeartbeats 2000000 in
theorem renc_any (a : Option Addr) (n ca : Nat) (zs : List Int) (w : World) (hx : Row w a n zs) (hn : n ≤ 10000) :
    Calls Try.prog 10 #[.slice a n ca] w fun e w' => e = .returned (.string (strOfNums (encZ zs))) ∧ Below w.heap.size w w' := by
  have HX := Lib.hid hx
  clear hx
  go_enter Try.func10, Try.ntmps10
  go_wp2
  go_loopw [3, 4] (fun V i wr => ∃ k : Nat, 3 * k ≤ n + 2 ∧ i = .int .i64 (3 * (k : Int)) ∧ Out w wr V (encZ (zs.take (3 * k)))) (fun _ i _ => n + 3 - (intOf i).toNat)
  case atStart => exact ⟨0, by omega, rfl, ⟨World.ownsRow_nil _ _ _ _, Below.refl _ _⟩⟩
  case round =>
    obtain ⟨k, hk, rfl, hout⟩ := hrel
    have HO := Lib.hid hout
    clear hout
    by_cases hlt : 3 * k < n
    · have ST := Lib.hid (encZ_take (zs := zs) (k := k) (by rw [HX.out.1]; exact hlt))
      have hlen := Lib.hid (encZ_length _ (zs.take (3 * k)) (Nat.le_refl _))
      have hL : (encZ (zs.take (3 * k))).length ≤ 40000 := by rw [hlen.out, List.length_take]; omega
      generalize encZ (zs.take (3 * k)) = L at HO ST hL
      clear hlen
      obtain ⟨b1, o1, rfl, hb1, hcell⟩ := (HX.out.below HO.out.2).2.2 (by omega)
      have b0 := HX.out.byte (3 * k)
      have b1 := HX.out.byte (3 * k + 1)
      have b2 := HX.out.byte (3 * k + 2)
      have c0 := hcell (3 * k) hlt
      by_cases h1 : 3 * k + 1 < n
      · have c1 := hcell (3 * k + 1) h1
        by_cases h2 : 3 * k + 2 < n
        · have c2 := hcell (3 * k + 2) h2
          have G : Hid (enc3 (grpAt zs k) = enc3 [zs[3 * k]?.getD 0, zs[3 * k + 1]?.getD 0, zs[3 * k + 2]?.getD 0]) := by
            rw [grpAt_three (by rw [HX.out.1]; exact h2)]; exact rfl
          rw [enc3_3] at G
          generalize zs[3 * k]?.getD 0 = x at b0 c0 G
          generalize zs[3 * k + 1]?.getD 0 = y at b1 c1 G
          generalize zs[3 * k + 2]?.getD 0 = z at b2 c2 G
          clear hcell
          rw [show (x * 65536 + y * 256 + z) / 262144 % 64 = (x * 65536 + y * 256 + z) / 262144 by omega] at G
          have t1 : decide (3 * (k : Int) + 1 < (n : Int)) = true := by simp; omega
          have t2 : decide (3 * (k : Int) + 2 < (n : Int)) = true := by simp; omega
          go_wp2_with fail
          refine (sign_any ((x * 65536 + y * 256 + z) / 262144) _ (by omega) (by omega)).mono ?_
          rintro e w1 ⟨rfl, rfl⟩
          go_wp2_with fail
          refine (sign_any ((x * 65536 + y * 256 + z) / 4096 % 64) _ (by omega) (by omega)).mono ?_
          rintro e w1 ⟨rfl, rfl⟩
          have RW := Lib.hid (row_four w1 _ _ 61 61 (sgZ_rng (v := (x * 65536 + y * 256 + z) / 262144) (by omega) (by omega)) (sgZ_rng (v := (x * 65536 + y * 256 + z) / 4096 % 64) (by omega) (by omega)) (by omega) (by omega))
          generalize sgZ ((x * 65536 + y * 256 + z) / 262144) = s0 at RW G ⊢
          generalize sgZ ((x * 65536 + y * 256 + z) / 4096 % 64) = s1 at RW G ⊢
          go_wp2_with (at_builtin; refine out_append (W0 := w) (L := L) (zs := [s0, s1, 61, 61]) rfl _ _ rfl rfl (HO.out.alloc _) rfl RW.out (fun e => by cases e) (by omega) ?_; intro V2 w2 ho2; have HO2 := Lib.hid ho2; clear ho2; obtain ⟨g, cap, hV, hg⟩ := HO2.out.form (by simp); rw [List.length_append] at hV; subst hV)
          have C2 := HO2.out.cell (L.length + 2) (by simp)
          refine (sign_any ((x * 65536 + y * 256 + z) / 64 % 64) _ (by omega) (by omega)).mono ?_
          rintro e w3 ⟨rfl, rfl⟩
          have HO3 := Lib.hid (HO2.out.set hg (L.length + 2) (sgZ ((x * 65536 + y * 256 + z) / 64 % 64)))
          rw [set_last2] at HO3
          clear HO2
          generalize sgZ ((x * 65536 + y * 256 + z) / 64 % 64) = s2 at HO3 G ⊢
          go_wp2_with fail
          refine (sign_any ((x * 65536 + y * 256 + z) % 64) _ (by omega) (by omega)).mono ?_
          rintro e w4 ⟨rfl, hw4⟩
          subst hw4
          have C3 := HO3.out.cell (L.length + 3) (by simp)
          have HO4 := Lib.hid (HO3.out.set hg (L.length + 3) (sgZ ((x * 65536 + y * 256 + z) % 64)))
          rw [set_last1] at HO4
          clear HO3
          generalize sgZ ((x * 65536 + y * 256 + z) % 64) = s3 at HO4 G ⊢
          go_wp2
          go_roundw
          case rel => exact ⟨k + 1, by omega, by go_num, by rw [ST.out, G.out]; exact HO4.out⟩
          case measure => simp [intOf]; omega
        · have G : Hid (enc3 (grpAt zs k) = enc3 [zs[3 * k]?.getD 0, zs[3 * k + 1]?.getD 0]) := by
            rw [grpAt_two (by rw [HX.out.1]; exact h1) (by rw [HX.out.1]; omega)]; exact rfl
          rw [enc3_2] at G
          generalize zs[3 * k]?.getD 0 = x at b0 c0 G
          generalize zs[3 * k + 1]?.getD 0 = y at b1 c1 G
          clear hcell b2
          rw [show (x * 65536 + y * 256) / 262144 % 64 = (x * 65536 + y * 256) / 262144 by omega] at G
          have t1 : decide (3 * (k : Int) + 1 < (n : Int)) = true := by simp; omega
          have t2 : decide (3 * (k : Int) + 2 < (n : Int)) = false := by simp; omega
          go_wp2_with fail
          refine (sign_any ((x * 65536 + y * 256) / 262144) _ (by omega) (by omega)).mono ?_
          rintro e w1 ⟨rfl, rfl⟩
          go_wp2_with fail
          refine (sign_any ((x * 65536 + y * 256) / 4096 % 64) _ (by omega) (by omega)).mono ?_
          rintro e w1 ⟨rfl, rfl⟩
          have RW := Lib.hid (row_four w1 _ _ 61 61 (sgZ_rng (v := (x * 65536 + y * 256) / 262144) (by omega) (by omega)) (sgZ_rng (v := (x * 65536 + y * 256) / 4096 % 64) (by omega) (by omega)) (by omega) (by omega))
          generalize sgZ ((x * 65536 + y * 256) / 262144) = s0 at RW G ⊢
          generalize sgZ ((x * 65536 + y * 256) / 4096 % 64) = s1 at RW G ⊢
          go_wp2_with (at_builtin; refine out_append (W0 := w) (L := L) (zs := [s0, s1, 61, 61]) rfl _ _ rfl rfl (HO.out.alloc _) rfl RW.out (fun e => by cases e) (by omega) ?_; intro V2 w2 ho2; have HO2 := Lib.hid ho2; clear ho2; obtain ⟨g, cap, hV, hg⟩ := HO2.out.form (by simp); rw [List.length_append] at hV; subst hV)
          have C2 := HO2.out.cell (L.length + 2) (by simp)
          refine (sign_any ((x * 65536 + y * 256) / 64 % 64) _ (by omega) (by omega)).mono ?_
          rintro e w3 ⟨rfl, rfl⟩
          have HO3 := Lib.hid (HO2.out.set hg (L.length + 2) (sgZ ((x * 65536 + y * 256) / 64 % 64)))
          rw [set_last2] at HO3
          clear HO2
          generalize sgZ ((x * 65536 + y * 256) / 64 % 64) = s2 at HO3 G ⊢
          go_wp2
          go_roundw
          case rel => exact ⟨k + 1, by omega, by go_num, by rw [ST.out, G.out]; exact HO3.out⟩
          case measure => simp [intOf]; omega
      · have G : Hid (enc3 (grpAt zs k) = enc3 [zs[3 * k]?.getD 0]) := by
          rw [grpAt_one (by rw [HX.out.1]; exact hlt) (by rw [HX.out.1]; omega)]; exact rfl
        rw [enc3_1] at G
        generalize zs[3 * k]?.getD 0 = x at b0 c0 G
        clear hcell b1 b2
        rw [show (x * 65536) / 262144 % 64 = (x * 65536) / 262144 by omega] at G
        have t1 : decide (3 * (k : Int) + 1 < (n : Int)) = false := by simp; omega
        have t2 : decide (3 * (k : Int) + 2 < (n : Int)) = false := by simp; omega
        go_wp2_with fail
        refine (sign_any ((x * 65536) / 262144) _ (by omega) (by omega)).mono ?_
        rintro e w1 ⟨rfl, rfl⟩
        go_wp2_with fail
        refine (sign_any ((x * 65536) / 4096 % 64) _ (by omega) (by omega)).mono ?_
        rintro e w1 ⟨rfl, rfl⟩
        have RW := Lib.hid (row_four w1 _ _ 61 61 (sgZ_rng (v := (x * 65536) / 262144) (by omega) (by omega)) (sgZ_rng (v := (x * 65536) / 4096 % 64) (by omega) (by omega)) (by omega) (by omega))
        generalize sgZ ((x * 65536) / 262144) = s0 at RW G ⊢
        generalize sgZ ((x * 65536) / 4096 % 64) = s1 at RW G ⊢
        go_wp2_with (at_builtin; refine out_append (W0 := w) (L := L) (zs := [s0, s1, 61, 61]) rfl _ _ rfl rfl (HO.out.alloc _) rfl RW.out (fun e => by cases e) (by omega) ?_; intro V2 w2 ho2; have HO2 := Lib.hid ho2; clear ho2; obtain ⟨g, cap, hV, hg⟩ := HO2.out.form (by simp); rw [List.length_append] at hV; subst hV)
        go_roundw
        case rel => exact ⟨k + 1, by omega, by go_num, by rw [ST.out, G.out]; exact HO2.out⟩
        case measure => simp [intOf]; omega
    · have hall : zs.take (3 * k) = zs := List.take_of_length_le (by rw [HX.out.1]; omega)
      rw [hall] at HO
      obtain ⟨A, C, rfl, hrow⟩ := HO.out.row (encZ_byte _ zs (Nat.le_refl _))
      have hconv := hrow.conv (cap := C) (P := Try.prog) 22 9 5 Try.underlying22 Try.underlying5 Try.underlying9
      have HB := Lib.hid HO.out.2
      clear hrow HO hall
      go_wp2
      go_ret
      exact ⟨rfl, HB.out⟩

end Go.Proofs.Ytmmcmiljnmbfcaa
