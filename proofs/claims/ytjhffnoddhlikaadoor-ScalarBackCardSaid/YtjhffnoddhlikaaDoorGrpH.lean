/-
  Merged texts (stage 5): Pk9, Pk10, Pk11.
-/
import Derived.Test.YtjhffnoddhlikaaDoorGrpG
namespace Go.Proofs.YtjhffnoddhlikaaDoor
open Go.RowKit
set_option linter.unusedVariables false

set_option maxHeartbeats 1000000 in
theorem bool_any (b : Bool) (w : World) : Calls Tryd.prog 31 #[.bool b] w (GivesNode (boolT b) w) := by
  cases b
  · obtain ⟨h1, h2, h3⟩ := byte_at w 0 1 (by omega)
    have H1 := Lib.hid h1
    have H2 := Lib.hid h2
    have H3 := Lib.hid h3
    clear h1 h2 h3
    go_enter Tryd.func31, Tryd.ntmps31
    go_wp2_with fail
    exact gives_at (z := 1) (zs := [0]) (c := 1) rfl rfl H1.out H2.out H3.out (fun _ => ⟨_, _, rfl, by omega⟩) (fun e => by cases e) rfl (by simp)
  · obtain ⟨h1, h2, h3⟩ := byte_at w 255 1 (by omega)
    have H1 := Lib.hid h1
    have H2 := Lib.hid h2
    have H3 := Lib.hid h3
    clear h1 h2 h3
    go_enter Tryd.func31, Tryd.ntmps31
    go_wp2_with fail
    exact gives_at (z := 1) (zs := [255]) (c := 1) rfl rfl H1.out H2.out H3.out (fun _ => ⟨_, _, rfl, by omega⟩) (fun e => by cases e) rfl (by simp)

set_option maxHeartbeats 1000000 in
theorem true1_any (b : Bool) (w : World) : Calls Tryd.prog 61 #[.bool b] w (GivesNodeE (boolT b, 0) w) := by
  have S0 := Lib.hid (RB.start w)
  go_enter Tryd.func61, Tryd.ntmps61
  go_wp2_with fail
  refine (bool_any b _).mono ?_
  rintro e w3 ⟨A, n3, c3, K, m3, d3, rfl, hin, hb3⟩
  have S3 := Lib.hid (S0.out.go hb3)
  have IN := Lib.hid hin
  have W2 := Lib.hid (S0.out.box.lt)
  obtain ⟨p0, p1, p2, f0, f1, f2⟩ := S3.out.box.six
  clear hin hb3
  go_wp2_with fail
  exact gives_copye (x := (boolT b, 0)) rfl rfl rfl rfl S3.out IN.out W2.out

/-- True's answer, told by the body. -/
theorem true_is (t : T) (b : Bool) (hb : b = decide (t.body = [255])) : trueZ t = if okE (boolT b, 0) t = true then (b, 0) else (false, 2) := by
  have hne : ∀ c : Bool, boolT c = t → t.body = [if c then 255 else 0] := fun c e => by rw [← e]; rfl
  have key : ∀ c : Bool, okE (boolT c, 0) t = true ↔ t = boolT c := fun c => (ok_iff _ _).trans ⟨fun h => h.2.symm, fun h => ⟨rfl, h.symm⟩⟩
  unfold trueZ
  cases b
  · have h : ¬ t.body = [255] := of_decide_eq_false hb.symm
    have h1 : ¬ t = boolT true := fun e => h (hne true e.symm)
    rw [if_neg (fun k => h1 ((same_iff _ _).1 k))]
    by_cases h2 : t = boolT false
    · rw [if_pos ((same_iff _ _).2 h2), if_pos ((key false).2 h2)]
    · rw [if_neg (fun k => h2 ((same_iff _ _).1 k)), if_neg (fun k => h2 ((key false).1 k))]
  · have h : t.body = [255] := of_decide_eq_true hb.symm
    have h1 : ¬ t = boolT false := fun e => by
      have := hne false e.symm
      rw [h] at this
      simp at this
    by_cases h2 : t = boolT true
    · rw [if_pos ((same_iff _ _).2 h2), if_pos ((key true).2 h2)]
    · rw [if_neg (fun k => h2 ((same_iff _ _).1 k)), if_neg (fun k => h1 ((same_iff _ _).1 k)), if_neg (fun k => h2 ((key true).1 k))]

set_option maxHeartbeats 2000000 in
set_option maxRecDepth 100000 in
theorem true_any (t : T) (v : Value) (w : World) (hin : t.In w v) : Calls Tryd.prog 29 #[v] w (GivesTruth (trueZ t) w) := by
  obtain ⟨A, n, c, K, m, d, rfl, hw, hr, hn, hc, hm, hm', hks⟩ := hin.open
  have B2 := Lib.hid (Box.start hin)
  have HL := Lib.hid hr.1
  have R2 := Lib.hid (hr.below B2.out.below)
  obtain ⟨g0, g1, g2⟩ := B2.out.cells
  clear hks hc hin hm hm' hw hn hr
  go_enter Tryd.func29, Tryd.ntmps29
  generalize hw2 : w.alloc (.cells #[.int .i64 t.tag, .slice A n c, .slice K m d] 26) = w2 at *
  have fin : ∀ b : Bool, b = decide (t.body = [255]) → Hid (∀ W e w', Below w2.heap.size w2 W → GivesExact (okE (boolT b, 0) t) (.bool b) (.bool false) W e w' → (e = .returned (.tuple #[.bool b, .int .i64 0]) ∧ GivesTruth (trueZ t) w (.returned (.tuple #[.bool b, .int .i64 0])) w') ∨ (e = .returned (.tuple #[.bool false, .int .i64 2]) ∧ GivesTruth (trueZ t) w (.returned (.tuple #[.bool false, .int .i64 2])) w')) := by
    intro b hb W e w' hW h
    have tz := true_is t b hb
    rcases h.ways with ⟨hok, rfl, hb'⟩ | ⟨hok, rfl, hb'⟩
    · rw [if_pos hok] at tz
      exact .inl ⟨rfl, GivesTruth.of tz (Below.step (Below.step B2.out.below hW) hb')⟩
    · rw [if_neg (by rw [hok]; simp)] at tz
      exact .inr ⟨rfl, GivesTruth.of tz (Below.step (Below.step B2.out.below hW) hb')⟩
  by_cases h1 : n = 1
  · subst h1
    obtain ⟨b, off, rfl, hbl, hcell⟩ := R2.out.2.2 (by omega)
    have c0 := hcell 0 (by omega)
    rw [Nat.add_zero] at c0
    have hb1 : Hid (t.body = [t.body[(0 : Nat)]?.getD 0]) := by
      have h := HL.out
      match hq : t.body, h with
      | [x], _ => exact Lib.hid rfl
    have z0 := R2.out.byte 0
    clear hcell
    by_cases hx : t.body[(0 : Nat)]?.getD 0 = 255
    · have F := fin true (decide_eq_true (by rw [hb1.out, hx])).symm
      have CX := Lib.hid (exact_bool t _ w2 (boolT true, 0) true rfl B2.out.has (fun W hW => (true1_any true W).mono fun e w' h => h.has))
      rw [hx] at c0
      clear hb1 fin hx z0
      go_wp2_with fail
      refine CX.out.mono ?_
      intro e w4 h4
      rcases F.out _ _ _ (Below.refl _ _) h4 with ⟨rfl, h5⟩ | ⟨rfl, h5⟩
      · have H5 := Lib.hid h5
        clear h4 h5 F CX
        go_wp2_with fail
        go_ret2
        exact H5.out
      · have H5 := Lib.hid h5
        clear h4 h5 F CX
        go_wp2_with fail
        go_ret2
        exact H5.out
    · have F := fin false (decide_eq_false (by rw [hb1.out]; simpa using hx)).symm
      have CX := Lib.hid (exact_bool t _ w2 (boolT false, 0) false rfl B2.out.has (fun W hW => (true1_any false W).mono fun e w' h => h.has))
      have t0 : (t.body[(0 : Nat)]?.getD 0 == 255) = false := by simpa using hx
      generalize t.body[(0 : Nat)]?.getD 0 = x at c0 t0 z0
      clear hb1 fin hx
      go_wp2_with fail
      refine CX.out.mono ?_
      intro e w4 h4
      rcases F.out _ _ _ (Below.refl _ _) h4 with ⟨rfl, h5⟩ | ⟨rfl, h5⟩
      · have H5 := Lib.hid h5
        clear h4 h5 F CX
        go_wp2_with fail
        go_ret2
        exact H5.out
      · have H5 := Lib.hid h5
        clear h4 h5 F CX
        go_wp2_with fail
        go_ret2
        exact H5.out
  · have F := fin false (decide_eq_false (fun e => h1 (by rw [← HL.out, e]; rfl))).symm
    have CX := Lib.hid (exact_bool t _ w2 (boolT false, 0) false rfl B2.out.has (fun W hW => (true1_any false W).mono fun e w' h => h.has))
    have t0 : ((n : Int) == 1) = false := by simp; omega
    clear fin h1
    go_wp2_with fail
    refine CX.out.mono ?_
    intro e w4 h4
    rcases F.out _ _ _ (Below.refl _ _) h4 with ⟨rfl, h5⟩ | ⟨rfl, h5⟩
    · have H5 := Lib.hid h5
      clear h4 h5 F CX
      go_wp2_with fail
      go_ret2
      exact H5.out
    · have H5 := Lib.hid h5
      clear h4 h5 F CX
      go_wp2_with fail
      go_ret2
      exact H5.out

end Go.Proofs.YtjhffnoddhlikaaDoor

namespace Go.Proofs.YtjhffnoddhlikaaDoor
open Go.RowKit
set_option linter.unusedVariables false

set_option maxHeartbeats 1000000 in
theorem bob_any (many : Int) (w : World) (h0 : 0 ≤ many) (h1 : many ≤ 9223372036854775807) : Calls Tryd.prog 58 #[.int .i64 many] w fun e w' => e = .returned (.int .i64 ((many + 7) / 8)) ∧ w' = w := by
  go_enter Tryd.func58, Tryd.ntmps58
  by_cases h : many % 8 = 0
  · have e1 : many / 8 = (many + 7) / 8 := by omega
    have e1 := Lib.hid e1
    have t0 : (many % 8 == 0) = true := by simpa using h
    have tm : many.tmod 8 = many % 8 := Int.tmod_eq_emod_of_nonneg h0
    have td : many.tdiv 8 = many / 8 := Int.tdiv_eq_ediv_of_nonneg h0
    clear h
    go_wp2_with fail
    go_ret
    rw [← e1.out]
    exact ⟨rfl, rfl⟩
  · have e1 : many / 8 + 1 = (many + 7) / 8 := by omega
    have e1 := Lib.hid e1
    have t0 : (many % 8 == 0) = false := by simpa using h
    have tm : many.tmod 8 = many % 8 := Int.tmod_eq_emod_of_nonneg h0
    have td : many.tdiv 8 = many / 8 := Int.tdiv_eq_ediv_of_nonneg h0
    clear h
    go_wp2_with fail
    go_ret
    rw [← e1.out]
    exact ⟨rfl, rfl⟩
theorem mask1_all : ∀ a : Fin 256, bits .and .u8 (a.val : Int) 1 = ((a.val % 2 : Nat) : Int) := by decide +kernel
theorem mask1 (x : Int) (h0 : 0 ≤ x) (h1 : x ≤ 255) : bits .and .u8 x 1 = x % 2 := by
  have := mask1_all ⟨x.toNat, by omega⟩
  rw [show ((⟨x.toNat, by omega⟩ : Fin 256).val : Int) = x by simp; omega] at this
  rw [this]
  simp only
  omega
theorem mask2_all : ∀ a : Fin 256, bits .and .u8 (a.val : Int) 3 = ((a.val % 4 : Nat) : Int) := by decide +kernel
theorem mask2 (x : Int) (h0 : 0 ≤ x) (h1 : x ≤ 255) : bits .and .u8 x 3 = x % 4 := by
  have := mask2_all ⟨x.toNat, by omega⟩
  rw [show ((⟨x.toNat, by omega⟩ : Fin 256).val : Int) = x by simp; omega] at this
  rw [this]
  simp only
  omega
theorem mask3_all : ∀ a : Fin 256, bits .and .u8 (a.val : Int) 7 = ((a.val % 8 : Nat) : Int) := by decide +kernel
theorem mask3 (x : Int) (h0 : 0 ≤ x) (h1 : x ≤ 255) : bits .and .u8 x 7 = x % 8 := by
  have := mask3_all ⟨x.toNat, by omega⟩
  rw [show ((⟨x.toNat, by omega⟩ : Fin 256).val : Int) = x by simp; omega] at this
  rw [this]
  simp only
  omega
theorem mask4_all : ∀ a : Fin 256, bits .and .u8 (a.val : Int) 15 = ((a.val % 16 : Nat) : Int) := by decide +kernel
theorem mask4 (x : Int) (h0 : 0 ≤ x) (h1 : x ≤ 255) : bits .and .u8 x 15 = x % 16 := by
  have := mask4_all ⟨x.toNat, by omega⟩
  rw [show ((⟨x.toNat, by omega⟩ : Fin 256).val : Int) = x by simp; omega] at this
  rw [this]
  simp only
  omega
theorem mask5_all : ∀ a : Fin 256, bits .and .u8 (a.val : Int) 31 = ((a.val % 32 : Nat) : Int) := by decide +kernel
theorem mask5 (x : Int) (h0 : 0 ≤ x) (h1 : x ≤ 255) : bits .and .u8 x 31 = x % 32 := by
  have := mask5_all ⟨x.toNat, by omega⟩
  rw [show ((⟨x.toNat, by omega⟩ : Fin 256).val : Int) = x by simp; omega] at this
  rw [this]
  simp only
  omega
theorem mask6_all : ∀ a : Fin 256, bits .and .u8 (a.val : Int) 63 = ((a.val % 64 : Nat) : Int) := by decide +kernel
theorem mask6 (x : Int) (h0 : 0 ≤ x) (h1 : x ≤ 255) : bits .and .u8 x 63 = x % 64 := by
  have := mask6_all ⟨x.toNat, by omega⟩
  rw [show ((⟨x.toNat, by omega⟩ : Fin 256).val : Int) = x by simp; omega] at this
  rw [this]
  simp only
  omega
theorem mask7_all : ∀ a : Fin 256, bits .and .u8 (a.val : Int) 127 = ((a.val % 128 : Nat) : Int) := by decide +kernel
theorem mask7 (x : Int) (h0 : 0 ≤ x) (h1 : x ≤ 255) : bits .and .u8 x 127 = x % 128 := by
  have := mask7_all ⟨x.toNat, by omega⟩
  rw [show ((⟨x.toNat, by omega⟩ : Fin 256).val : Int) = x by simp; omega] at this
  rw [this]
  simp only
  omega

set_option maxHeartbeats 4000000 in
set_option maxRecDepth 100000 in
theorem bits_any (a : Option Addr) (n ca : Nat) (zs : List Int) (many : Int) (w : World) (hr : Row w a n zs) (hn : n ≤ 100000) (hnil : a = none → ca = 0) (hwf : (Lit.int .i64 many).wf = true) : Calls Tryd.prog 25 #[.slice a n ca, .int .i64 many] w (GivesNodeE (bitsZ zs many) w) := by
  have S0 := Lib.hid (RB.start w)
  have R0 := Lib.hid (hr.below S0.out.below)
  have HL := Lib.hid hr.1
  have HB := Lib.hid hr.2.1
  have NI := Lib.hid hnil
  have hm64 := bounds_i64 hwf
  clear hr hnil hwf
  have FB : FitBits zs many ↔ (¬ many < 0 ∧ ¬ 8 * (n : Int) < many ∧ (n : Int) = (many + 7) / 8) := by unfold FitBits; rw [HL.out]
  go_enter Tryd.func25, Tryd.ntmps25
  by_cases hfit : FitBits zs many
  rotate_left
  · have F : Hid (bitsZ zs many = (.node 0 [] [], 1)) := if_neg hfit
    rw [FB] at hfit
    have RN := Lib.hid (Row.nil (w.alloc (.cells #[.int .i64 0, .slice none 0 0, .slice none 0 0] 26)))
    by_cases h1 : many < 0
    · go_wp2_with fail
      exact gives_ate (zs := []) (c := 0) F.out rfl rfl rfl S0.out.box S0.out.below (RN.out _) (fun h => absurd h (by simp)) (fun _ => rfl) rfl (by simp)
    have h3 : ¬ (n : Int) = (many + 7) / 8 := fun h => hfit ⟨h1, by omega, h⟩
    have t3 : ((n : Int) != (many + 7) / 8) = true := by simpa using h3
    clear hfit h3
    go_wp2_with fail
    refine (bob_any many _ (by omega) (by omega)).mono ?_
    rintro e w1 ⟨rfl, rfl⟩
    go_wp2_with fail
    exact gives_ate (zs := []) (c := 0) F.out rfl rfl rfl S0.out.box S0.out.below (RN.out _) (fun h => absurd h (by simp)) (fun _ => rfl) rfl (by simp)
  have BZ : Hid (bitsZ zs many = if 0 < leftZ zs many ∧ (zs[zs.length - 1]?.getD 0) % 2 ^ (leftZ zs many).toNat ≠ 0 then (zeroT, 1) else (.node 3 (leftZ zs many :: zs) [], 0)) := if_pos hfit
  rw [FB] at hfit
  clear FB
  obtain ⟨h1, h2, h3⟩ := hfit
  have t3 : ((n : Int) != (many + 7) / 8) = false := by simpa using h3
  have LZ : Hid (leftZ zs many = 8 * (n : Int) - many) := by unfold leftZ; rw [HL.out]; exact Lib.hid rfl
  have hq : 8 * (n : Int) - many = 0 ∨ 8 * (n : Int) - many = 1 ∨ 8 * (n : Int) - many = 2 ∨ 8 * (n : Int) - many = 3 ∨ 8 * (n : Int) - many = 4 ∨ 8 * (n : Int) - many = 5 ∨ 8 * (n : Int) - many = 6 ∨ 8 * (n : Int) - many = 7 := by omega
  have H3 := Lib.hid h3
  clear h3
  rcases hq with hq | hq | hq | hq | hq | hq | hq | hq
  · have F : Hid (bitsZ zs many = (.node 3 (0 :: zs) [], 0)) := by rw [BZ.out, LZ.out, hq]; simp [Hid]
    clear BZ LZ
    go_wp2_with fail
    refine (bob_any many _ (by omega) (by omega)).mono ?_
    rintro e w1 ⟨rfl, rfl⟩
    go_wp2_with fail
    generalize hw0 : w.alloc (.cells #[.int .i64 0, .slice none 0 0, .slice none 0 0] 26) = w0 at *
    have hlt0 : w.heap.size < w0.heap.size := S0.out.box.lt
    clear hw0
    refine wp_region_ord Ext Ext.refl (fun _ _ _ => Ext.trans) ((0, false) :: (1, false) :: (2, false) :: (3, false) :: (4, false) :: (5, false) :: (6, false) :: (7, false) :: (8, false) :: (9, false) :: (10, false) :: (11, false) :: (12, false) :: (13, false) :: (14, false) :: []) (by kernel_rfl) (by kernel_rfl) rfl (by kernel_rfl) (fun _ _ _ _ _ h => h) ?_
    repeat (first | (refine ord_take _ rfl (by rfl) (fun W hW => by go_simp; first | done | rfl) ?_; simp only [Act.put, List.setIfInBounds_toArray, List.set_cons_zero, List.set_cons_succ]) | (refine ord_skip rfl (by rfl) ?_; simp only [Act.put, List.setIfInBounds_toArray, List.set_cons_zero, List.set_cons_succ]))
    refine ord_end ?_
    have E1 : Hid (Ext w0 w0.drew) := Ext.drew (Ext.refl w0)
    generalize w0.drew = w1 at E1 ⊢
    have R1 := Lib.hid (R0.out.below E1.out)
    have S1 := Lib.hid (S0.out.go E1.out)
    have hlt1 : w.heap.size < w1.heap.size := S1.out.box.lt
    clear R0 S0 E1 hlt0
    have O3 := Lib.hid (out_one w1 0)
    have R3 := Lib.hid (R1.out.below ((Below.refl w1.heap.size w1).alloc (Nat.le_refl _) (.cells #[.int .u8 0] 5)))
    go_wp2_with (at_builtin; go_must (refine out_append (W0 := w1) (L := [0]) (zs := zs) rfl _ _ rfl rfl O3.out rfl R3.out NI.out (by simp; omega) ?_; intro V4 w4 ho4; have O4 := Lib.hid ho4; have S4 := Lib.hid (S1.out.go ho4.2); obtain ⟨p0, p1, p2, f0, f1, f2⟩ := S4.out.box.six; obtain ⟨b4, c4, rfl, hr4⟩ := ho4.row (by intro y hy; rcases List.mem_cons.1 hy with rfl | hy; omega; exact HB.out y hy); have R4 := Lib.hid hr4; clear ho4 hr4))
    exact gives_leafe (zs := 0 :: zs) (c := c4) F.out rfl rfl rfl S4.out R4.out (fun h0 => by obtain ⟨b, off, e, hb⟩ := out_off O4.out h0; exact ⟨b, off, e, Nat.lt_of_lt_of_le hlt1 hb⟩) O4.out.nilc rfl (by have := HL.out; simp; omega)
  · obtain ⟨k, rfl⟩ : ∃ k, n = k + 1 := ⟨n - 1, by have := H3.out; omega⟩
    obtain ⟨b, off, rfl, hbl, hc⟩ := R0.out.2.2 (by omega)
    have l0 := cell_later (hc k (by omega))
    have z0 := R0.out.byte k
    have BQ : Hid (bitsZ zs many = if zs[k]?.getD 0 % 2 ≠ 0 then (zeroT, 1) else (.node 3 (1 :: zs) [], 0)) := by rw [BZ.out, LZ.out, hq, HL.out]; simp [Hid]
    clear BZ LZ hc hbl
    generalize zs[k]?.getD 0 = x at *
    have hq2 : 8 * ((k : Int) + 1) - many = 1 := by omega
    have h22 : ¬ 8 * ((k : Int) + 1) < many := by omega
    have t33 : ((k : Int) + 1 != (many + 7) / 8) = false := t3
    have wk : IntKind.i64.wrap (k : Int) = k := IntWalk.i64_in _ (by omega)
    have kk : (k : Int) < (k : Int) + 1 := by omega
    have w8 : IntKind.u8.wrap 2 = 2 := IntWalk.u8_in _ (by omega)
    have w7 : IntKind.u8.wrap 1 = 1 := IntWalk.u8_in _ (by omega)
    have bm : bits .and .u8 x 1 = x % 2 := mask1 x z0.1 z0.2
    clear hq h2 t3
    go_wp2_with fail
    refine (bob_any many _ (by omega) (by omega)).mono ?_
    rintro e w1 ⟨rfl, rfl⟩
    go_wp2_with fail
    generalize hw0 : w.alloc (.cells #[.int .i64 0, .slice none 0 0, .slice none 0 0] 26) = w0 at *
    have hlt0 : w.heap.size < w0.heap.size := S0.out.box.lt
    clear hw0
    by_cases hx : x % 2 = 0
    · have F : Hid (bitsZ zs many = (.node 3 (1 :: zs) [], 0)) := by rw [BQ.out, if_neg (by simpa using hx)]; exact Lib.hid rfl
      clear BQ
      refine wp_region_ord Ext Ext.refl (fun _ _ _ => Ext.trans) ((0, false) :: (1, false) :: (2, false) :: (3, false) :: (4, false) :: (5, false) :: (6, false) :: (7, false) :: (8, false) :: (9, false) :: (10, false) :: (11, false) :: (12, false) :: (13, false) :: (14, false) :: []) (by kernel_rfl) (by kernel_rfl) rfl (by kernel_rfl) (fun _ _ _ _ _ h => h) ?_
      repeat (first | (refine ord_take _ rfl (by rfl) (fun W hW => by go_simp; first | done | rfl) ?_; simp only [Act.put, List.setIfInBounds_toArray, List.set_cons_zero, List.set_cons_succ]) | (refine ord_skip rfl (by rfl) ?_; simp only [Act.put, List.setIfInBounds_toArray, List.set_cons_zero, List.set_cons_succ]))
      refine ord_end ?_
      clear l0
      have E1 : Hid (Ext w0 w0.drew) := Ext.drew (Ext.refl w0)
      generalize w0.drew = w1 at E1 ⊢
      have R1 := Lib.hid (R0.out.below E1.out)
      have S1 := Lib.hid (S0.out.go E1.out)
      have hlt1 : w.heap.size < w1.heap.size := S1.out.box.lt
      clear R0 S0 E1 hlt0
      have O3 := Lib.hid (out_one w1 1)
      have R3 := Lib.hid (R1.out.below ((Below.refl w1.heap.size w1).alloc (Nat.le_refl _) (.cells #[.int .u8 1] 5)))
      go_wp2_with (at_builtin; go_must (refine out_append (W0 := w1) (L := [1]) (zs := zs) rfl _ _ rfl rfl O3.out rfl R3.out NI.out (by simp; omega) ?_; intro V4 w4 ho4; have O4 := Lib.hid ho4; have S4 := Lib.hid (S1.out.go ho4.2); obtain ⟨p0, p1, p2, f0, f1, f2⟩ := S4.out.box.six; obtain ⟨b4, c4, rfl, hr4⟩ := ho4.row (by intro y hy; rcases List.mem_cons.1 hy with rfl | hy; omega; exact HB.out y hy); have R4 := Lib.hid hr4; clear ho4 hr4))
      exact gives_leafe (zs := 1 :: zs) (c := c4) F.out rfl rfl rfl S4.out R4.out (fun h0 => by obtain ⟨b, off, e, hb⟩ := out_off O4.out h0; exact ⟨b, off, e, Nat.lt_of_lt_of_le hlt1 hb⟩) O4.out.nilc rfl (by have := HL.out; simp; omega)
    · have F : Hid (bitsZ zs many = (.node 0 [] [], 1)) := by rw [BQ.out, if_pos (by simpa using hx)]; exact Lib.hid rfl
      have tx : (x % 2 != 0) = true := by simpa using hx
      clear BQ
      have RN := Lib.hid (Row.nil w0.drew)
      have S4 := Lib.hid (S0.out.go (Ext.drew (Ext.refl w0)))
      refine wp_region_ord Ext Ext.refl (fun _ _ _ => Ext.trans) ((0, false) :: (1, false) :: (2, false) :: (3, false) :: (4, false) :: (5, false) :: (6, false) :: (7, false) :: (8, false) :: (9, false) :: (10, false) :: (11, false) :: (12, false) :: (13, false) :: (14, false) :: []) (by kernel_rfl) (by kernel_rfl) rfl (by kernel_rfl) (fun _ _ _ _ _ h => h) ?_
      repeat (first | (refine ord_take _ rfl (by rfl) (fun W hW => by go_simp; first | done | rfl) ?_; simp only [Act.put, List.setIfInBounds_toArray, List.set_cons_zero, List.set_cons_succ]) | (refine ord_skip rfl (by rfl) ?_; simp only [Act.put, List.setIfInBounds_toArray, List.set_cons_zero, List.set_cons_succ]))
      refine ord_end ?_
      clear l0
      generalize w0.drew = w1 at S4 RN ⊢
      obtain ⟨p0, p1, p2, f0, f1, f2⟩ := S4.out.box.six
      go_wp2_with fail
      exact gives_leafe (zs := []) (c := 0) F.out rfl rfl rfl S4.out (RN.out _) (fun h => absurd h (by simp)) (fun _ => rfl) rfl (by simp)
  · obtain ⟨k, rfl⟩ : ∃ k, n = k + 1 := ⟨n - 1, by have := H3.out; omega⟩
    obtain ⟨b, off, rfl, hbl, hc⟩ := R0.out.2.2 (by omega)
    have l0 := cell_later (hc k (by omega))
    have z0 := R0.out.byte k
    have BQ : Hid (bitsZ zs many = if zs[k]?.getD 0 % 4 ≠ 0 then (zeroT, 1) else (.node 3 (2 :: zs) [], 0)) := by rw [BZ.out, LZ.out, hq, HL.out]; simp [Hid]
    clear BZ LZ hc hbl
    generalize zs[k]?.getD 0 = x at *
    have hq2 : 8 * ((k : Int) + 1) - many = 2 := by omega
    have h22 : ¬ 8 * ((k : Int) + 1) < many := by omega
    have t33 : ((k : Int) + 1 != (many + 7) / 8) = false := t3
    have wk : IntKind.i64.wrap (k : Int) = k := IntWalk.i64_in _ (by omega)
    have kk : (k : Int) < (k : Int) + 1 := by omega
    have w8 : IntKind.u8.wrap 4 = 4 := IntWalk.u8_in _ (by omega)
    have w7 : IntKind.u8.wrap 3 = 3 := IntWalk.u8_in _ (by omega)
    have bm : bits .and .u8 x 3 = x % 4 := mask2 x z0.1 z0.2
    clear hq h2 t3
    go_wp2_with fail
    refine (bob_any many _ (by omega) (by omega)).mono ?_
    rintro e w1 ⟨rfl, rfl⟩
    go_wp2_with fail
    generalize hw0 : w.alloc (.cells #[.int .i64 0, .slice none 0 0, .slice none 0 0] 26) = w0 at *
    have hlt0 : w.heap.size < w0.heap.size := S0.out.box.lt
    clear hw0
    by_cases hx : x % 4 = 0
    · have F : Hid (bitsZ zs many = (.node 3 (2 :: zs) [], 0)) := by rw [BQ.out, if_neg (by simpa using hx)]; exact Lib.hid rfl
      clear BQ
      refine wp_region_ord Ext Ext.refl (fun _ _ _ => Ext.trans) ((0, false) :: (1, false) :: (2, false) :: (3, false) :: (4, false) :: (5, false) :: (6, false) :: (7, false) :: (8, false) :: (9, false) :: (10, false) :: (11, false) :: (12, false) :: (13, false) :: (14, false) :: []) (by kernel_rfl) (by kernel_rfl) rfl (by kernel_rfl) (fun _ _ _ _ _ h => h) ?_
      repeat (first | (refine ord_take _ rfl (by rfl) (fun W hW => by go_simp; first | done | rfl) ?_; simp only [Act.put, List.setIfInBounds_toArray, List.set_cons_zero, List.set_cons_succ]) | (refine ord_skip rfl (by rfl) ?_; simp only [Act.put, List.setIfInBounds_toArray, List.set_cons_zero, List.set_cons_succ]))
      refine ord_end ?_
      clear l0
      have E1 : Hid (Ext w0 w0.drew) := Ext.drew (Ext.refl w0)
      generalize w0.drew = w1 at E1 ⊢
      have R1 := Lib.hid (R0.out.below E1.out)
      have S1 := Lib.hid (S0.out.go E1.out)
      have hlt1 : w.heap.size < w1.heap.size := S1.out.box.lt
      clear R0 S0 E1 hlt0
      have O3 := Lib.hid (out_one w1 2)
      have R3 := Lib.hid (R1.out.below ((Below.refl w1.heap.size w1).alloc (Nat.le_refl _) (.cells #[.int .u8 2] 5)))
      go_wp2_with (at_builtin; go_must (refine out_append (W0 := w1) (L := [2]) (zs := zs) rfl _ _ rfl rfl O3.out rfl R3.out NI.out (by simp; omega) ?_; intro V4 w4 ho4; have O4 := Lib.hid ho4; have S4 := Lib.hid (S1.out.go ho4.2); obtain ⟨p0, p1, p2, f0, f1, f2⟩ := S4.out.box.six; obtain ⟨b4, c4, rfl, hr4⟩ := ho4.row (by intro y hy; rcases List.mem_cons.1 hy with rfl | hy; omega; exact HB.out y hy); have R4 := Lib.hid hr4; clear ho4 hr4))
      exact gives_leafe (zs := 2 :: zs) (c := c4) F.out rfl rfl rfl S4.out R4.out (fun h0 => by obtain ⟨b, off, e, hb⟩ := out_off O4.out h0; exact ⟨b, off, e, Nat.lt_of_lt_of_le hlt1 hb⟩) O4.out.nilc rfl (by have := HL.out; simp; omega)
    · have F : Hid (bitsZ zs many = (.node 0 [] [], 1)) := by rw [BQ.out, if_pos (by simpa using hx)]; exact Lib.hid rfl
      have tx : (x % 4 != 0) = true := by simpa using hx
      clear BQ
      have RN := Lib.hid (Row.nil w0.drew)
      have S4 := Lib.hid (S0.out.go (Ext.drew (Ext.refl w0)))
      refine wp_region_ord Ext Ext.refl (fun _ _ _ => Ext.trans) ((0, false) :: (1, false) :: (2, false) :: (3, false) :: (4, false) :: (5, false) :: (6, false) :: (7, false) :: (8, false) :: (9, false) :: (10, false) :: (11, false) :: (12, false) :: (13, false) :: (14, false) :: []) (by kernel_rfl) (by kernel_rfl) rfl (by kernel_rfl) (fun _ _ _ _ _ h => h) ?_
      repeat (first | (refine ord_take _ rfl (by rfl) (fun W hW => by go_simp; first | done | rfl) ?_; simp only [Act.put, List.setIfInBounds_toArray, List.set_cons_zero, List.set_cons_succ]) | (refine ord_skip rfl (by rfl) ?_; simp only [Act.put, List.setIfInBounds_toArray, List.set_cons_zero, List.set_cons_succ]))
      refine ord_end ?_
      clear l0
      generalize w0.drew = w1 at S4 RN ⊢
      obtain ⟨p0, p1, p2, f0, f1, f2⟩ := S4.out.box.six
      go_wp2_with fail
      exact gives_leafe (zs := []) (c := 0) F.out rfl rfl rfl S4.out (RN.out _) (fun h => absurd h (by simp)) (fun _ => rfl) rfl (by simp)
  · obtain ⟨k, rfl⟩ : ∃ k, n = k + 1 := ⟨n - 1, by have := H3.out; omega⟩
    obtain ⟨b, off, rfl, hbl, hc⟩ := R0.out.2.2 (by omega)
    have l0 := cell_later (hc k (by omega))
    have z0 := R0.out.byte k
    have BQ : Hid (bitsZ zs many = if zs[k]?.getD 0 % 8 ≠ 0 then (zeroT, 1) else (.node 3 (3 :: zs) [], 0)) := by rw [BZ.out, LZ.out, hq, HL.out]; simp [Hid]
    clear BZ LZ hc hbl
    generalize zs[k]?.getD 0 = x at *
    have hq2 : 8 * ((k : Int) + 1) - many = 3 := by omega
    have h22 : ¬ 8 * ((k : Int) + 1) < many := by omega
    have t33 : ((k : Int) + 1 != (many + 7) / 8) = false := t3
    have wk : IntKind.i64.wrap (k : Int) = k := IntWalk.i64_in _ (by omega)
    have kk : (k : Int) < (k : Int) + 1 := by omega
    have w8 : IntKind.u8.wrap 8 = 8 := IntWalk.u8_in _ (by omega)
    have w7 : IntKind.u8.wrap 7 = 7 := IntWalk.u8_in _ (by omega)
    have bm : bits .and .u8 x 7 = x % 8 := mask3 x z0.1 z0.2
    clear hq h2 t3
    go_wp2_with fail
    refine (bob_any many _ (by omega) (by omega)).mono ?_
    rintro e w1 ⟨rfl, rfl⟩
    go_wp2_with fail
    generalize hw0 : w.alloc (.cells #[.int .i64 0, .slice none 0 0, .slice none 0 0] 26) = w0 at *
    have hlt0 : w.heap.size < w0.heap.size := S0.out.box.lt
    clear hw0
    by_cases hx : x % 8 = 0
    · have F : Hid (bitsZ zs many = (.node 3 (3 :: zs) [], 0)) := by rw [BQ.out, if_neg (by simpa using hx)]; exact Lib.hid rfl
      clear BQ
      refine wp_region_ord Ext Ext.refl (fun _ _ _ => Ext.trans) ((0, false) :: (1, false) :: (2, false) :: (3, false) :: (4, false) :: (5, false) :: (6, false) :: (7, false) :: (8, false) :: (9, false) :: (10, false) :: (11, false) :: (12, false) :: (13, false) :: (14, false) :: []) (by kernel_rfl) (by kernel_rfl) rfl (by kernel_rfl) (fun _ _ _ _ _ h => h) ?_
      repeat (first | (refine ord_take _ rfl (by rfl) (fun W hW => by go_simp; first | done | rfl) ?_; simp only [Act.put, List.setIfInBounds_toArray, List.set_cons_zero, List.set_cons_succ]) | (refine ord_skip rfl (by rfl) ?_; simp only [Act.put, List.setIfInBounds_toArray, List.set_cons_zero, List.set_cons_succ]))
      refine ord_end ?_
      clear l0
      have E1 : Hid (Ext w0 w0.drew) := Ext.drew (Ext.refl w0)
      generalize w0.drew = w1 at E1 ⊢
      have R1 := Lib.hid (R0.out.below E1.out)
      have S1 := Lib.hid (S0.out.go E1.out)
      have hlt1 : w.heap.size < w1.heap.size := S1.out.box.lt
      clear R0 S0 E1 hlt0
      have O3 := Lib.hid (out_one w1 3)
      have R3 := Lib.hid (R1.out.below ((Below.refl w1.heap.size w1).alloc (Nat.le_refl _) (.cells #[.int .u8 3] 5)))
      go_wp2_with (at_builtin; go_must (refine out_append (W0 := w1) (L := [3]) (zs := zs) rfl _ _ rfl rfl O3.out rfl R3.out NI.out (by simp; omega) ?_; intro V4 w4 ho4; have O4 := Lib.hid ho4; have S4 := Lib.hid (S1.out.go ho4.2); obtain ⟨p0, p1, p2, f0, f1, f2⟩ := S4.out.box.six; obtain ⟨b4, c4, rfl, hr4⟩ := ho4.row (by intro y hy; rcases List.mem_cons.1 hy with rfl | hy; omega; exact HB.out y hy); have R4 := Lib.hid hr4; clear ho4 hr4))
      exact gives_leafe (zs := 3 :: zs) (c := c4) F.out rfl rfl rfl S4.out R4.out (fun h0 => by obtain ⟨b, off, e, hb⟩ := out_off O4.out h0; exact ⟨b, off, e, Nat.lt_of_lt_of_le hlt1 hb⟩) O4.out.nilc rfl (by have := HL.out; simp; omega)
    · have F : Hid (bitsZ zs many = (.node 0 [] [], 1)) := by rw [BQ.out, if_pos (by simpa using hx)]; exact Lib.hid rfl
      have tx : (x % 8 != 0) = true := by simpa using hx
      clear BQ
      have RN := Lib.hid (Row.nil w0.drew)
      have S4 := Lib.hid (S0.out.go (Ext.drew (Ext.refl w0)))
      refine wp_region_ord Ext Ext.refl (fun _ _ _ => Ext.trans) ((0, false) :: (1, false) :: (2, false) :: (3, false) :: (4, false) :: (5, false) :: (6, false) :: (7, false) :: (8, false) :: (9, false) :: (10, false) :: (11, false) :: (12, false) :: (13, false) :: (14, false) :: []) (by kernel_rfl) (by kernel_rfl) rfl (by kernel_rfl) (fun _ _ _ _ _ h => h) ?_
      repeat (first | (refine ord_take _ rfl (by rfl) (fun W hW => by go_simp; first | done | rfl) ?_; simp only [Act.put, List.setIfInBounds_toArray, List.set_cons_zero, List.set_cons_succ]) | (refine ord_skip rfl (by rfl) ?_; simp only [Act.put, List.setIfInBounds_toArray, List.set_cons_zero, List.set_cons_succ]))
      refine ord_end ?_
      clear l0
      generalize w0.drew = w1 at S4 RN ⊢
      obtain ⟨p0, p1, p2, f0, f1, f2⟩ := S4.out.box.six
      go_wp2_with fail
      exact gives_leafe (zs := []) (c := 0) F.out rfl rfl rfl S4.out (RN.out _) (fun h => absurd h (by simp)) (fun _ => rfl) rfl (by simp)
  · obtain ⟨k, rfl⟩ : ∃ k, n = k + 1 := ⟨n - 1, by have := H3.out; omega⟩
    obtain ⟨b, off, rfl, hbl, hc⟩ := R0.out.2.2 (by omega)
    have l0 := cell_later (hc k (by omega))
    have z0 := R0.out.byte k
    have BQ : Hid (bitsZ zs many = if zs[k]?.getD 0 % 16 ≠ 0 then (zeroT, 1) else (.node 3 (4 :: zs) [], 0)) := by rw [BZ.out, LZ.out, hq, HL.out]; simp [Hid]
    clear BZ LZ hc hbl
    generalize zs[k]?.getD 0 = x at *
    have hq2 : 8 * ((k : Int) + 1) - many = 4 := by omega
    have h22 : ¬ 8 * ((k : Int) + 1) < many := by omega
    have t33 : ((k : Int) + 1 != (many + 7) / 8) = false := t3
    have wk : IntKind.i64.wrap (k : Int) = k := IntWalk.i64_in _ (by omega)
    have kk : (k : Int) < (k : Int) + 1 := by omega
    have w8 : IntKind.u8.wrap 16 = 16 := IntWalk.u8_in _ (by omega)
    have w7 : IntKind.u8.wrap 15 = 15 := IntWalk.u8_in _ (by omega)
    have bm : bits .and .u8 x 15 = x % 16 := mask4 x z0.1 z0.2
    clear hq h2 t3
    go_wp2_with fail
    refine (bob_any many _ (by omega) (by omega)).mono ?_
    rintro e w1 ⟨rfl, rfl⟩
    go_wp2_with fail
    generalize hw0 : w.alloc (.cells #[.int .i64 0, .slice none 0 0, .slice none 0 0] 26) = w0 at *
    have hlt0 : w.heap.size < w0.heap.size := S0.out.box.lt
    clear hw0
    by_cases hx : x % 16 = 0
    · have F : Hid (bitsZ zs many = (.node 3 (4 :: zs) [], 0)) := by rw [BQ.out, if_neg (by simpa using hx)]; exact Lib.hid rfl
      clear BQ
      refine wp_region_ord Ext Ext.refl (fun _ _ _ => Ext.trans) ((0, false) :: (1, false) :: (2, false) :: (3, false) :: (4, false) :: (5, false) :: (6, false) :: (7, false) :: (8, false) :: (9, false) :: (10, false) :: (11, false) :: (12, false) :: (13, false) :: (14, false) :: []) (by kernel_rfl) (by kernel_rfl) rfl (by kernel_rfl) (fun _ _ _ _ _ h => h) ?_
      repeat (first | (refine ord_take _ rfl (by rfl) (fun W hW => by go_simp; first | done | rfl) ?_; simp only [Act.put, List.setIfInBounds_toArray, List.set_cons_zero, List.set_cons_succ]) | (refine ord_skip rfl (by rfl) ?_; simp only [Act.put, List.setIfInBounds_toArray, List.set_cons_zero, List.set_cons_succ]))
      refine ord_end ?_
      clear l0
      have E1 : Hid (Ext w0 w0.drew) := Ext.drew (Ext.refl w0)
      generalize w0.drew = w1 at E1 ⊢
      have R1 := Lib.hid (R0.out.below E1.out)
      have S1 := Lib.hid (S0.out.go E1.out)
      have hlt1 : w.heap.size < w1.heap.size := S1.out.box.lt
      clear R0 S0 E1 hlt0
      have O3 := Lib.hid (out_one w1 4)
      have R3 := Lib.hid (R1.out.below ((Below.refl w1.heap.size w1).alloc (Nat.le_refl _) (.cells #[.int .u8 4] 5)))
      go_wp2_with (at_builtin; go_must (refine out_append (W0 := w1) (L := [4]) (zs := zs) rfl _ _ rfl rfl O3.out rfl R3.out NI.out (by simp; omega) ?_; intro V4 w4 ho4; have O4 := Lib.hid ho4; have S4 := Lib.hid (S1.out.go ho4.2); obtain ⟨p0, p1, p2, f0, f1, f2⟩ := S4.out.box.six; obtain ⟨b4, c4, rfl, hr4⟩ := ho4.row (by intro y hy; rcases List.mem_cons.1 hy with rfl | hy; omega; exact HB.out y hy); have R4 := Lib.hid hr4; clear ho4 hr4))
      exact gives_leafe (zs := 4 :: zs) (c := c4) F.out rfl rfl rfl S4.out R4.out (fun h0 => by obtain ⟨b, off, e, hb⟩ := out_off O4.out h0; exact ⟨b, off, e, Nat.lt_of_lt_of_le hlt1 hb⟩) O4.out.nilc rfl (by have := HL.out; simp; omega)
    · have F : Hid (bitsZ zs many = (.node 0 [] [], 1)) := by rw [BQ.out, if_pos (by simpa using hx)]; exact Lib.hid rfl
      have tx : (x % 16 != 0) = true := by simpa using hx
      clear BQ
      have RN := Lib.hid (Row.nil w0.drew)
      have S4 := Lib.hid (S0.out.go (Ext.drew (Ext.refl w0)))
      refine wp_region_ord Ext Ext.refl (fun _ _ _ => Ext.trans) ((0, false) :: (1, false) :: (2, false) :: (3, false) :: (4, false) :: (5, false) :: (6, false) :: (7, false) :: (8, false) :: (9, false) :: (10, false) :: (11, false) :: (12, false) :: (13, false) :: (14, false) :: []) (by kernel_rfl) (by kernel_rfl) rfl (by kernel_rfl) (fun _ _ _ _ _ h => h) ?_
      repeat (first | (refine ord_take _ rfl (by rfl) (fun W hW => by go_simp; first | done | rfl) ?_; simp only [Act.put, List.setIfInBounds_toArray, List.set_cons_zero, List.set_cons_succ]) | (refine ord_skip rfl (by rfl) ?_; simp only [Act.put, List.setIfInBounds_toArray, List.set_cons_zero, List.set_cons_succ]))
      refine ord_end ?_
      clear l0
      generalize w0.drew = w1 at S4 RN ⊢
      obtain ⟨p0, p1, p2, f0, f1, f2⟩ := S4.out.box.six
      go_wp2_with fail
      exact gives_leafe (zs := []) (c := 0) F.out rfl rfl rfl S4.out (RN.out _) (fun h => absurd h (by simp)) (fun _ => rfl) rfl (by simp)
  · obtain ⟨k, rfl⟩ : ∃ k, n = k + 1 := ⟨n - 1, by have := H3.out; omega⟩
    obtain ⟨b, off, rfl, hbl, hc⟩ := R0.out.2.2 (by omega)
    have l0 := cell_later (hc k (by omega))
    have z0 := R0.out.byte k
    have BQ : Hid (bitsZ zs many = if zs[k]?.getD 0 % 32 ≠ 0 then (zeroT, 1) else (.node 3 (5 :: zs) [], 0)) := by rw [BZ.out, LZ.out, hq, HL.out]; simp [Hid]
    clear BZ LZ hc hbl
    generalize zs[k]?.getD 0 = x at *
    have hq2 : 8 * ((k : Int) + 1) - many = 5 := by omega
    have h22 : ¬ 8 * ((k : Int) + 1) < many := by omega
    have t33 : ((k : Int) + 1 != (many + 7) / 8) = false := t3
    have wk : IntKind.i64.wrap (k : Int) = k := IntWalk.i64_in _ (by omega)
    have kk : (k : Int) < (k : Int) + 1 := by omega
    have w8 : IntKind.u8.wrap 32 = 32 := IntWalk.u8_in _ (by omega)
    have w7 : IntKind.u8.wrap 31 = 31 := IntWalk.u8_in _ (by omega)
    have bm : bits .and .u8 x 31 = x % 32 := mask5 x z0.1 z0.2
    clear hq h2 t3
    go_wp2_with fail
    refine (bob_any many _ (by omega) (by omega)).mono ?_
    rintro e w1 ⟨rfl, rfl⟩
    go_wp2_with fail
    generalize hw0 : w.alloc (.cells #[.int .i64 0, .slice none 0 0, .slice none 0 0] 26) = w0 at *
    have hlt0 : w.heap.size < w0.heap.size := S0.out.box.lt
    clear hw0
    by_cases hx : x % 32 = 0
    · have F : Hid (bitsZ zs many = (.node 3 (5 :: zs) [], 0)) := by rw [BQ.out, if_neg (by simpa using hx)]; exact Lib.hid rfl
      clear BQ
      refine wp_region_ord Ext Ext.refl (fun _ _ _ => Ext.trans) ((0, false) :: (1, false) :: (2, false) :: (3, false) :: (4, false) :: (5, false) :: (6, false) :: (7, false) :: (8, false) :: (9, false) :: (10, false) :: (11, false) :: (12, false) :: (13, false) :: (14, false) :: []) (by kernel_rfl) (by kernel_rfl) rfl (by kernel_rfl) (fun _ _ _ _ _ h => h) ?_
      repeat (first | (refine ord_take _ rfl (by rfl) (fun W hW => by go_simp; first | done | rfl) ?_; simp only [Act.put, List.setIfInBounds_toArray, List.set_cons_zero, List.set_cons_succ]) | (refine ord_skip rfl (by rfl) ?_; simp only [Act.put, List.setIfInBounds_toArray, List.set_cons_zero, List.set_cons_succ]))
      refine ord_end ?_
      clear l0
      have E1 : Hid (Ext w0 w0.drew) := Ext.drew (Ext.refl w0)
      generalize w0.drew = w1 at E1 ⊢
      have R1 := Lib.hid (R0.out.below E1.out)
      have S1 := Lib.hid (S0.out.go E1.out)
      have hlt1 : w.heap.size < w1.heap.size := S1.out.box.lt
      clear R0 S0 E1 hlt0
      have O3 := Lib.hid (out_one w1 5)
      have R3 := Lib.hid (R1.out.below ((Below.refl w1.heap.size w1).alloc (Nat.le_refl _) (.cells #[.int .u8 5] 5)))
      go_wp2_with (at_builtin; go_must (refine out_append (W0 := w1) (L := [5]) (zs := zs) rfl _ _ rfl rfl O3.out rfl R3.out NI.out (by simp; omega) ?_; intro V4 w4 ho4; have O4 := Lib.hid ho4; have S4 := Lib.hid (S1.out.go ho4.2); obtain ⟨p0, p1, p2, f0, f1, f2⟩ := S4.out.box.six; obtain ⟨b4, c4, rfl, hr4⟩ := ho4.row (by intro y hy; rcases List.mem_cons.1 hy with rfl | hy; omega; exact HB.out y hy); have R4 := Lib.hid hr4; clear ho4 hr4))
      exact gives_leafe (zs := 5 :: zs) (c := c4) F.out rfl rfl rfl S4.out R4.out (fun h0 => by obtain ⟨b, off, e, hb⟩ := out_off O4.out h0; exact ⟨b, off, e, Nat.lt_of_lt_of_le hlt1 hb⟩) O4.out.nilc rfl (by have := HL.out; simp; omega)
    · have F : Hid (bitsZ zs many = (.node 0 [] [], 1)) := by rw [BQ.out, if_pos (by simpa using hx)]; exact Lib.hid rfl
      have tx : (x % 32 != 0) = true := by simpa using hx
      clear BQ
      have RN := Lib.hid (Row.nil w0.drew)
      have S4 := Lib.hid (S0.out.go (Ext.drew (Ext.refl w0)))
      refine wp_region_ord Ext Ext.refl (fun _ _ _ => Ext.trans) ((0, false) :: (1, false) :: (2, false) :: (3, false) :: (4, false) :: (5, false) :: (6, false) :: (7, false) :: (8, false) :: (9, false) :: (10, false) :: (11, false) :: (12, false) :: (13, false) :: (14, false) :: []) (by kernel_rfl) (by kernel_rfl) rfl (by kernel_rfl) (fun _ _ _ _ _ h => h) ?_
      repeat (first | (refine ord_take _ rfl (by rfl) (fun W hW => by go_simp; first | done | rfl) ?_; simp only [Act.put, List.setIfInBounds_toArray, List.set_cons_zero, List.set_cons_succ]) | (refine ord_skip rfl (by rfl) ?_; simp only [Act.put, List.setIfInBounds_toArray, List.set_cons_zero, List.set_cons_succ]))
      refine ord_end ?_
      clear l0
      generalize w0.drew = w1 at S4 RN ⊢
      obtain ⟨p0, p1, p2, f0, f1, f2⟩ := S4.out.box.six
      go_wp2_with fail
      exact gives_leafe (zs := []) (c := 0) F.out rfl rfl rfl S4.out (RN.out _) (fun h => absurd h (by simp)) (fun _ => rfl) rfl (by simp)
  · obtain ⟨k, rfl⟩ : ∃ k, n = k + 1 := ⟨n - 1, by have := H3.out; omega⟩
    obtain ⟨b, off, rfl, hbl, hc⟩ := R0.out.2.2 (by omega)
    have l0 := cell_later (hc k (by omega))
    have z0 := R0.out.byte k
    have BQ : Hid (bitsZ zs many = if zs[k]?.getD 0 % 64 ≠ 0 then (zeroT, 1) else (.node 3 (6 :: zs) [], 0)) := by rw [BZ.out, LZ.out, hq, HL.out]; simp [Hid]
    clear BZ LZ hc hbl
    generalize zs[k]?.getD 0 = x at *
    have hq2 : 8 * ((k : Int) + 1) - many = 6 := by omega
    have h22 : ¬ 8 * ((k : Int) + 1) < many := by omega
    have t33 : ((k : Int) + 1 != (many + 7) / 8) = false := t3
    have wk : IntKind.i64.wrap (k : Int) = k := IntWalk.i64_in _ (by omega)
    have kk : (k : Int) < (k : Int) + 1 := by omega
    have w8 : IntKind.u8.wrap 64 = 64 := IntWalk.u8_in _ (by omega)
    have w7 : IntKind.u8.wrap 63 = 63 := IntWalk.u8_in _ (by omega)
    have bm : bits .and .u8 x 63 = x % 64 := mask6 x z0.1 z0.2
    clear hq h2 t3
    go_wp2_with fail
    refine (bob_any many _ (by omega) (by omega)).mono ?_
    rintro e w1 ⟨rfl, rfl⟩
    go_wp2_with fail
    generalize hw0 : w.alloc (.cells #[.int .i64 0, .slice none 0 0, .slice none 0 0] 26) = w0 at *
    have hlt0 : w.heap.size < w0.heap.size := S0.out.box.lt
    clear hw0
    by_cases hx : x % 64 = 0
    · have F : Hid (bitsZ zs many = (.node 3 (6 :: zs) [], 0)) := by rw [BQ.out, if_neg (by simpa using hx)]; exact Lib.hid rfl
      clear BQ
      refine wp_region_ord Ext Ext.refl (fun _ _ _ => Ext.trans) ((0, false) :: (1, false) :: (2, false) :: (3, false) :: (4, false) :: (5, false) :: (6, false) :: (7, false) :: (8, false) :: (9, false) :: (10, false) :: (11, false) :: (12, false) :: (13, false) :: (14, false) :: []) (by kernel_rfl) (by kernel_rfl) rfl (by kernel_rfl) (fun _ _ _ _ _ h => h) ?_
      repeat (first | (refine ord_take _ rfl (by rfl) (fun W hW => by go_simp; first | done | rfl) ?_; simp only [Act.put, List.setIfInBounds_toArray, List.set_cons_zero, List.set_cons_succ]) | (refine ord_skip rfl (by rfl) ?_; simp only [Act.put, List.setIfInBounds_toArray, List.set_cons_zero, List.set_cons_succ]))
      refine ord_end ?_
      clear l0
      have E1 : Hid (Ext w0 w0.drew) := Ext.drew (Ext.refl w0)
      generalize w0.drew = w1 at E1 ⊢
      have R1 := Lib.hid (R0.out.below E1.out)
      have S1 := Lib.hid (S0.out.go E1.out)
      have hlt1 : w.heap.size < w1.heap.size := S1.out.box.lt
      clear R0 S0 E1 hlt0
      have O3 := Lib.hid (out_one w1 6)
      have R3 := Lib.hid (R1.out.below ((Below.refl w1.heap.size w1).alloc (Nat.le_refl _) (.cells #[.int .u8 6] 5)))
      go_wp2_with (at_builtin; go_must (refine out_append (W0 := w1) (L := [6]) (zs := zs) rfl _ _ rfl rfl O3.out rfl R3.out NI.out (by simp; omega) ?_; intro V4 w4 ho4; have O4 := Lib.hid ho4; have S4 := Lib.hid (S1.out.go ho4.2); obtain ⟨p0, p1, p2, f0, f1, f2⟩ := S4.out.box.six; obtain ⟨b4, c4, rfl, hr4⟩ := ho4.row (by intro y hy; rcases List.mem_cons.1 hy with rfl | hy; omega; exact HB.out y hy); have R4 := Lib.hid hr4; clear ho4 hr4))
      exact gives_leafe (zs := 6 :: zs) (c := c4) F.out rfl rfl rfl S4.out R4.out (fun h0 => by obtain ⟨b, off, e, hb⟩ := out_off O4.out h0; exact ⟨b, off, e, Nat.lt_of_lt_of_le hlt1 hb⟩) O4.out.nilc rfl (by have := HL.out; simp; omega)
    · have F : Hid (bitsZ zs many = (.node 0 [] [], 1)) := by rw [BQ.out, if_pos (by simpa using hx)]; exact Lib.hid rfl
      have tx : (x % 64 != 0) = true := by simpa using hx
      clear BQ
      have RN := Lib.hid (Row.nil w0.drew)
      have S4 := Lib.hid (S0.out.go (Ext.drew (Ext.refl w0)))
      refine wp_region_ord Ext Ext.refl (fun _ _ _ => Ext.trans) ((0, false) :: (1, false) :: (2, false) :: (3, false) :: (4, false) :: (5, false) :: (6, false) :: (7, false) :: (8, false) :: (9, false) :: (10, false) :: (11, false) :: (12, false) :: (13, false) :: (14, false) :: []) (by kernel_rfl) (by kernel_rfl) rfl (by kernel_rfl) (fun _ _ _ _ _ h => h) ?_
      repeat (first | (refine ord_take _ rfl (by rfl) (fun W hW => by go_simp; first | done | rfl) ?_; simp only [Act.put, List.setIfInBounds_toArray, List.set_cons_zero, List.set_cons_succ]) | (refine ord_skip rfl (by rfl) ?_; simp only [Act.put, List.setIfInBounds_toArray, List.set_cons_zero, List.set_cons_succ]))
      refine ord_end ?_
      clear l0
      generalize w0.drew = w1 at S4 RN ⊢
      obtain ⟨p0, p1, p2, f0, f1, f2⟩ := S4.out.box.six
      go_wp2_with fail
      exact gives_leafe (zs := []) (c := 0) F.out rfl rfl rfl S4.out (RN.out _) (fun h => absurd h (by simp)) (fun _ => rfl) rfl (by simp)
  · obtain ⟨k, rfl⟩ : ∃ k, n = k + 1 := ⟨n - 1, by have := H3.out; omega⟩
    obtain ⟨b, off, rfl, hbl, hc⟩ := R0.out.2.2 (by omega)
    have l0 := cell_later (hc k (by omega))
    have z0 := R0.out.byte k
    have BQ : Hid (bitsZ zs many = if zs[k]?.getD 0 % 128 ≠ 0 then (zeroT, 1) else (.node 3 (7 :: zs) [], 0)) := by rw [BZ.out, LZ.out, hq, HL.out]; simp [Hid]
    clear BZ LZ hc hbl
    generalize zs[k]?.getD 0 = x at *
    have hq2 : 8 * ((k : Int) + 1) - many = 7 := by omega
    have h22 : ¬ 8 * ((k : Int) + 1) < many := by omega
    have t33 : ((k : Int) + 1 != (many + 7) / 8) = false := t3
    have wk : IntKind.i64.wrap (k : Int) = k := IntWalk.i64_in _ (by omega)
    have kk : (k : Int) < (k : Int) + 1 := by omega
    have w8 : IntKind.u8.wrap 128 = 128 := IntWalk.u8_in _ (by omega)
    have w7 : IntKind.u8.wrap 127 = 127 := IntWalk.u8_in _ (by omega)
    have bm : bits .and .u8 x 127 = x % 128 := mask7 x z0.1 z0.2
    clear hq h2 t3
    go_wp2_with fail
    refine (bob_any many _ (by omega) (by omega)).mono ?_
    rintro e w1 ⟨rfl, rfl⟩
    go_wp2_with fail
    generalize hw0 : w.alloc (.cells #[.int .i64 0, .slice none 0 0, .slice none 0 0] 26) = w0 at *
    have hlt0 : w.heap.size < w0.heap.size := S0.out.box.lt
    clear hw0
    by_cases hx : x % 128 = 0
    · have F : Hid (bitsZ zs many = (.node 3 (7 :: zs) [], 0)) := by rw [BQ.out, if_neg (by simpa using hx)]; exact Lib.hid rfl
      clear BQ
      refine wp_region_ord Ext Ext.refl (fun _ _ _ => Ext.trans) ((0, false) :: (1, false) :: (2, false) :: (3, false) :: (4, false) :: (5, false) :: (6, false) :: (7, false) :: (8, false) :: (9, false) :: (10, false) :: (11, false) :: (12, false) :: (13, false) :: (14, false) :: []) (by kernel_rfl) (by kernel_rfl) rfl (by kernel_rfl) (fun _ _ _ _ _ h => h) ?_
      repeat (first | (refine ord_take _ rfl (by rfl) (fun W hW => by go_simp; first | done | rfl) ?_; simp only [Act.put, List.setIfInBounds_toArray, List.set_cons_zero, List.set_cons_succ]) | (refine ord_skip rfl (by rfl) ?_; simp only [Act.put, List.setIfInBounds_toArray, List.set_cons_zero, List.set_cons_succ]))
      refine ord_end ?_
      clear l0
      have E1 : Hid (Ext w0 w0.drew) := Ext.drew (Ext.refl w0)
      generalize w0.drew = w1 at E1 ⊢
      have R1 := Lib.hid (R0.out.below E1.out)
      have S1 := Lib.hid (S0.out.go E1.out)
      have hlt1 : w.heap.size < w1.heap.size := S1.out.box.lt
      clear R0 S0 E1 hlt0
      have O3 := Lib.hid (out_one w1 7)
      have R3 := Lib.hid (R1.out.below ((Below.refl w1.heap.size w1).alloc (Nat.le_refl _) (.cells #[.int .u8 7] 5)))
      go_wp2_with (at_builtin; go_must (refine out_append (W0 := w1) (L := [7]) (zs := zs) rfl _ _ rfl rfl O3.out rfl R3.out NI.out (by simp; omega) ?_; intro V4 w4 ho4; have O4 := Lib.hid ho4; have S4 := Lib.hid (S1.out.go ho4.2); obtain ⟨p0, p1, p2, f0, f1, f2⟩ := S4.out.box.six; obtain ⟨b4, c4, rfl, hr4⟩ := ho4.row (by intro y hy; rcases List.mem_cons.1 hy with rfl | hy; omega; exact HB.out y hy); have R4 := Lib.hid hr4; clear ho4 hr4))
      exact gives_leafe (zs := 7 :: zs) (c := c4) F.out rfl rfl rfl S4.out R4.out (fun h0 => by obtain ⟨b, off, e, hb⟩ := out_off O4.out h0; exact ⟨b, off, e, Nat.lt_of_lt_of_le hlt1 hb⟩) O4.out.nilc rfl (by have := HL.out; simp; omega)
    · have F : Hid (bitsZ zs many = (.node 0 [] [], 1)) := by rw [BQ.out, if_pos (by simpa using hx)]; exact Lib.hid rfl
      have tx : (x % 128 != 0) = true := by simpa using hx
      clear BQ
      have RN := Lib.hid (Row.nil w0.drew)
      have S4 := Lib.hid (S0.out.go (Ext.drew (Ext.refl w0)))
      refine wp_region_ord Ext Ext.refl (fun _ _ _ => Ext.trans) ((0, false) :: (1, false) :: (2, false) :: (3, false) :: (4, false) :: (5, false) :: (6, false) :: (7, false) :: (8, false) :: (9, false) :: (10, false) :: (11, false) :: (12, false) :: (13, false) :: (14, false) :: []) (by kernel_rfl) (by kernel_rfl) rfl (by kernel_rfl) (fun _ _ _ _ _ h => h) ?_
      repeat (first | (refine ord_take _ rfl (by rfl) (fun W hW => by go_simp; first | done | rfl) ?_; simp only [Act.put, List.setIfInBounds_toArray, List.set_cons_zero, List.set_cons_succ]) | (refine ord_skip rfl (by rfl) ?_; simp only [Act.put, List.setIfInBounds_toArray, List.set_cons_zero, List.set_cons_succ]))
      refine ord_end ?_
      clear l0
      generalize w0.drew = w1 at S4 RN ⊢
      obtain ⟨p0, p1, p2, f0, f1, f2⟩ := S4.out.box.six
      go_wp2_with fail
      exact gives_leafe (zs := []) (c := 0) F.out rfl rfl rfl S4.out (RN.out _) (fun h => absurd h (by simp)) (fun _ => rfl) rfl (by simp)

end Go.Proofs.YtjhffnoddhlikaaDoor

namespace Go.Proofs.YtjhffnoddhlikaaDoor
open Go.RowKit
set_option linter.unusedVariables false

theorem bits_kids (zs : List Int) (many : Int) : (bitsZ zs many).1.kids = [] := by
  unfold bitsZ
  split
  · split <;> rfl
  · rfl
/-- A world goes on from another one but for what is newer than B. -/
def ExtB (B : Nat) (a b : World) : Prop := Below B a b
theorem ExtB.refl (B : Nat) (w : World) : ExtB B w w := Below.refl _ _
theorem ExtB.trans {B : Nat} (a b c : World) (h : ExtB B a b) (k : ExtB B b c) : ExtB B a c := Below.trans h k
theorem ExtB.both {B : Nat} {a b : World} (h : Below B a b) : ExtB B a.drew b.drew := ⟨h.os, h.tape, h.output, h.size, h.block⟩
theorem alloc_both (w : World) (o o' : Obj) : Below w.heap.size (w.alloc o) (w.alloc o') := ⟨rfl, rfl, rfl, by simp, fun g hg => (Below.heap_alloc w o' g hg).trans (Below.heap_alloc w o g hg).symm⟩
theorem cell_laterB {wr : World} {b o : Nat} {v : Value} (h : wr.cell? ⟨b, o, none⟩ = some v) : ∀ W, ExtB wr.heap.size wr.drew W → W.cell? ⟨b, o, none⟩ = some v := by
  intro W hW
  have hb : b < wr.heap.size := by
    rcases Nat.lt_or_ge b wr.heap.size with h' | h'
    · exact h'
    · simp [World.cell?, Array.getElem?_eq_none h'] at h
  exact (Below.cell hW (p := ⟨b, o, none⟩) hb).trans h
/-- The closure: its variable's cell holds the number of bits. -/
theorem of1_any (a : Option Addr) (n ca : Nat) (zs : List Int) (many : Int) (p : Addr) (w : World) (hr : Row w a n zs) (hn : n ≤ 100000) (hnil : a = none → ca = 0) (hwf : (Lit.int .i64 many).wf = true) (hp : w.cell? p = some (.int .i64 many)) (hpl : p.block < w.heap.size) : Calls Tryd.prog 59 #[.slice a n ca, .pointer (some p)] w (GivesNodeE (bitsZ zs many) w) := by
  have S0 := Lib.hid (RB.start w)
  have CI := Lib.hid (bits_any a n ca zs many _ (hr.below S0.out.below) hn hnil hwf)
  have hp1 := (S0.out.below.cell (p := p) hpl).trans hp
  clear hr hnil hwf hp
  generalize bitsZ zs many = X at *
  go_enter Tryd.func59, Tryd.ntmps59
  go_wp2_with fail
  refine CI.out.mono ?_
  rintro e w3 ⟨A, n3, c3, K, m3, d3, rfl, hin, hb3⟩
  have S3 := Lib.hid (S0.out.go hb3)
  have IN := Lib.hid hin
  have W2 := Lib.hid (S0.out.box.lt)
  obtain ⟨p0, p1, p2, f0, f1, f2⟩ := S3.out.box.six
  clear hin hb3 CI hp1
  go_wp2_with fail
  exact gives_copye (x := X) rfl rfl rfl rfl S3.out IN.out W2.out

/-- Of's answer, told by what is encoded again. -/
theorem of_is (t : T) (hby : ∀ x ∈ t.body, 0 ≤ x ∧ x ≤ 255) : ofZ t = if t.body = [] then ([], 0, 2) else if okE (bitsZ (t.body.drop 1) (8 * ((t.body.drop 1).length : Int) - t.body[(0 : Nat)]?.getD 0)) t = true then (t.body.drop 1, 8 * ((t.body.drop 1).length : Int) - t.body[(0 : Nat)]?.getD 0, 0) else ([], 0, 2) := by
  by_cases h0 : t.body = []
  · rw [if_pos h0]
    exact if_pos (.inl h0)
  rw [if_neg h0]
  have x0 : 0 ≤ t.body[(0 : Nat)]?.getD 0 := by
    rw [List.getElem?_eq_getElem (List.length_pos_iff.2 h0)]
    exact (hby _ (List.getElem_mem _)).1
  unfold ofZ
  by_cases h7 : 7 < t.body[(0 : Nat)]?.getD 0
  · rw [if_pos (.inr h7), if_neg]
    intro h
    have h2 := ((ok_iff _ _).1 h).1
    unfold bitsZ at h2
    have hn : ¬ FitBits (t.body.drop 1) (8 * ((t.body.drop 1).length : Int) - t.body[(0 : Nat)]?.getD 0) := by unfold FitBits; omega
    rw [if_neg hn] at h2
    cases h2
  · rw [if_neg (by rintro (h | h); exact h0 h; exact h7 h)]
    have hk : ∀ (X : T × Int), (okE X t = true) ↔ (X.2 = 0 ∧ sameT X.1 t = true) := fun X => by unfold okE; rw [decide_eq_true_iff]
    generalize bitsZ (t.body.drop 1) (8 * ((t.body.drop 1).length : Int) - t.body[(0 : Nat)]?.getD 0) = X
    by_cases h : okE X t = true
    · rw [if_pos h, if_pos ((hk X).1 h)]
    · rw [if_neg h, if_neg (fun k => h ((hk X).2 k))]

set_option maxHeartbeats 4000000 in
set_option maxRecDepth 100000 in
theorem of_any (t : T) (v : Value) (w : World) (hin : t.In w v) (hcap : Capped v) (hwt : t.body.length ≤ 30000) : Calls Tryd.prog 27 #[v] w (GivesOf (ofZ t) w) := by
  obtain ⟨A, n, c, K, m, d, rfl, hw, hr, hn, hc, hm, hm', hks⟩ := hin.open
  have hnc := hcap.is
  have BX := Lib.hid (Box.start hin)
  have GZ := Lib.hid (of_is t hr.2.1)
  have HL := Lib.hid hr.1
  have R0 := Lib.hid (hr.below BX.out.below)
  have HB := Lib.hid hr.2.1
  obtain ⟨g0, g1, g2⟩ := BX.out.cells
  have hln := hr.1
  clear hks hin hcap hm hm' hw hn hr
  go_enter Tryd.func27, Tryd.ntmps27
  generalize hw2 : w.alloc (.cells #[.int .i64 t.tag, .slice A n c, .slice K m d] 26) = w2 at *
  by_cases hn0 : n = 0
  · have F : Hid (ofZ t = ([], 0, 2)) := by rw [GZ.out]; exact if_pos (List.eq_nil_of_length_eq_zero (by omega))
    subst hn0
    go_wp2_with fail
    go_ret3
    exact gives_of_no F.out BX.out.below
  have GX : Hid (ofZ t = if okE (bitsZ (t.body.drop 1) (8 * ((t.body.drop 1).length : Int) - t.body[(0 : Nat)]?.getD 0)) t = true then (t.body.drop 1, 8 * ((t.body.drop 1).length : Int) - t.body[(0 : Nat)]?.getD 0, 0) else ([], 0, 2)) := by
    rw [GZ.out]
    exact if_neg (fun h => hn0 (by rw [← hln, h]; rfl))
  obtain ⟨b, off, rfl, hbl, hcell⟩ := R0.out.2.2 (by omega)
  have c0 := hcell 0 (by omega)
  rw [Nat.add_zero] at c0
  have z0 := R0.out.byte 0
  have hlt2 : w.heap.size < w2.heap.size := BX.out.blk.lt
  have RW := R0.out.rest 1 c (by omega) hnc
  have hrl : (t.body.drop 1).length = n - 1 := by rw [List.length_drop]; omega
  have BY := Lib.hid (fun y (hy : y ∈ t.body.drop 1) => HB.out y (List.mem_of_mem_drop hy))
  clear hcell GZ HB
  generalize t.body[(0 : Nat)]?.getD 0 = x at *
  generalize t.body.drop 1 = r at *
  obtain ⟨k, rfl⟩ : ∃ k, n = k + 1 := ⟨n - 1, by omega⟩
  have hrk : r.length = k := by omega
  clear hn0 hrl hln
  subst hrk
  have hrb : r.length ≤ 30000 := by have := HL.out; omega
  have KX := Lib.hid (bits_kids r (8 * (r.length : Int) - x))
  have t0 : ((r.length : Int) + 1 == 0) = false := by simp; omega
  have w1 : IntKind.i64.wrap (r.length : Int) = (r.length : Int) := IntWalk.i64_in _ (by omega)
  have w8 : IntKind.i64.wrap (8 * (r.length : Int)) = 8 * (r.length : Int) := IntWalk.i64_in _ (by omega)
  have wx : IntKind.i64.wrap x = x := IntWalk.i64_in _ (by omega)
  have wm : IntKind.i64.wrap (8 * (r.length : Int) - x) = 8 * (r.length : Int) - x := IntWalk.i64_in _ (by omega)
  have WF := Lib.hid (wf_wrap .i64 (8 * (r.length : Int) - x))
  rw [wm] at WF
  have kk : 0 < r.length + 1 := by omega
  have kz : (1 : Int) ≤ (r.length : Int) + 1 := by omega
  obtain ⟨A1, hA1⟩ : ∃ A1 : Option Addr, (if c = 1 then some (⟨b, off, none⟩ : Addr) else some ⟨b, off + 1, none⟩) = A1 := ⟨_, rfl⟩
  rw [Option.map_some, Addr.add_lit, hA1] at RW
  have N1 : Hid (A1 = none → c - 1 = 0) := Lib.hid (fun e => by rw [← hA1] at e; split at e <;> cases e)
  have R1 : Hid (Row w2 A1 r.length r) := Lib.hid (by simpa using RW)
  clear RW
  go_wp2_with fail
  clear hw2
  have m0 := cell_laterB c0
  have m1 := cell_laterB g1
  refine wp_region_ord (ExtB w2.heap.size) (ExtB.refl _) ExtB.trans ((0, false) :: (1, false) :: (2, false) :: (3, false) :: (4, false) :: (5, false) :: (6, false) :: (7, false) :: (8, false) :: (9, false) :: (10, false) :: (11, true) :: (12, true) :: []) (by kernel_rfl) (by kernel_rfl) rfl (by kernel_rfl) (fun _ _ _ _ _ h => h) ?_
  repeat (refine ord_take _ rfl (by rfl) (fun W hW => by go_simp; first | done | rfl) ?_; simp only [Act.put, List.setIfInBounds_toArray, List.set_cons_zero, List.set_cons_succ])
  clear m0 m1
  refine ord_sole rfl (by rfl) (fun K1 hK1 => ?_)
  go_simp
  refine hK1 _ _ (ExtB.both ((Below.refl _ _).alloc (Nat.le_refl _) _)) ?_
  clear hK1 K1
  refine ord_sole rfl (by rfl) (fun K1 hK1 => ?_)
  go_simp
  refine hK1 _ _ (ExtB.both (alloc_both _ _ _)) ?_
  clear hK1 K1
  refine ord_end ?_
  have E3 : Hid (Ext w2 (w2.alloc (.cells #[.int .i64 (8 * (r.length : Int) - x)] 3)).drew) := Ext.drew ((Below.refl _ _).alloc (Nat.le_refl _) _)
  have cp : (w2.alloc (.cells #[.int .i64 (8 * (r.length : Int) - x)] 3)).drew.cell? ⟨w2.heap.size, 0, none⟩ = some (.int .i64 (8 * (r.length : Int) - x)) := (Blk.new w2 3 #[.int .i64 (8 * (r.length : Int) - x)]).cell 0
  have hl3 : w2.heap.size < (w2.alloc (.cells #[.int .i64 (8 * (r.length : Int) - x)] 3)).drew.heap.size := by
    show w2.heap.size < (w2.alloc (.cells #[.int .i64 (8 * (r.length : Int) - x)] 3)).heap.size
    simp
  generalize (w2.alloc (.cells #[.int .i64 (8 * (r.length : Int) - x)] 3)).drew = w3 at *
  have B3 := Lib.hid (BX.out.go E3.out)
  have R3 := Lib.hid (R1.out.below E3.out)
  clear g0 g1 g2 BX R1 R0 E3 c0
  obtain ⟨g0, g1, g2⟩ := B3.out.cells
  go_wp2_with fail
  obtain ⟨l0, l1, l2⟩ := B3.out.laters
  have hmf : ∀ (fn : Fn) (first cap : Array Value) (w : World), (Instr.makeFunc fn first cap).run Tryd.prog w = .ok (.func fn first cap) w := fun _ _ _ _ => rfl
  refine wp_region_ord Ext Ext.refl (fun _ _ _ => Ext.trans) ((0, false) :: (1, false) :: (2, false) :: (3, false) :: (5, false) :: (4, true) :: (6, true) :: (7, false) :: (8, false) :: (9, false) :: (10, false) :: (11, false) :: []) (by kernel_rfl) (by kernel_rfl) rfl (by kernel_rfl) (fun _ _ _ _ _ h => h) ?_
  repeat (refine ord_take _ rfl (by rfl) (fun W hW => by go_simp; first | done | rfl) ?_; simp only [Act.put, List.setIfInBounds_toArray, List.set_cons_zero, List.set_cons_succ])
  clear l0 l1 l2
  refine ord_sole rfl (by rfl) (fun K1 hK1 => ?_)
  go_simp
  refine (clone_any A1 r.length (c - 1) r w3.drew R3.out (by omega) (by omega) N1.out).mono ?_
  rintro e w4 ⟨b4, c4, rfl, hr4, hn4, hc4, hb4⟩
  have E4 : Hid (Ext w3 w4) := Ext.of_drew hb4
  refine hK1 _ _ hb4 ?_
  clear hK1 K1 hb4
  have B4 := Lib.hid (B3.out.go E4.out)
  have R4 := Lib.hid hr4
  have N4 := Lib.hid hn4
  have cp4 := (E4.out.cell (p := ⟨w2.heap.size, 0, none⟩) hl3).trans cp
  have hl4 : w2.heap.size < w4.heap.size := Nat.lt_of_lt_of_le hl3 E4.out.size
  clear hr4 hn4 E4 cp hl3 B3 R3 g0 g1 g2
  have CX := Lib.hid (exact_of t _ w4 (bitsZ r (8 * (r.length : Int) - x)) b4 r.length c4 ⟨w2.heap.size, 0, none⟩ KX.out B4.out.has (fun W hW => (of1_any b4 _ c4 r _ _ W (R4.out.below hW) (by omega) N4.out WF.out ((hW.cell (p := ⟨w2.heap.size, 0, none⟩) hl4).trans cp4) (Nat.lt_of_lt_of_le hl4 hW.size)).mono fun e w' h => h.has))
  refine ord_sole rfl (by rfl) (fun K1 hK1 => ?_)
  go_simp
  refine CX.out.mono ?_
  intro e w5 h5
  clear CX
  rcases h5.ways with ⟨hok, rfl, hb5⟩ | ⟨hok, rfl, hb5⟩
  · have F : Hid (ofZ t = (r, 8 * (r.length : Int) - x, 0)) := by
      rw [GX.out, if_pos hok]
      exact Lib.hid rfl
    refine hK1 _ _ hb5 ?_
    have B5 := Lib.hid (B4.out.go hb5)
    have R5 := Lib.hid (R4.out.below hb5)
    have cp5 := (hb5.cell (p := ⟨w2.heap.size, 0, none⟩) hl4).trans cp4
    clear hK1 K1 hok hb5 h5 GX cp4
    repeat (refine ord_take _ rfl (by rfl) (fun W hW => by go_simp; first | done | rfl) ?_; simp only [Act.put, List.setIfInBounds_toArray, List.set_cons_zero, List.set_cons_succ])
    refine ord_end ?_
    go_wp2
    go_quiet (fail)
    go_wp2
    go_ret3
    rw [F.out]
    exact ⟨b4, c4, rfl, R5.out, N4.out, hc4, Below.step B5.out.below (drewN_below w5 _)⟩
  · have F : Hid (ofZ t = ([], 0, 2)) := by
      rw [GX.out, if_neg (by rw [hok]; simp)]
      exact Lib.hid rfl
    refine hK1 _ _ hb5 ?_
    have B5 := Lib.hid (B4.out.go hb5)
    clear hK1 K1 hok hb5 h5 GX cp4
    repeat (refine ord_take _ rfl (by rfl) (fun W hW => by go_simp; first | done | rfl) ?_; simp only [Act.put, List.setIfInBounds_toArray, List.set_cons_zero, List.set_cons_succ])
    refine ord_end ?_
    go_wp2_with fail
    go_ret3
    exact gives_of_no F.out B5.out.below

end Go.Proofs.YtjhffnoddhlikaaDoor
