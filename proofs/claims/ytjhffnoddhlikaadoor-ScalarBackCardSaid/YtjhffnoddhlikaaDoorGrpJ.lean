/-
  Merged texts (stage 5): Pk13, Pk15.
-/
import Derived.Test.YtjhffnoddhlikaaDoorGrpG
namespace Go.Proofs.YtjhffnoddhlikaaDoor
open Go.RowKit
set_option linter.unusedVariables false

/-! ### Plain -/
def stepW (x z : Int) : Int := x % 33554432 * 128 + z % 128
def arcsW : List Int → Int → List Int → List Int
  | [], _, l => l
  | z :: r, x, l =>
    if 128 ≤ z then arcsW r (stepW x z) l
    else if l = [] then arcsW r 0 [firstZ (stepW x z), stepW x z - 40 * firstZ (stepW x z)]
    else arcsW r 0 (l ++ [stepW x z])
theorem stepW_range (x z : Int) : 0 ≤ stepW x z ∧ stepW x z ≤ 4294967295 := by unfold stepW; omega
theorem firstZ_range {y : Int} (h : 0 ≤ y) : 0 ≤ firstZ y ∧ firstZ y ≤ 2 ∧ 0 ≤ y - 40 * firstZ y := by
  unfold firstZ
  split <;> omega
theorem stepW_back {n : Nat} (h : n < 2 ^ 32) : stepW (((n / 128 / 128 : Nat) : Int)) (((n / 128 % 128 : Nat) : Int) + 128) = ((n / 128 : Nat) : Int) := by unfold stepW; omega
theorem stepW_last {n : Nat} (h : n < 2 ^ 32) : stepW (((n / 128 : Nat) : Int)) ((n % 128 : Nat) : Int) = (n : Int) := by unfold stepW; omega
theorem arcsW_sev (n : Nat) : ∀ (acc r l : List Int), n < 2 ^ 32 → arcsW (sevN n acc ++ r) 0 l = arcsW (acc ++ r) ((n / 128 : Nat) : Int) l := by
  induction n using Nat.strongRecOn with
  | ind n ih =>
    intro acc r l hn
    by_cases h : 128 ≤ n
    · rw [sevN_more h, ih (n / 128) (by omega) _ r l (by omega), List.cons_append, arcsW, if_pos (by omega), stepW_back hn]
    · rw [sevN_end h, show n / 128 = 0 by omega]
      rfl
theorem arcsW_seven (n : Nat) (r l : List Int) (hn : n < 2 ^ 32) : arcsW (sevenN n ++ r) 0 l =
    if l = [] then arcsW r 0 [firstZ n, (n : Int) - 40 * firstZ n] else arcsW r 0 (l ++ [(n : Int)]) := by
  unfold sevenN
  rw [arcsW_sev n _ r l hn, List.cons_append, arcsW, if_neg (by omega), stepW_last hn]
  rfl
theorem arcsW_sevens (ys : List Int) : ∀ l : List Int, l ≠ [] → (∀ y ∈ ys, 0 ≤ y ∧ y ≤ 4294967295) → arcsW (sevens ys) 0 l = l ++ ys := by
  induction ys with
  | nil => intro l _ _; simp [sevens, arcsW]
  | cons y ys ih =>
    intro l hl hy
    obtain ⟨y0, y1⟩ := hy y (List.mem_cons_self ..)
    obtain ⟨n, rfl⟩ := Int.eq_ofNat_of_zero_le y0
    rw [show sevens ((n : Int) :: ys) = sevenN n ++ sevens ys by simp [sevens], arcsW_seven n _ _ (by omega), if_neg hl, ih _ (by simp) (fun z hz => hy z (List.mem_cons_of_mem _ hz))]
    simp
theorem arcsW_oid (zs : List Int) (h : OidOk zs) (hy : ∀ y ∈ zs, 0 ≤ y ∧ y ≤ 4294967295) : arcsW (oidB zs) 0 [] = zs := by
  obtain ⟨h2, h20, hp, hq, hpq⟩ := h
  match zs, h2 with
  | p :: q :: r, _ =>
    simp only [List.getElem?_cons_zero, List.getElem?_cons_succ, Option.getD_some] at hp hq hpq
    obtain ⟨p0, _⟩ := hy p (by simp)
    obtain ⟨q0, _⟩ := hy q (by simp)
    have e : (((40 * p + q).toNat : Nat) : Int) = 40 * p + q := by omega
    unfold oidB
    simp only [List.getElem?_cons_zero, List.getElem?_cons_succ, Option.getD_some, List.drop_succ_cons, List.drop_zero]
    rw [arcsW_seven _ _ _ (by omega), if_pos rfl, e, first_is p0 q0 hp hpq, show 40 * p + q - 40 * p = q by omega, arcsW_sevens r _ (by simp) (fun y hy' => hy y (by simp [hy']))]
    rfl
theorem arcsZ_range (zs : List Int) : ∀ (x : Int) (l l' : List Int), 0 ≤ x → (∀ y ∈ l, 0 ≤ y ∧ y ≤ 4294967295) → arcsZ zs x l = some l' → ∀ y ∈ l', 0 ≤ y ∧ y ≤ 4294967295 := by
  induction zs with
  | nil =>
    intro x l l' _ hl h
    rw [arcsZ] at h
    injection h with h
    subst h
    exact hl
  | cons z r ih =>
    intro x l l' hx hl h
    rw [arcsZ] at h
    have hs : 0 ≤ stepZ x z := by unfold stepZ; omega
    have hf := firstZ_range hs
    split at h
    · exact ih _ _ _ hs hl h
    · split at h
      · split at h
        · cases h
        · rename_i hc
          refine ih _ _ _ (by omega) ?_ h
          intro y hy
          simp only [List.mem_cons, List.not_mem_nil, or_false] at hy
          omega
      · split at h
        · cases h
        · rename_i hc
          refine ih _ _ _ (by omega) ?_ h
          intro y hy
          rcases List.mem_append.1 hy with hy | hy
          · exact hl y hy
          · simp only [List.mem_cons, List.not_mem_nil, or_false] at hy
            omega
theorem arcsW_range (zs : List Int) : ∀ (x : Int) (l : List Int), (∀ y ∈ l, 0 ≤ y ∧ y ≤ 4294967295) → ∀ y ∈ arcsW zs x l, 0 ≤ y ∧ y ≤ 4294967295 := by
  induction zs with
  | nil => intro x l hl; rw [arcsW]; exact hl
  | cons z r ih =>
    intro x l hl
    rw [arcsW]
    have hs := stepW_range x z
    have hf := firstZ_range hs.1
    split
    · exact ih _ _ hl
    · split
      · refine ih _ _ ?_
        intro y hy
        simp only [List.mem_cons, List.not_mem_nil, or_false] at hy
        omega
      · refine ih _ _ ?_
        intro y hy
        rcases List.mem_append.1 hy with hy | hy
        · exact hl y hy
        · simp only [List.mem_cons, List.not_mem_nil, or_false] at hy
          omega
theorem oid_ok {l : List Int} (h : (oidZ l).2 = 0) : OidOk l ∧ (oidZ l).1 = .node 6 (oidB l) [] := by
  unfold oidZ at h ⊢
  split at h
  · rename_i c
    rw [if_pos c]
    exact ⟨c, rfl⟩
  · cases h
/-- Arcs' answer, told by what is encoded again. -/
theorem arcs_is (t : T) : arcsR t = if okE (oidZ (arcsW t.body 0 [])) t = true then (arcsW t.body 0 [], 0) else ([], 2) := by
  have hr := arcsW_range t.body 0 [] (by simp)
  by_cases h : okE (oidZ (arcsW t.body 0 [])) t = true
  · rw [if_pos h]
    obtain ⟨h1, h2⟩ := (ok_iff _ _).1 h
    obtain ⟨h3, h4⟩ := oid_ok h1
    generalize arcsW t.body 0 [] = l at *
    rw [← h2, h4]
    exact arcs_back l h3 hr
  · rw [if_neg h]
    unfold arcsR
    split
    · rfl
    · rename_i l hl
      split
      · rename_i c
        exfalso
        have hb := arcsZ_range t.body 0 [] l (by omega) (by simp) hl
        obtain ⟨h3, h4⟩ := oid_ok c.1
        have ht : (oidZ l).1 = t := same_is _ _ c.2
        have hw : arcsW t.body 0 [] = l := by
          rw [← ht, h4]
          exact arcsW_oid l h3 hb
        rw [hw] at h
        exact h ((ok_iff _ _).2 ⟨c.1, ht⟩)
      · rfl
theorem or7 {x y : Int} (h0 : 0 ≤ x) (h1 : x ≤ 4294967295) (y0 : 0 ≤ y) (y1 : y < 128) : bits .or .u32 (IntKind.u32.wrap (x * 128)) y = x % 33554432 * 128 + y := by
  have e : IntKind.u32.wrap (x * 128) = x % 33554432 * 128 := by rw [IntKind.wrap_u32]; omega
  rw [e]
  exact bits_join .u32 32 (by decide) (fun n h0 h1 => IntWalk.u32_in _ (by omega)) 7 _ _ (by omega) (by omega) (by omega) y0 (by omega) (by omega)

end Go.Proofs.YtjhffnoddhlikaaDoor

namespace Go.Proofs.YtjhffnoddhlikaaDoor
open Go.RowKit
set_option linter.unusedVariables false

theorem or7' {x y : Int} (h0 : 0 ≤ x) (h1 : x ≤ 4294967295) (y0 : 0 ≤ y) (y1 : y < 128) : bits .or .u32 (x * 128 % 4294967296) y = x % 33554432 * 128 + y := by
  rw [← or7 h0 h1 y0 y1, IntKind.wrap_u32]
theorem and128_is (x : Int) (h0 : 0 ≤ x) (h1 : x ≤ 255) : bits .and .u8 x 128 = if x < 128 then 0 else 128 := by
  have := and128_all ⟨x.toNat, by omega⟩
  rw [show ((⟨x.toNat, by omega⟩ : Fin 256).val : Int) = x by simp; omega] at this
  rw [this]
  by_cases h : x < 128
  · rw [if_pos h, if_pos (by simp; omega)]
  · rw [if_neg h, if_neg (by simp; omega)]

set_option maxHeartbeats 4000000 in
set_option maxRecDepth 100000 in
theorem arcsOf_any (a : Option Addr) (n ca : Nat) (zs : List Int) (w : World) (hr : Row w a n zs) (hn : n ≤ 100000) : Calls Tryd.prog 57 #[.slice a n ca] w fun e w' => ∃ V, e = .returned V ∧ Out32 w w' V (arcsW zs 0 []) := by
  have R0 := Lib.hid hr
  have HL := Lib.hid hr.1
  clear hr
  go_enter Tryd.func57, Tryd.ntmps57
  go_wp2_with fail
  go_loopw [3, 4, 10] (fun V u i wr => ∃ (k : Nat) (x : Int) (L : List Int), k ≤ n ∧ i = .int .i64 (k : Int) ∧ u = .int .u32 x ∧ 0 ≤ x ∧ x ≤ 4294967295 ∧ Out32 w wr V L ∧ (∀ y ∈ L, 0 ≤ y ∧ y ≤ 4294967295) ∧ L.length ≤ 2 * k ∧ arcsW (zs.drop k) x L = arcsW zs 0 []) (fun _ _ i _ => n - (intOf i).toNat)
  case atStart => exact ⟨0, 0, [], by omega, rfl, rfl, by omega, by omega, out_none32 _, by simp, by simp, rfl⟩
  case round =>
    obtain ⟨k, x, L, hk, rfl, rfl, hx0, hx1, ho, hby, hll, hs⟩ := hrel
    have HB := Lib.hid hby
    obtain ⟨aV, cV, rfl, hrV⟩ := ho.row hby
    have HO := Lib.hid ho
    have HS := Lib.hid hs
    clear ho hs hby hrV
    by_cases hlt : k < n
    · obtain ⟨b, off, rfl, hbl, hcell⟩ := (R0.out.below HO.out.2).2.2 (by omega)
      have ck := hcell k hlt
      have xk := R0.out.byte k
      have ST : Hid (zs.drop k = zs[k]?.getD 0 :: zs.drop (k + 1)) := by rw [List.drop_eq_getElem_cons (by rw [HL.out]; exact hlt), List.getElem?_eq_getElem (by rw [HL.out]; exact hlt)]; exact Lib.hid rfl
      clear hcell hbl
      generalize zs[k]?.getD 0 = z at *
      have kk : (k : Int) < (n : Int) := by omega
      have SR := stepW_range x z
      have e1 : bits .andNot .u8 z 128 = z % 128 := andNot128_is z xk.1 xk.2
      have e2 : bits .or .u32 (x * 128 % 4294967296) (z % 128) = stepW x z := or7' hx0 hx1 (by omega) (by omega)
      have EA := and128_is z xk.1 xk.2
      by_cases h128 : 128 ≤ z
      · have N : Hid (arcsW (zs.drop (k + 1)) (stepW x z) L = arcsW zs 0 []) := by rw [← HS.out, ST.out, arcsW, if_pos h128]; exact Lib.hid rfl
        rw [if_neg (by omega)] at EA
        clear HS ST
        generalize stepW x z = y at *
        go_wp2_with fail
        go_roundw
        case rel => exact ⟨k + 1, y, L, by omega, by go_num, rfl, SR.1, SR.2, HO.out, HB.out, by omega, N.out⟩
        case measure => simp [intOf]; omega
      · have hlt128 : z < 128 := by omega
        rw [if_pos (by omega)] at EA
        by_cases hL : L = []
        · subst hL
          have N : Hid (arcsW (zs.drop (k + 1)) 0 [firstZ (stepW x z), stepW x z - 40 * firstZ (stepW x z)] = arcsW zs 0 []) := by rw [← HS.out, ST.out, arcsW, if_neg h128, if_pos rfl]; exact Lib.hid rfl
          have FR := firstZ_range SR.1
          clear HS ST h128
          generalize stepW x z = y at *
          by_cases hf : 2 < y / 40
          · have FZ : firstZ y = 2 := if_pos hf
            have N2 : Hid (arcsW (zs.drop (k + 1)) 0 [2, y - 80] = arcsW zs 0 []) := by have := N.out; rw [FZ] at this; exact this
            have em : min (y / 40) 2 = 2 := by omega
            clear N FZ FR
            have hq0 : (0 : Int) ≤ y - 80 ∧ y - 80 ≤ 4294967295 := by omega
            have hp0 : (0 : Int) ≤ 2 ∧ 2 ≤ 4294967295 := by omega
            have O1 := Lib.hid (HO.out.below ((Below.refl wr.heap.size wr).alloc (Nat.le_refl _) (.cells #[.int .u32 (2)] 60)))
            have R1 := Lib.hid (row32_const wr [2] (by intro u hu; simp only [List.mem_cons, List.not_mem_nil, or_false] at hu; omega))
            go_wp2_with (at_builtin; first
              | (refine out_append32 (W0 := w) (L := []) (zs := [2]) rfl _ _ rfl rfl O1.out rfl R1.out (fun e => by cases e) (by simp) ?_; intro V4 w4 ho4; rw [List.nil_append] at ho4; have O5 := Lib.hid (ho4.below ((Below.refl w4.heap.size w4).alloc (Nat.le_refl _) (.cells #[.int .u32 (y - 80)] 60))); have R5 := Lib.hid (row32_const w4 [y - 80] (by intro u hu; simp only [List.mem_cons, List.not_mem_nil, or_false] at hu; omega)); clear ho4)
              | (refine out_append32 (W0 := w) (L := [2]) (zs := [y - 80]) rfl _ _ rfl rfl O5.out rfl R5.out (fun e => by cases e) (by simp) ?_; intro V6 w6 ho6; have O6 := Lib.hid ho6; clear ho6))
            go_roundw
            case rel => exact ⟨k + 1, 0, [2, y - 80], by omega, by go_num, rfl, by omega, by omega, O6.out, (by intro u hu; simp only [List.mem_cons, List.not_mem_nil, or_false] at hu; omega), by simp; omega, N2.out⟩
            case measure => simp [intOf]; omega
          · have FZ : firstZ y = y / 40 := if_neg hf
            have N2 : Hid (arcsW (zs.drop (k + 1)) 0 [y / 40, y - 40 * (y / 40)] = arcsW zs 0 []) := by have := N.out; rw [FZ] at this; exact this
            rw [FZ] at FR
            have em : min (y / 40) 2 = y / 40 := by omega
            clear N FZ
            have hq0 : (0 : Int) ≤ y - 40 * (y / 40) ∧ y - 40 * (y / 40) ≤ 4294967295 := by omega
            have hp0 : (0 : Int) ≤ y / 40 ∧ y / 40 ≤ 4294967295 := by omega
            have O1 := Lib.hid (HO.out.below ((Below.refl wr.heap.size wr).alloc (Nat.le_refl _) (.cells #[.int .u32 (y / 40)] 60)))
            have R1 := Lib.hid (row32_const wr [y / 40] (by intro u hu; simp only [List.mem_cons, List.not_mem_nil, or_false] at hu; omega))
            go_wp2_with (at_builtin; first
              | (refine out_append32 (W0 := w) (L := []) (zs := [y / 40]) rfl _ _ rfl rfl O1.out rfl R1.out (fun e => by cases e) (by simp) ?_; intro V4 w4 ho4; rw [List.nil_append] at ho4; have O5 := Lib.hid (ho4.below ((Below.refl w4.heap.size w4).alloc (Nat.le_refl _) (.cells #[.int .u32 (y - 40 * (y / 40))] 60))); have R5 := Lib.hid (row32_const w4 [y - 40 * (y / 40)] (by intro u hu; simp only [List.mem_cons, List.not_mem_nil, or_false] at hu; omega)); clear ho4)
              | (refine out_append32 (W0 := w) (L := [y / 40]) (zs := [y - 40 * (y / 40)]) rfl _ _ rfl rfl O5.out rfl R5.out (fun e => by cases e) (by simp) ?_; intro V6 w6 ho6; have O6 := Lib.hid ho6; clear ho6))
            go_roundw
            case rel => exact ⟨k + 1, 0, [y / 40, y - 40 * (y / 40)], by omega, by go_num, rfl, by omega, by omega, O6.out, (by intro u hu; simp only [List.mem_cons, List.not_mem_nil, or_false] at hu; omega), by simp; omega, N2.out⟩
            case measure => simp [intOf]; omega
        · have N : Hid (arcsW (zs.drop (k + 1)) 0 (L ++ [stepW x z]) = arcsW zs 0 []) := by rw [← HS.out, ST.out, arcsW, if_neg h128, if_neg hL]; exact Lib.hid rfl
          have t0 : ((L.length : Int) == 0) = false := by simpa using hL
          clear HS ST h128 hL
          generalize stepW x z = y at *
          have O1 := Lib.hid (HO.out.below ((Below.refl wr.heap.size wr).alloc (Nat.le_refl _) (.cells #[.int .u32 y] 60)))
          have R1 := Lib.hid (row32_const wr [y] (by intro u hu; simp only [List.mem_cons, List.not_mem_nil, or_false] at hu; omega))
          go_wp2_with (at_builtin; go_must (refine out_append32 (W0 := w) (L := L) (zs := [y]) rfl _ _ rfl rfl O1.out rfl R1.out (fun e => by cases e) (by omega) ?_; intro V4 w4 ho4; have O6 := Lib.hid ho4; clear ho4))
          go_roundw
          case rel => exact ⟨k + 1, 0, L ++ [y], by omega, by go_num, rfl, by omega, by omega, O6.out, (by intro u hu; rcases List.mem_append.1 hu with hu | hu; exact HB.out u hu; simp only [List.mem_cons, List.not_mem_nil, or_false] at hu; omega), by simp; omega, N.out⟩
          case measure => simp [intOf]; omega
    · have F : Hid (arcsW zs 0 [] = L) := by
        rw [← HS.out, List.drop_of_length_le (by rw [HL.out]; omega), arcsW]
        exact Lib.hid rfl
      clear HS
      go_wp2_with fail
      go_ret
      exact ⟨_, rfl, by rw [F.out]; exact HO.out⟩

theorem arcsW_len (zs : List Int) : ∀ (x : Int) (l : List Int), (arcsW zs x l).length ≤ l.length + 2 * zs.length := by
  induction zs with
  | nil => intro x l; rw [arcsW]; omega
  | cons z r ih =>
    intro x l
    rw [arcsW, List.length_cons]
    split
    · have := ih (stepW x z) l; omega
    · split
      · have := ih 0 [firstZ (stepW x z), stepW x z - 40 * firstZ (stepW x z)]
        simp only [List.length_cons, List.length_nil] at this
        omega
      · have := ih 0 (l ++ [stepW x z])
        rw [List.length_append, List.length_singleton] at this
        omega
theorem oid_kids (l : List Int) : (oidZ l).1.kids = [] := by
  unfold oidZ
  split <;> rfl

set_option maxHeartbeats 4000000 in
set_option maxRecDepth 100000 in
theorem arcs_any (t : T) (v : Value) (w : World) (hin : t.In w v) (hwt : t.body.length ≤ 30000) : Calls Tryd.prog 22 #[v] w (GivesArcs (arcsR t) w) := by
  obtain ⟨A, n, c, K, m, d, rfl, hw, hr, hn, hc, hm, hm', hks⟩ := hin.open
  have BX := Lib.hid (Box.start hin)
  have GZ := Lib.hid (arcs_is t)
  have AR := Lib.hid (arcsW_range t.body 0 [] (by simp))
  have KX := Lib.hid (oid_kids (arcsW t.body 0 []))
  have hln := hr.1
  have R0 := Lib.hid (hr.below BX.out.below)
  clear hks hin hm hm' hw hn hr hc
  go_enter Tryd.func22, Tryd.ntmps22
  generalize hw2 : w.alloc (.cells #[.int .i64 t.tag, .slice A n c, .slice K m d] 26) = w2 at *
  go_wp2_with fail
  clear hw2
  obtain ⟨l0, l1, l2⟩ := BX.out.laters
  refine wp_region_ord Ext Ext.refl (fun _ _ _ => Ext.trans) ((0, false) :: (1, false) :: (2, false) :: (3, true) :: (4, true) :: (5, false) :: (6, false) :: (7, false) :: (8, false) :: []) (by kernel_rfl) (by kernel_rfl) rfl (by kernel_rfl) (fun _ _ _ _ _ h => h) ?_
  repeat (refine ord_take _ rfl (by rfl) (fun W hW => by go_simp; first | done | rfl) ?_; simp only [Act.put, List.setIfInBounds_toArray, List.set_cons_zero, List.set_cons_succ])
  clear l0 l1 l2
  have CA := Lib.hid (arcsOf_any A n c t.body w2.drew R0.out (by omega))
  generalize arcsW t.body 0 [] = l at *
  refine ord_sole rfl (by rfl) (fun K1 hK1 => ?_)
  go_simp
  refine CA.out.mono ?_
  rintro e w4 ⟨V, rfl, ho⟩
  have E4 : Hid (Ext w2 w4) := Ext.of_drew ho.2
  refine hK1 _ _ ho.2 ?_
  clear hK1 K1 CA
  have B4 := Lib.hid (BX.out.go E4.out)
  obtain ⟨b4, c4, rfl, hr4⟩ := ho.row AR.out
  have R4 := Lib.hid hr4
  have N4 := Lib.hid ho.nilc
  have hc4 := own_cap32 ho.1
  clear hr4 ho E4 BX R0
  have CX := Lib.hid (exact_u32s t _ w4 (oidZ l) b4 l.length c4 KX.out B4.out.has (fun W hW => (oid_any b4 _ c4 l W (R4.out.below hW) hc4).mono fun e w' h => h.has))
  refine ord_sole rfl (by rfl) (fun K1 hK1 => ?_)
  go_simp
  refine CX.out.mono ?_
  intro e w5 h5
  clear CX
  rcases h5.ways with ⟨hok, rfl, hb5⟩ | ⟨hok, rfl, hb5⟩
  · have F : Hid (arcsR t = (l, 0)) := by
      rw [GZ.out, if_pos hok]
      exact Lib.hid rfl
    refine hK1 _ _ hb5 ?_
    have B5 := Lib.hid (B4.out.go hb5)
    have R5 := Lib.hid (R4.out.below hb5)
    clear hK1 K1 hok hb5 h5 GZ
    repeat (refine ord_take _ rfl (by rfl) (fun W hW => by go_simp; first | done | rfl) ?_; simp only [Act.put, List.setIfInBounds_toArray, List.set_cons_zero, List.set_cons_succ])
    refine ord_end ?_
    go_wp2_with fail
    go_ret2
    rw [F.out]
    exact ⟨b4, c4, rfl, R5.out, N4.out, hc4, B5.out.below⟩
  · have F : Hid (arcsR t = ([], 2)) := by
      rw [GZ.out, if_neg (by rw [hok]; simp)]
      exact Lib.hid rfl
    refine hK1 _ _ hb5 ?_
    have B5 := Lib.hid (B4.out.go hb5)
    clear hK1 K1 hok hb5 h5 GZ
    repeat (refine ord_take _ rfl (by rfl) (fun W hW => by go_simp; first | done | rfl) ?_; simp only [Act.put, List.setIfInBounds_toArray, List.set_cons_zero, List.set_cons_succ])
    refine ord_end ?_
    go_wp2_with fail
    go_ret2
    exact gives_arcs_no F.out B5.out.below

end Go.Proofs.YtjhffnoddhlikaaDoor
