/-
  Merged texts (stage 5): Sc12, Sc13, Sc14, Sc15, NumBack.
-/
import Derived.Test.YtjhffnoddhlikaaDoorGrpD
import Derived.Deep.QuietTactic
import Derived.BigQuiet
namespace Go.Proofs.YtjhffnoddhlikaaDoor
open Go.RowKit
set_option linter.unusedVariables false

theorem seven_int (v : Int) (w : World) (h0 : 0 ≤ v) (h1 : v < 18446744073709551616) : Calls Tryd.prog 55 #[.int .u64 v] w (GivesNew (sevenN v.toNat) w) := by
  obtain ⟨n, rfl⟩ := Int.eq_ofNat_of_zero_le h0
  rw [Int.toNat_natCast]
  exact seven_any n w (by omega)

def OidOk (zs : List Int) : Prop := 2 ≤ zs.length ∧ zs.length ≤ 20 ∧ zs[(0 : Nat)]?.getD 0 ≤ 2 ∧ zs[(1 : Nat)]?.getD 0 ≤ 4294967200 ∧ (zs[(1 : Nat)]?.getD 0 ≤ 39 ∨ zs[(0 : Nat)]?.getD 0 = 2)
instance (zs : List Int) : Decidable (OidOk zs) := by unfold OidOk; infer_instance
def sevens (zs : List Int) : List Int := zs.flatMap fun z => sevenN z.toNat
theorem sevens_drop {zs : List Int} {k : Nat} (h : k < zs.length) : sevens (zs.drop k) = sevenN (zs[k]?.getD 0).toNat ++ sevens (zs.drop (k + 1)) := by
  unfold sevens
  rw [List.drop_eq_getElem_cons h, List.flatMap_cons, List.getElem?_eq_getElem h]
  rfl
def oidB (zs : List Int) : List Int := sevenN (40 * zs[(0 : Nat)]?.getD 0 + zs[(1 : Nat)]?.getD 0).toNat ++ sevens (zs.drop 2)
/-- Oid's answer. -/
def oidZ (zs : List Int) : T × Int := if OidOk zs then (.node 6 (oidB zs) [], 0) else (zeroT, 1)

set_option maxHeartbeats 4000000 in
set_option maxRecDepth 100000 in
theorem roid_any (a : Option Addr) (n ca : Nat) (zs : List Int) (w : World) (hr : Row32 w a n zs) : Calls Tryd.prog 21 #[.slice a n ca] w (GivesNodeE (oidZ zs) w) := by
  have S0 := Lib.hid (RB.start w)
  have R0 := Lib.hid (hr.below S0.out.below)
  have HL := Lib.hid hr.1
  clear hr
  have FB : OidOk zs ↔ (2 ≤ n ∧ n ≤ 20 ∧ zs[(0 : Nat)]?.getD 0 ≤ 2 ∧ zs[(1 : Nat)]?.getD 0 ≤ 4294967200 ∧ (zs[(1 : Nat)]?.getD 0 ≤ 39 ∨ zs[(0 : Nat)]?.getD 0 = 2)) := by unfold OidOk; rw [HL.out]
  have x0 := R0.out.num 0
  have x1 := R0.out.num 1
  have BZ : Hid (OidOk zs → oidZ zs = (.node 6 (sevenN (40 * zs[(0 : Nat)]?.getD 0 + zs[(1 : Nat)]?.getD 0).toNat ++ sevens (zs.drop 2)) [], 0)) := fun h => if_pos h
  have NZ : Hid (¬ OidOk zs → oidZ zs = (.node 0 [] [], 1)) := fun h => if_neg h
  have RN := Lib.hid (Row.nil (w.alloc (.cells #[.int .i64 0, .slice none 0 0, .slice none 0 0] 26)))
  go_enter Tryd.func21, Tryd.ntmps21
  by_cases h2 : 2 ≤ n
  rotate_left
  · have F := Lib.hid (NZ.out (by rw [FB]; omega))
    go_wp2_with fail
    exact gives_ate (zs := []) (c := 0) F.out rfl rfl rfl S0.out.box S0.out.below (RN.out _) (fun h => absurd h (by simp)) (fun _ => rfl) rfl (by simp)
  by_cases h20 : n ≤ 20
  rotate_left
  · have F := Lib.hid (NZ.out (by rw [FB]; omega))
    go_wp2_with fail
    exact gives_ate (zs := []) (c := 0) F.out rfl rfl rfl S0.out.box S0.out.below (RN.out _) (fun h => absurd h (by simp)) (fun _ => rfl) rfl (by simp)
  obtain ⟨b, off, rfl, hbl, hcell⟩ := R0.out.2.2 (by omega)
  have c0 := hcell 0 (by omega)
  have c1 := hcell 1 (by omega)
  rw [Nat.add_zero] at c0
  clear hcell
  generalize zs[(0 : Nat)]?.getD 0 = p at *
  generalize zs[(1 : Nat)]?.getD 0 = q at *
  by_cases hp : p ≤ 2
  rotate_left
  · have F := Lib.hid (NZ.out (by rw [FB]; omega))
    go_wp2_with fail
    exact gives_ate (zs := []) (c := 0) F.out rfl rfl rfl S0.out.box S0.out.below (RN.out _) (fun h => absurd h (by simp)) (fun _ => rfl) rfl (by simp)
  by_cases hq : q ≤ 4294967200
  rotate_left
  · have F := Lib.hid (NZ.out (by rw [FB]; omega))
    go_wp2_with fail
    exact gives_ate (zs := []) (c := 0) F.out rfl rfl rfl S0.out.box S0.out.below (RN.out _) (fun h => absurd h (by simp)) (fun _ => rfl) rfl (by simp)
  by_cases hpq : q ≤ 39 ∨ p = 2
  rotate_left
  · have F := Lib.hid (NZ.out (by rw [FB]; omega))
    have t2 : (p != 2) = true := by simp; omega
    have t3 : ¬ q ≤ 39 := by omega
    clear hpq
    go_wp2_with fail
    exact gives_ate (zs := []) (c := 0) F.out rfl rfl rfl S0.out.box S0.out.below (RN.out _) (fun h => absurd h (by simp)) (fun _ => rfl) rfl (by simp)
  have G := Lib.hid (BZ.out (FB.2 ⟨h2, h20, hp, hq, hpq⟩))
  have kp : IntKind.u64.wrap p = p := IntWalk.u64_in _ (by omega)
  have kq : IntKind.u64.wrap q = q := IntWalk.u64_in _ (by omega)
  have kpp : IntKind.u64.wrap (40 * p) = 40 * p := IntWalk.u64_in _ (by omega)
  have kpq : IntKind.u64.wrap (40 * p + q) = 40 * p + q := IntWalk.u64_in _ (by omega)
  have k0 : (0 : Int) < (n : Int) := by omega
  have k1 : (1 : Int) < (n : Int) := by omega
  clear BZ NZ FB RN
  by_cases h39 : q ≤ 39
  · clear hpq
    go_wp2_with fail
    generalize hw0 : w.alloc (.cells #[.int .i64 0, .slice none 0 0, .slice none 0 0] 26) = w0 at *
    clear hw0
    have hlt0 : w.heap.size < w0.heap.size := S0.out.box.lt
    have l0 := cell_later c0
    have l1 := cell_later c1
    clear c0 c1
    refine wp_region_ord Ext Ext.refl (fun _ _ _ => Ext.trans) ((0, false) :: (1, false) :: (2, false) :: (3, false) :: (4, false) :: (5, false) :: (6, false) :: (7, false) :: (8, false) :: (9, false) :: (10, true) :: (11, false) :: []) (by kernel_rfl) (by kernel_rfl) rfl (by kernel_rfl) (fun _ _ _ _ _ h => h) ?_
    repeat (refine ord_take _ rfl (by rfl) (fun W hW => by go_simp; first | done | rfl) ?_; simp only [Act.put, List.setIfInBounds_toArray, List.set_cons_zero, List.set_cons_succ])
    clear l0 l1
    refine ord_sole rfl (by rfl) (fun K1 hK1 => ?_)
    go_simp
    refine (seven_int (40 * p + q) _ (by omega) (by omega)).mono ?_
    rintro e w1 ⟨V, rfl, ho⟩
    have hb1 : Ext w0 w1 := Ext.of_drew ho.2
    have O1 := Lib.hid (ho.wider (Ext.drew (Ext.refl w0)))
    refine hK1 _ _ ho.2 ?_
    clear hK1 K1 ho
    clear hb1
    repeat (refine ord_take _ rfl (by rfl) (fun W hW => by go_simp; first | done | rfl) ?_; simp only [Act.put, List.setIfInBounds_toArray, List.set_cons_zero, List.set_cons_succ])
    refine ord_end ?_
    have hl7 := seven_len (n := (40 * p + q).toNat) (by omega)
    have SB := Lib.hid (seven_byte (40 * p + q).toNat)
    generalize sevenN (40 * p + q).toNat = L0 at *
    go_wp2_with fail
    go_loopw [4, 5] (fun V i wr => ∃ (k : Nat) (L : List Int), 2 ≤ k ∧ k ≤ n ∧ i = .int .i64 (k : Int) ∧ Out w0 wr V L ∧ (∀ x ∈ L, 0 ≤ x ∧ x ≤ 255) ∧ L.length ≤ 10 * k ∧ L ++ sevens (zs.drop k) = L0 ++ sevens (zs.drop 2)) (fun _ i _ => n - (intOf i).toNat)
    case atStart => exact ⟨2, L0, by omega, by omega, rfl, O1.out, SB.out, by omega, rfl⟩
    case round =>
      obtain ⟨k, L, hk2, hk, rfl, ho, hby, hll, hs⟩ := hrel
      have HO := Lib.hid ho
      have HB := Lib.hid hby
      have HS := Lib.hid hs
      obtain ⟨aV, cV, rfl, hrV⟩ := ho.row hby
      have RV := Lib.hid hrV
      clear ho hby hs hrV O1 SB hl7
      by_cases hlt : k < n
      · obtain ⟨b', off', e', hbl', hcell'⟩ := (R0.out.below HO.out.2).2.2 (by omega)
        injection e' with e'
        injection e' with e1 e2
        subst e1 e2
        have ck := hcell' k hlt
        have xk := R0.out.num k
        have ST := Lib.hid (sevens_drop (zs := zs) (k := k) (by rw [HL.out]; exact hlt))
        clear hcell' hbl'
        generalize zs[k]?.getD 0 = x at *
        have kx : IntKind.u64.wrap x = x := IntWalk.u64_in _ (by omega)
        have kk : (k : Int) < (n : Int) := by omega
        go_wp2_with fail
        refine (seven_int x _ (by omega) (by omega)).mono ?_
        rintro e w2 ⟨V7, rfl, ho7⟩
        have B7 := Lib.hid (seven_byte x.toNat)
        have l7 := seven_len (n := x.toNat) (by omega)
        obtain ⟨a7, c7, rfl, hr7⟩ := ho7.row B7.out
        have R7 := Lib.hid hr7
        have N7 := Lib.hid ho7.nilc
        have O7 := Lib.hid (HO.out.below ho7.2)
        clear ho7 hr7 HO ck
        generalize sevenN x.toNat = L7 at *
        go_wp2_with (at_builtin; go_must (refine out_append (W0 := w0) (L := L) (zs := L7) rfl _ _ rfl rfl O7.out rfl R7.out N7.out (by omega) ?_; intro V4 w4 ho4; have O4 := Lib.hid ho4; clear ho4))
        go_roundw
        case rel => exact ⟨k + 1, L ++ L7, by omega, by omega, by go_num, O4.out, (by intro y hy; rcases List.mem_append.1 hy with hy | hy; exact HB.out y hy; exact B7.out y hy), by rw [List.length_append]; omega, by rw [List.append_assoc, ← ST.out]; exact HS.out⟩
        case measure => simp [intOf]; omega
      · obtain rfl : k = n := by omega
        have F : Hid (oidZ zs = (.node 6 L [], 0)) := by
          rw [G.out, ← HS.out, List.drop_of_length_le (by rw [HL.out]; exact Nat.le_refl _)]
          simp [sevens, Hid]
        have S1 := Lib.hid (S0.out.go HO.out.2)
        obtain ⟨p0, p1, p2, f0, f1, f2⟩ := S1.out.box.six
        clear HS
        go_wp2_with fail
        exact gives_leafe (zs := L) (c := cV) F.out rfl rfl rfl S1.out RV.out (fun h0 => by obtain ⟨b, off, e, hb⟩ := out_off HO.out h0; exact ⟨b, off, e, Nat.lt_of_lt_of_le hlt0 hb⟩) HO.out.nilc rfl (by omega)
  · obtain rfl : p = 2 := by omega
    have G2 : Hid (oidZ zs = (.node 6 (sevenN (80 + q).toNat ++ sevens (zs.drop 2)) [], 0)) := by
      have := G.out
      rw [show (40 : Int) * 2 = 80 by rfl] at this
      exact this
    have k2 : IntKind.u64.wrap 2 = 2 := IntWalk.u64_in _ (by omega)
    have k80 : IntKind.u64.wrap 80 = 80 := IntWalk.u64_in _ (by omega)
    have k80q : IntKind.u64.wrap (80 + q) = 80 + q := IntWalk.u64_in _ (by omega)
    clear G hpq kp kpp kpq
    go_wp2_with fail
    generalize hw0 : w.alloc (.cells #[.int .i64 0, .slice none 0 0, .slice none 0 0] 26) = w0 at *
    clear hw0
    have hlt0 : w.heap.size < w0.heap.size := S0.out.box.lt
    have l0 := cell_later c0
    have l1 := cell_later c1
    clear c0 c1
    refine wp_region_ord Ext Ext.refl (fun _ _ _ => Ext.trans) ((0, false) :: (1, false) :: (2, false) :: (3, false) :: (4, false) :: (5, false) :: (6, false) :: (7, false) :: (8, false) :: (9, false) :: (10, true) :: (11, false) :: []) (by kernel_rfl) (by kernel_rfl) rfl (by kernel_rfl) (fun _ _ _ _ _ h => h) ?_
    repeat (refine ord_take _ rfl (by rfl) (fun W hW => by go_simp; first | done | rfl) ?_; simp only [Act.put, List.setIfInBounds_toArray, List.set_cons_zero, List.set_cons_succ])
    clear l0 l1
    refine ord_sole rfl (by rfl) (fun K1 hK1 => ?_)
    go_simp
    refine (seven_int (80 + q) _ (by omega) (by omega)).mono ?_
    rintro e w1 ⟨V, rfl, ho⟩
    have hb1 : Ext w0 w1 := Ext.of_drew ho.2
    have O1 := Lib.hid (ho.wider (Ext.drew (Ext.refl w0)))
    refine hK1 _ _ ho.2 ?_
    clear hK1 K1 ho
    clear hb1
    repeat (refine ord_take _ rfl (by rfl) (fun W hW => by go_simp; first | done | rfl) ?_; simp only [Act.put, List.setIfInBounds_toArray, List.set_cons_zero, List.set_cons_succ])
    refine ord_end ?_
    have hl7 := seven_len (n := (80 + q).toNat) (by omega)
    have SB := Lib.hid (seven_byte (80 + q).toNat)
    generalize sevenN (80 + q).toNat = L0 at *
    go_wp2_with fail
    go_loopw [4, 5] (fun V i wr => ∃ (k : Nat) (L : List Int), 2 ≤ k ∧ k ≤ n ∧ i = .int .i64 (k : Int) ∧ Out w0 wr V L ∧ (∀ x ∈ L, 0 ≤ x ∧ x ≤ 255) ∧ L.length ≤ 10 * k ∧ L ++ sevens (zs.drop k) = L0 ++ sevens (zs.drop 2)) (fun _ i _ => n - (intOf i).toNat)
    case atStart => exact ⟨2, L0, by omega, by omega, rfl, O1.out, SB.out, by omega, rfl⟩
    case round =>
      obtain ⟨k, L, hk2, hk, rfl, ho, hby, hll, hs⟩ := hrel
      have HO := Lib.hid ho
      have HB := Lib.hid hby
      have HS := Lib.hid hs
      obtain ⟨aV, cV, rfl, hrV⟩ := ho.row hby
      have RV := Lib.hid hrV
      clear ho hby hs hrV O1 SB hl7
      by_cases hlt : k < n
      · obtain ⟨b', off', e', hbl', hcell'⟩ := (R0.out.below HO.out.2).2.2 (by omega)
        injection e' with e'
        injection e' with e1 e2
        subst e1 e2
        have ck := hcell' k hlt
        have xk := R0.out.num k
        have ST := Lib.hid (sevens_drop (zs := zs) (k := k) (by rw [HL.out]; exact hlt))
        clear hcell' hbl'
        generalize zs[k]?.getD 0 = x at *
        have kx : IntKind.u64.wrap x = x := IntWalk.u64_in _ (by omega)
        have kk : (k : Int) < (n : Int) := by omega
        go_wp2_with fail
        refine (seven_int x _ (by omega) (by omega)).mono ?_
        rintro e w2 ⟨V7, rfl, ho7⟩
        have B7 := Lib.hid (seven_byte x.toNat)
        have l7 := seven_len (n := x.toNat) (by omega)
        obtain ⟨a7, c7, rfl, hr7⟩ := ho7.row B7.out
        have R7 := Lib.hid hr7
        have N7 := Lib.hid ho7.nilc
        have O7 := Lib.hid (HO.out.below ho7.2)
        clear ho7 hr7 HO ck
        generalize sevenN x.toNat = L7 at *
        go_wp2_with (at_builtin; go_must (refine out_append (W0 := w0) (L := L) (zs := L7) rfl _ _ rfl rfl O7.out rfl R7.out N7.out (by omega) ?_; intro V4 w4 ho4; have O4 := Lib.hid ho4; clear ho4))
        go_roundw
        case rel => exact ⟨k + 1, L ++ L7, by omega, by omega, by go_num, O4.out, (by intro y hy; rcases List.mem_append.1 hy with hy | hy; exact HB.out y hy; exact B7.out y hy), by rw [List.length_append]; omega, by rw [List.append_assoc, ← ST.out]; exact HS.out⟩
        case measure => simp [intOf]; omega
      · obtain rfl : k = n := by omega
        have F : Hid (oidZ zs = (.node 6 L [], 0)) := by
          rw [G2.out, ← HS.out, List.drop_of_length_le (by rw [HL.out]; exact Nat.le_refl _)]
          simp [sevens, Hid]
        have S1 := Lib.hid (S0.out.go HO.out.2)
        obtain ⟨p0, p1, p2, f0, f1, f2⟩ := S1.out.box.six
        clear HS
        go_wp2_with fail
        exact gives_leafe (zs := L) (c := cV) F.out rfl rfl rfl S1.out RV.out (fun h0 => by obtain ⟨b, off, e, hb⟩ := out_off HO.out h0; exact ⟨b, off, e, Nat.lt_of_lt_of_le hlt0 hb⟩) HO.out.nilc rfl (by omega)

end Go.Proofs.YtjhffnoddhlikaaDoor

namespace Go.Proofs.YtjhffnoddhlikaaDoor
open Go.RowKit
set_option linter.unusedVariables false

def firstZ (x : Int) : Int := if 2 < x / 40 then 2 else x / 40
def stepZ (x z : Int) : Int := x % 144115188075855872 * 128 + z % 128
/-- The numbers of a row of bytes: from a number and a list on. -/
def arcsZ : List Int → Int → List Int → Option (List Int)
  | [], _, l => some l
  | z :: r, x, l =>
    if 128 ≤ z then arcsZ r (stepZ x z) l
    else if l = [] then
      (if 4294967295 < stepZ x z - 40 * firstZ (stepZ x z) then none else arcsZ r 0 [firstZ (stepZ x z), stepZ x z - 40 * firstZ (stepZ x z)])
    else if 4294967295 < stepZ x z ∨ 20 < l.length then none else arcsZ r 0 (l ++ [stepZ x z])
/-- Arcs' answer. -/
def arcsR (t : T) : List Int × Int := match arcsZ t.body 0 [] with
  | none => ([], 2)
  | some l => if (oidZ l).2 = 0 ∧ sameT (oidZ l).1 t = true then (l, 0) else ([], 2)
def GivesArcs (x : List Int × Int) (w : World) (e : Ending) (w' : World) : Prop :=
  ∃ a c, e = .returned (.tuple #[.slice a x.1.length c, .int .i64 x.2]) ∧ Row32 w' a x.1.length x.1 ∧ (a = none → c = 0) ∧ x.1.length ≤ c ∧ Below w.heap.size w w'
theorem gives_arcs_no {x : List Int × Int} {w w' : World} (h : x = ([], 2)) (hb : Below w.heap.size w w') : GivesArcs x w (.returned (.tuple #[.slice none 0 0, .int .i64 2])) w' := by
  subst h
  exact ⟨none, 0, rfl, Row32.nil _ _, fun _ => rfl, Nat.le_refl _, hb⟩
theorem step_range {x z : Int} (hx : 0 ≤ x) (hz : 0 ≤ z) : 0 ≤ stepZ x z ∧ stepZ x z ≤ 18446744073709551615 := by unfold stepZ; omega
theorem oid_err (zs : List Int) : (oidZ zs).2 = 0 ∨ (oidZ zs).2 = 1 := by
  unfold oidZ
  split
  · exact .inl rfl
  · exact .inr rfl
theorem out_none32 (w : World) : Out32 w w (.slice none 0 0) [] := ⟨World.ownsRow_nil _ _ _ _, Below.refl _ _⟩

set_option maxHeartbeats 4000000 in
set_option maxRecDepth 100000 in
theorem rarcs_any (t : T) (v : Value) (w : World) (hin : t.In w v) (hwt : t.body.length ≤ 100000) : Calls Tryd.prog 23 #[v] w (GivesArcs (arcsR t) w) := by
  obtain ⟨A, n, c, K, m, d, rfl, hw, hr, hn, hc, hm, hm', hks⟩ := hin.open
  have BX := Lib.hid (Box.start hin)
  have R0 := Lib.hid (hr.below BX.out.below)
  have HL := Lib.hid hr.1
  have hln := hr.1
  clear hks hin hm hm' hw hn hr hc
  go_enter Tryd.func23, Tryd.ntmps23
  go_wp2_with fail
  generalize hw2 : w.alloc (.cells #[.int .i64 t.tag, .slice A n c, .slice K m d] 26) = w0 at *
  clear hw2
  go_loopw [4, 5, 6] (fun V u i wr => ∃ (k : Nat) (x : Int) (L : List Int), k ≤ n ∧ i = .int .i64 (k : Int) ∧ u = .int .u64 x ∧ 0 ≤ x ∧ x ≤ 18446744073709551615 ∧ Out32 w0 wr V L ∧ (∀ y ∈ L, 0 ≤ y ∧ y ≤ 4294967295) ∧ L.length ≤ 22 ∧ arcsZ (t.body.drop k) x L = arcsZ t.body 0 []) (fun _ _ i _ => n - (intOf i).toNat)
  case atStart => exact ⟨0, 0, [], by omega, rfl, rfl, by omega, by omega, out_none32 _, by simp, by simp, rfl⟩
  case round =>
    obtain ⟨k, x, L, hk, rfl, rfl, hx0, hx1, ho, hby, hll, hs⟩ := hrel
    have HO := Lib.hid ho
    have HB := Lib.hid hby
    have HS := Lib.hid hs
    obtain ⟨aV, cV, rfl, hrV⟩ := ho.row hby
    have RV := Lib.hid hrV
    clear ho hby hs hrV
    have B1 := Lib.hid (BX.out.go HO.out.2)
    obtain ⟨g0, g1, g2⟩ := B1.out.cells
    by_cases hlt : k < n
    · obtain ⟨b, off, rfl, hbl, hcell⟩ := (R0.out.below HO.out.2).2.2 (by omega)
      have ck := hcell k hlt
      have xk := R0.out.byte k
      have ST : Hid (t.body.drop k = t.body[k]?.getD 0 :: t.body.drop (k + 1)) := by rw [List.drop_eq_getElem_cons (by rw [HL.out]; exact hlt), List.getElem?_eq_getElem (by rw [HL.out]; exact hlt)]; exact Lib.hid rfl
      clear hcell hbl
      generalize t.body[k]?.getD 0 = z at *
      have kk : (k : Int) < (n : Int) := by omega
      have SR := step_range (x := x) (z := z) (by omega) (by omega)
      have k1 : IntKind.u64.wrap (x % 144115188075855872 * 128) = x % 144115188075855872 * 128 := IntWalk.u64_in _ (by omega)
      have k2 : IntKind.u64.wrap (z % 128) = z % 128 := IntWalk.u64_in _ (by omega)
      have k3 : IntKind.u64.wrap (x % 144115188075855872 * 128 + z % 128) = stepZ x z := IntWalk.u64_in _ (by unfold stepZ at SR; omega)
      by_cases h128 : 128 ≤ z
      · have N : Hid (arcsZ (t.body.drop (k + 1)) (stepZ x z) L = arcsZ t.body 0 []) := by rw [← HS.out, ST.out, arcsZ, if_pos h128]; exact Lib.hid rfl
        go_wp2_with fail
        go_roundw
        case rel => exact ⟨k + 1, stepZ x z, L, by omega, by go_num, rfl, SR.1, SR.2, HO.out, HB.out, hll, N.out⟩
        case measure => simp [intOf]; omega
      · have NX : Hid (arcsZ t.body 0 [] = if L = [] then
            (if 4294967295 < stepZ x z - 40 * firstZ (stepZ x z) then none else arcsZ (t.body.drop (k + 1)) 0 [firstZ (stepZ x z), stepZ x z - 40 * firstZ (stepZ x z)])
            else if 4294967295 < stepZ x z ∨ 20 < L.length then none else arcsZ (t.body.drop (k + 1)) 0 (L ++ [stepZ x z])) := by
          rw [← HS.out, ST.out, arcsZ, if_neg h128]; exact Lib.hid rfl
        clear HS ST
        by_cases hL : L = []
        · subst hL
          have NY : Hid (arcsZ t.body 0 [] = if 4294967295 < stepZ x z - 40 * firstZ (stepZ x z) then none else arcsZ (t.body.drop (k + 1)) 0 [firstZ (stepZ x z), stepZ x z - 40 * firstZ (stepZ x z)]) := NX.out.trans (if_pos rfl)
          clear NX
          generalize stepZ x z = y at *
          have kf : (if 2 < y / 40 then 2 else y / 40) = firstZ y := rfl
          have fr : 0 ≤ firstZ y ∧ firstZ y ≤ 2 ∧ 40 * firstZ y ≤ y := by unfold firstZ; split <;> omega
          generalize firstZ y = f at *
          have k4 : IntKind.u32.wrap f = f := IntWalk.u32_in _ (by omega)
          have k5 : IntKind.u64.wrap (40 * f) = 40 * f := IntWalk.u64_in _ (by omega)
          have k6 : IntKind.u64.wrap (y - 40 * f) = y - 40 * f := IntWalk.u64_in _ (by omega)
          have O3 := Lib.hid (HO.out.alloc (.cells #[.int .u32 f] 60))
          obtain ⟨a1, c1, e1, r1⟩ := (out_one32 wr f).row (by intro q hq; simp at hq; omega)
          injection e1 with e1 e2 e3
          subst e1 e3
          have R1 := Lib.hid r1
          clear r1 e2
          by_cases hy : 4294967295 < y - 40 * f
          · have F : Hid (arcsR t = ([], 2)) := by unfold Hid arcsR; rw [NY.out, if_pos hy]
            have f2 : f = 2 := by rw [← kf, if_pos (by omega)]
            subst f2
            clear NY
            go_wp2_with (at_builtin; go_must (refine out_append32 (W0 := w0) (L := []) (zs := [2]) rfl _ _ rfl rfl O3.out rfl R1.out (fun e => by cases e) (by simp) ?_; intro V4 w4 ho4; rw [List.nil_append] at ho4; have B4 := Lib.hid (BX.out.go ho4.2); obtain ⟨a4, c4, rfl, r4⟩ := ho4.row (by intro q hq; simp at hq; omega); clear ho4 r4))
            go_ret2
            exact gives_arcs_no F.out B4.out.below
          · have N : Hid (arcsZ (t.body.drop (k + 1)) 0 [f, y - 40 * f] = arcsZ t.body 0 []) := by rw [NY.out, if_neg hy]; exact Lib.hid rfl
            clear NY
            have k7 : IntKind.u32.wrap (y - 40 * f) = y - 40 * f := IntWalk.u32_in _ (by omega)
            go_wp2_with (at_builtin; first | (refine out_append32 (W0 := w0) (L := []) (zs := [f]) rfl _ _ rfl rfl O3.out rfl R1.out (fun e => by cases e) (by simp) ?_; intro V4 w4 ho4; rw [List.nil_append] at ho4; have O4 := Lib.hid ho4; have B4 := Lib.hid (BX.out.go ho4.2); obtain ⟨a4, c4, rfl, r4⟩ := ho4.row (by intro q hq; simp at hq; omega); have O5 := Lib.hid (ho4.alloc (.cells #[.int .u32 (y - 40 * f)] 60)); obtain ⟨a6, c6, e6, r6⟩ := (out_one32 w4 (y - 40 * f)).row (by intro q hq; simp at hq; omega); injection e6 with e6 e7 e8; subst e6 e8; have R6 := Lib.hid r6; clear ho4 r4 r6 e7) | (refine out_append32 (W0 := w0) (L := [f]) (zs := [y - 40 * f]) rfl _ _ rfl rfl O5.out rfl R6.out (fun e => by cases e) (by simp) ?_; intro V7 w7 ho7; have O7 := Lib.hid ho7; clear ho7))
            go_roundw
            case rel => exact ⟨k + 1, 0, [f, y - 40 * f], by omega, by go_num, rfl, by omega, by omega, O7.out, (by intro q hq; simp at hq; omega), by simp, N.out⟩
            case measure => simp [intOf]; omega
        · have NY : Hid (arcsZ t.body 0 [] = if 4294967295 < stepZ x z ∨ 20 < L.length then none else arcsZ (t.body.drop (k + 1)) 0 (L ++ [stepZ x z])) := NX.out.trans (if_neg hL)
          clear NX
          generalize stepZ x z = y at *
          have l0 : ((L.length : Int) == 0) = false := by simp; exact hL
          by_cases hy : 4294967295 < y
          · have F : Hid (arcsR t = ([], 2)) := by unfold Hid arcsR; rw [NY.out, if_pos (.inl hy)]
            clear NY hL
            go_wp2_with fail
            go_ret2
            exact gives_arcs_no F.out B1.out.below
          by_cases h20 : 20 < L.length
          · have F : Hid (arcsR t = ([], 2)) := by unfold Hid arcsR; rw [NY.out, if_pos (.inr h20)]
            clear NY hL
            go_wp2_with fail
            go_ret2
            exact gives_arcs_no F.out B1.out.below
          have N : Hid (arcsZ (t.body.drop (k + 1)) 0 (L ++ [y]) = arcsZ t.body 0 []) := by rw [NY.out, if_neg (by omega)]; exact Lib.hid rfl
          clear NY hL
          have k4 : IntKind.u32.wrap y = y := IntWalk.u32_in _ (by omega)
          have O3 := Lib.hid (HO.out.alloc (.cells #[.int .u32 y] 60))
          obtain ⟨a1, c1, e1, r1⟩ := (out_one32 wr y).row (by intro q hq; simp at hq; omega)
          injection e1 with e1 e2 e3
          subst e1 e3
          have R1 := Lib.hid r1
          clear r1 e2
          go_wp2_with (at_builtin; go_must (refine out_append32 (W0 := w0) (L := L) (zs := [y]) rfl _ _ rfl rfl O3.out rfl R1.out (fun e => by cases e) (by simp; omega) ?_; intro V4 w4 ho4; have O4 := Lib.hid ho4; clear ho4))
          go_roundw
          case rel => exact ⟨k + 1, 0, L ++ [y], by omega, by go_num, rfl, by omega, by omega, O4.out, (by intro q hq; rcases List.mem_append.1 hq with hq | hq; exact HB.out q hq; simp at hq; omega), by rw [List.length_append]; simp; omega, N.out⟩
          case measure => simp [intOf]; omega
    · obtain rfl : k = n := by omega
      have FS : Hid (arcsZ t.body 0 [] = some L) := by rw [← HS.out, List.drop_of_length_le (by rw [HL.out]; exact Nat.le_refl _), arcsZ]; exact Lib.hid rfl
      have CB := Lib.hid (roid_any aV L.length cV L wr RV.out)
      have HE := oid_err L
      have AR : Hid (arcsR t = if (oidZ L).2 = 0 ∧ sameT (oidZ L).1 t = true then (L, 0) else ([], 2)) := by unfold Hid arcsR; rw [FS.out]
      generalize oidZ L = X at *
      clear FS HS
      go_wp2_with fail
      refine CB.out.mono ?_
      rintro e w4 ⟨A3, n3, c3, K3, m3, d3, rfl, hin3, hb3⟩
      have B4 := Lib.hid ((B1.out.go hb3).go ((Below.refl w4.heap.size w4).alloc (Nat.le_refl _) (.cells #[.int .i64 X.1.tag, .slice A3 n3 c3, .slice K3 m3 d3] 26)))
      have X4 := Lib.hid (T.In.below ((Below.refl w4.heap.size w4).alloc (Nat.le_refl _) (.cells #[.int .i64 X.1.tag, .slice A3 n3 c3, .slice K3 m3 d3] 26)) X.1 (T.InP.in _ hin3))
      have R4 := Lib.hid ((RV.out.below hb3).below ((Below.refl w4.heap.size w4).alloc (Nat.le_refl _) (.cells #[.int .i64 X.1.tag, .slice A3 n3 c3, .slice K3 m3 d3] 26)))
      clear hin3 hb3 B1 CB g0 g1 g2
      obtain ⟨g0, g1, g2⟩ := B4.out.cells
      obtain ⟨xt, xe⟩ := X
      rcases HE with rfl | rfl
      · have CS := Lib.hid (same_any xt t _ _ _ X4.out B4.out.has)
        clear X4
        go_wp2_with fail
        refine CS.out.mono ?_
        rintro e w5 ⟨rfl, hb5⟩
        have B5 := Lib.hid (B4.out.go hb5)
        have R5 := Lib.hid (R4.out.below hb5)
        clear hb5 CS B4 g0 g1 g2
        cases hs : sameT xt t
        · have F : Hid (arcsR t = ([], 2)) := by rw [AR.out, hs]; rfl
          clear AR
          go_wp2_with fail
          go_ret2
          exact gives_arcs_no F.out B5.out.below
        · have F : Hid (arcsR t = (L, 0)) := by rw [AR.out, hs]; rfl
          clear AR
          go_wp2_with fail
          go_ret2
          rw [F.out]
          exact ⟨aV, cV, rfl, R5.out, HO.out.nilc, own_cap32 HO.out.1, B5.out.below⟩
      · have F : Hid (arcsR t = ([], 2)) := by rw [AR.out]; simp [Hid]
        clear AR
        go_wp2_with fail
        go_ret2
        exact gives_arcs_no F.out B4.out.below

end Go.Proofs.YtjhffnoddhlikaaDoor

namespace Go.Proofs.YtjhffnoddhlikaaDoor
open Go.RowKit
set_option linter.unusedVariables false

theorem drop_eq_step {xs ys : List Int} {k : Nat} (hx : k < xs.length) (hy : k < ys.length) : (xs.drop k = ys.drop k) ↔ (xs[k]?.getD 0 = ys[k]?.getD 0 ∧ xs.drop (k + 1) = ys.drop (k + 1)) := by
  rw [List.drop_eq_getElem_cons hx, List.drop_eq_getElem_cons hy, List.getElem?_eq_getElem hx, List.getElem?_eq_getElem hy]
  simp only [List.cons.injEq, Option.getD_some]
set_option maxHeartbeats 1000000 in
set_option maxRecDepth 10000 in
theorem same32_any (a1 a2 : Option Addr) (n1 n2 c1 c2 : Nat) (xs ys : List Int) (w : World) (hx : Row32 w a1 n1 xs) (hy : Row32 w a2 n2 ys) (hn : n1 ≤ 1000000) :
    Calls Tryd.prog 24 #[.slice a1 n1 c1, .slice a2 n2 c2] w fun e w' => e = .returned (.bool (decide (xs = ys))) ∧ ∃ q, w' = w.drewN q := by
  have X := Lib.hid hx
  have Y := Lib.hid hy
  have LX := Lib.hid hx.1
  have LY := Lib.hid hy.1
  clear hx hy
  by_cases hl : n1 = n2
  rotate_left
  · have F : Hid (decide (xs = ys) = false) := decide_eq_false (fun e => hl (by rw [← LX.out, ← LY.out, e]))
    have t1 : ((n1 : Int) != (n2 : Int)) = true := by simp; omega
    go_enter Tryd.func24, Tryd.ntmps24
    go_wp2_with fail
    go_ret
    exact ⟨ret_bool F.out.symm, 0, rfl⟩
  subst hl
  go_enter Tryd.func24, Tryd.ntmps24
  go_wp2_with fail
  go_loopw [5] (fun i wr => ∃ k q : Nat, k ≤ n1 ∧ i = .int .i64 (k : Int) ∧ wr = w.drewN q ∧ (xs = ys ↔ xs.drop k = ys.drop k)) (fun i _ => n1 - (intOf i).toNat)
  case atStart => exact ⟨0, 0, by omega, rfl, rfl, by simp⟩
  case round =>
    obtain ⟨k, q, hk, rfl, rfl, hs⟩ := hrel
    have HS := Lib.hid hs
    clear hs
    by_cases hlt : k < n1
    · obtain ⟨b, off, rfl, _, hc⟩ := X.out.2.2 (by omega)
      obtain ⟨b', off', rfl, _, hc'⟩ := Y.out.2.2 (by omega)
      have p0 := hc k hlt
      have q0 := hc' k hlt
      have ST := Lib.hid (drop_eq_step (xs := xs) (ys := ys) (k := k) (by rw [LX.out]; exact hlt) (by rw [LY.out]; exact hlt))
      clear hc hc'
      generalize xs[k]?.getD 0 = x at *
      generalize ys[k]?.getD 0 = y at *
      by_cases hxy : x = y
      · subst hxy
        have N : Hid (xs = ys ↔ xs.drop (k + 1) = ys.drop (k + 1)) := by
          refine HS.out.trans (ST.out.trans ?_)
          simp
        clear HS ST
        go_wp2
        go_quiet (fail)
        go_wp2
        go_roundw
        case rel => exact ⟨k + 1, _, by omega, by go_num, rfl, N.out⟩
        case measure => simp [intOf]; omega
      · have F : Hid (decide (xs = ys) = false) := decide_eq_false (fun e => hxy ((ST.out.1 (HS.out.1 e)).1))
        have t1 : (x != y) = true := by simpa using hxy
        clear HS ST
        go_wp2
        go_quiet (fail)
        go_wp2
        go_ret
        exact ⟨ret_bool F.out.symm, _, by rw [World.drewN_drewN]⟩
    · obtain rfl : k = n1 := by omega
      have F : Hid (decide (xs = ys) = true) := decide_eq_true (HS.out.2 (by rw [List.drop_of_length_le (by rw [LX.out]; exact Nat.le_refl _), List.drop_of_length_le (by rw [LY.out]; exact Nat.le_refl _)]))
      clear HS
      go_wp2_with fail
      go_ret
      exact ⟨ret_bool F.out.symm, _, rfl⟩

end Go.Proofs.YtjhffnoddhlikaaDoor

namespace Go.Proofs.YtjhffnoddhlikaaDoor
open Go.RowKit
set_option linter.unusedVariables false

/-! ### Numbers -/
theorem numZ_nought (l : List Int) : numZ 0 (0 :: l) = numZ 0 l := by
  rw [numZ, if_neg (by unfold B56; omega)]
  rfl
theorem numZ_bare (l : List Int) : numZ 0 (bareZ l) = numZ 0 l := by
  induction l with
  | nil => rfl
  | cons z r ih =>
    rw [bareZ]
    split
    · rename_i h
      rw [ih, h, numZ_nought]
    · rfl
theorem numZ_big (l : List Int) : numZ 0 (bigZ l) = numZ 0 l := by
  unfold bigZ
  split
  · rw [numZ_nought, numZ_bare]
  · rw [numZ_bare]
theorem bare_nought (l : List Int) : bareZ (0 :: l) = bareZ l := by rw [bareZ, if_pos rfl]
theorem bare_bare (l : List Int) : bareZ (bareZ l) = bareZ l := by
  induction l with
  | nil => rfl
  | cons z r ih =>
    rw [bareZ]
    split
    · exact ih
    · rename_i h
      rw [bareZ, if_neg h]
theorem bare_big (l : List Int) : bareZ (bigZ l) = bareZ l := by
  unfold bigZ
  split
  · rw [bare_nought, bare_bare]
  · rw [bare_bare]
theorem big_bare (l : List Int) : bigZ (bareZ l) = bigZ l := by
  unfold bigZ
  rw [bare_bare]
theorem bare_end (l : List Int) : bareZ l = l.drop (l.length - (bareZ l).length) := by
  induction l with
  | nil => rfl
  | cons z r ih =>
    have hle := bare_le r
    rw [bareZ]
    split
    · rw [List.length_cons, show r.length + 1 - (bareZ r).length = (r.length - (bareZ r).length) + 1 by omega, List.drop_succ_cons]
      exact ih
    · simp
/-- Great of Big. -/
theorem great_big (l : List Int) : greatZ (bigT l) = (bareZ l, 0) := by
  have e : bareZ (bigT l).body = bareZ l := bare_big l
  unfold greatZ
  rw [e, show bigT (bareZ l) = bigT l by unfold bigT; rw [big_bare], if_pos (same_refl _)]

/-! ### Bits -/
theorem fit_whole (l : List Int) : FitBits l (8 * (l.length : Int)) := by unfold FitBits; omega
theorem left_whole (l : List Int) : leftZ l (8 * (l.length : Int)) = 0 := by unfold leftZ; omega
theorem bits_whole (l : List Int) : bitsZ l (8 * (l.length : Int)) = (.node 3 (0 :: l) [], 0) := by
  unfold bitsZ
  rw [if_pos (fit_whole l), left_whole, if_neg (fun h => by omega)]
theorem of_bits (l : List Int) : ofZ (.node 3 (0 :: l) []) = (l, 8 * (l.length : Int), 0) := by
  have e : ((T.node 3 (0 :: l) []).body) = 0 :: l := rfl
  unfold ofZ
  rw [e, if_neg (by simp)]
  simp only [List.drop_succ_cons, List.drop_zero, List.getElem?_cons_zero, Option.getD_some, Int.sub_zero]
  rw [bits_whole, if_pos ⟨rfl, same_refl _⟩]

/-! ### Names -/
theorem step_back {n : Nat} (h : n < 2 ^ 64) : stepZ (((n / 128 / 128 : Nat) : Int)) (((n / 128 % 128 : Nat) : Int) + 128) = ((n / 128 : Nat) : Int) := by unfold stepZ; omega
theorem step_last {n : Nat} (h : n < 2 ^ 64) : stepZ (((n / 128 : Nat) : Int)) ((n % 128 : Nat) : Int) = (n : Int) := by unfold stepZ; omega
/-- A number by sevens, read on. -/
theorem arcs_sev (n : Nat) : ∀ (acc r l : List Int), n < 2 ^ 64 → arcsZ (sevN n acc ++ r) 0 l = arcsZ (acc ++ r) ((n / 128 : Nat) : Int) l := by
  induction n using Nat.strongRecOn with
  | ind n ih =>
    intro acc r l hn
    by_cases h : 128 ≤ n
    · rw [sevN_more h, ih (n / 128) (by omega) _ r l (by omega), List.cons_append, arcsZ, if_pos (by omega), step_back hn]
    · rw [sevN_end h, show n / 128 = 0 by omega]
      rfl
theorem arcs_seven (n : Nat) (r l : List Int) (hn : n < 2 ^ 64) : arcsZ (sevenN n ++ r) 0 l =
    if l = [] then (if 4294967295 < (n : Int) - 40 * firstZ n then none else arcsZ r 0 [firstZ n, (n : Int) - 40 * firstZ n])
    else if 4294967295 < (n : Int) ∨ 20 < l.length then none else arcsZ r 0 (l ++ [(n : Int)]) := by
  unfold sevenN
  rw [arcs_sev n _ r l hn, List.cons_append, arcsZ, if_neg (by omega), step_last hn]
  rfl
theorem arcs_sevens (ys : List Int) : ∀ l : List Int, l ≠ [] → (∀ y ∈ ys, 0 ≤ y ∧ y ≤ 4294967295) → l.length + ys.length ≤ 20 → arcsZ (sevens ys) 0 l = some (l ++ ys) := by
  induction ys with
  | nil => intro l _ _ _; simp [sevens, arcsZ]
  | cons y ys ih =>
    intro l hl hy hn
    obtain ⟨y0, y1⟩ := hy y (List.mem_cons_self ..)
    obtain ⟨n, rfl⟩ := Int.eq_ofNat_of_zero_le y0
    rw [List.length_cons] at hn
    rw [show sevens ((n : Int) :: ys) = sevenN n ++ sevens ys by simp [sevens], arcs_seven n _ _ (by omega), if_neg hl, if_neg (by omega), ih _ (by simp) (fun z hz => hy z (List.mem_cons_of_mem _ hz)) (by rw [List.length_append]; simp; omega)]
    simp
theorem first_is {p q : Int} (hp : 0 ≤ p) (hq : 0 ≤ q) (h2 : p ≤ 2) (h : q ≤ 39 ∨ p = 2) : firstZ (40 * p + q) = p := by
  unfold firstZ
  split <;> omega
theorem arcs_oid (zs : List Int) (h : OidOk zs) (hy : ∀ y ∈ zs, 0 ≤ y ∧ y ≤ 4294967295) : arcsZ (oidB zs) 0 [] = some zs := by
  obtain ⟨h2, h20, hp, hq, hpq⟩ := h
  match zs, h2 with
  | p :: q :: r, _ =>
    simp only [List.getElem?_cons_zero, List.getElem?_cons_succ, Option.getD_some] at hp hq hpq
    obtain ⟨p0, _⟩ := hy p (by simp)
    obtain ⟨q0, _⟩ := hy q (by simp)
    have e : (((40 * p + q).toNat : Nat) : Int) = 40 * p + q := by omega
    unfold oidB
    simp only [List.getElem?_cons_zero, List.getElem?_cons_succ, Option.getD_some, List.drop_succ_cons, List.drop_zero]
    rw [arcs_seven _ _ _ (by omega), if_pos rfl, e, first_is p0 q0 hp hpq, show 40 * p + q - 40 * p = q by omega, if_neg (by omega), arcs_sevens r _ (by simp) (fun y hy' => hy y (by simp [hy'])) (by simp at h20 ⊢; omega)]
    rfl
/-- Arcs of Oid. -/
theorem arcs_back (zs : List Int) (h : OidOk zs) (hy : ∀ y ∈ zs, 0 ≤ y ∧ y ≤ 4294967295) : arcsR (.node 6 (oidB zs) []) = (zs, 0) := by
  have e : (T.node 6 (oidB zs) []).body = oidB zs := rfl
  have o : oidZ zs = (.node 6 (oidB zs) [], 0) := if_pos h
  unfold arcsR
  rw [e, arcs_oid zs h hy]
  simp only [o]
  rw [if_pos ⟨trivial, same_refl _⟩]

end Go.Proofs.YtjhffnoddhlikaaDoor

namespace Go.Proofs.YtjhffnoddhlikaaDoor
open Go.RowKit
set_option linter.unusedVariables false

theorem mod_step (a : Int) {q : Int} (hq : 0 < q) : a % (q * 256) = q * (a / q % 256) + a % q := by
  have h1 := Int.mul_ediv_add_emod a q
  have h2 := Int.mul_ediv_add_emod (a / q) 256
  have hr0 := Int.emod_nonneg a (Int.ne_of_gt hq)
  have hr1 := Int.emod_lt_of_pos a hq
  have ht0 := Int.emod_nonneg (a / q) (show (256 : Int) ≠ 0 by decide)
  have ht1 := Int.emod_lt_of_pos (a / q) (show (0 : Int) < 256 by decide)
  generalize a / q % 256 = t at h2 ht0 ht1 ⊢
  generalize a % q = r at h1 hr0 hr1 ⊢
  generalize a / q / 256 = u at h2
  have e : a = (q * t + r) + q * 256 * u := by
    rw [← h1, ← h2, Int.mul_add, Int.mul_assoc]
    omega
  have hlo : 0 ≤ q * t + r := Int.add_nonneg (Int.mul_nonneg (Int.le_of_lt hq) ht0) hr0
  have hhi : q * t + r < q * 256 := by
    have : q * t ≤ q * 255 := Int.mul_le_mul_of_nonneg_left (by omega) (Int.le_of_lt hq)
    omega
  rw [e, Int.add_mul_emod_self_left, Int.emod_eq_of_lt hlo hhi]

theorem mod_of_div {a : Int} {m : Nat} (h : a / 256 ^ m = 0) : a % 256 ^ m = a := by
  have := Int.mul_ediv_add_emod a (256 ^ m)
  rw [h] at this
  omega

theorem numZ_beZ : ∀ (m : Nat) (n s : Int), 0 ≤ s → s * 256 ^ m + n % 256 ^ m ≤ 18446744073709551615 → numZ s (beZ m n) = (s * 256 ^ m + n % 256 ^ m, true)
  | 0, n, s, _, _ => by
    simp only [beZ, numZ, Int.pow_zero, Int.mul_one, Int.emod_one, Int.add_zero]
  | k + 1, n, s, hs, hb => by
    have hq : (0 : Int) < 256 ^ k := Int.pow_pos (by decide)
    rw [Int.pow_succ, mod_step n hq] at hb ⊢
    have hd0 : 0 ≤ n / 256 ^ k % 256 := Int.emod_nonneg _ (by decide)
    have hr0 : 0 ≤ n % 256 ^ k := Int.emod_nonneg _ (Int.ne_of_gt hq)
    have ih := numZ_beZ k n (s * 256 + n / 256 ^ k % 256) (by omega)
    rw [beZ, numZ]
    generalize n / 256 ^ k % 256 = d at hb hd0 ih ⊢
    generalize n % 256 ^ k = r at hb hr0 ih ⊢
    generalize (256 : Int) ^ k = q at hq hb ih ⊢
    have key : (s * 256 + d) * q + r = s * (q * 256) + (q * d + r) := by
      rw [Int.add_mul, Int.mul_assoc, Int.mul_comm 256 q, Int.mul_comm d q, Int.add_assoc]
    have h1 : 0 ≤ q * d := Int.mul_nonneg (Int.le_of_lt hq) hd0
    have h2 : s * 256 ≤ s * (q * 256) := Int.mul_le_mul_of_nonneg_left (by omega) hs
    rw [if_neg (by unfold B56; omega), ih (by rw [key]; exact hb), key]

theorem num_back {m : Nat} {n : Int} (h1 : n ≤ 18446744073709551615) (hz : n / 256 ^ m = 0) : numZ 0 (beZ m n) = (n, true) := by
  have e := mod_of_div hz
  have := numZ_beZ m n 0 (Int.le_refl 0) (by rw [e]; omega)
  rw [this, e]
  simp

/-- Uint of Int. -/
theorem uint_int (x : Int) (h0 : 0 ≤ x) (h1 : x ≤ 18446744073709551615) : uintZ (intT x) = (x, 0) := by
  have e : numZ 0 (intT x).body = (x, true) := by
    show numZ 0 (bigZ (leastZ x)) = (x, true)
    rw [numZ_big]
    exact num_back h1 (leastM_is h0 h1).2.2.1
  unfold uintZ
  rw [e, if_pos ⟨rfl, same_refl _⟩]

/-! ### What is read is laid as just that -/
theorem uint_just {t : T} {x : Int} (h : uintZ t = (x, 0)) : intT x = t := by
  unfold uintZ at h
  split at h
  · rename_i c
    injection h with h1 _
    rw [h1] at c
    exact (same_is _ _ c.2).symm
  · injection h with _ h2
    cases h2
theorem arcs_just {t : T} {l : List Int} (h : arcsR t = (l, 0)) : oidZ l = (t, 0) := by
  unfold arcsR at h
  split at h
  · injection h with _ h2
    cases h2
  · split at h
    · rename_i c
      injection h with h1 _
      subst h1
      exact Prod.ext (same_is _ _ c.2) c.1
    · injection h with _ h2
      cases h2
theorem of_just {t : T} {b : List Int} {many : Int} (h : ofZ t = (b, many, 0)) : bitsZ b many = (t, 0) := by
  unfold ofZ at h
  split at h
  · injection h with _ h2
    injection h2 with _ h3
    cases h3
  · split at h
    · rename_i c
      injection h with h1 h2
      injection h2 with h2 _
      rw [h2, h1] at c
      exact Prod.ext (same_is _ _ c.2) c.1
    · injection h with _ h2
      injection h2 with _ h3
      cases h3
theorem words_just {t : T} {s : ByteArray} (h : wordsZ t = (s, 0)) : textZ s = (t, 0) := by
  unfold wordsZ at h
  split at h
  · rename_i c
    injection h with h1 _
    rw [h1] at c
    exact Prod.ext (same_is _ _ c.2) c.1
  · injection h with _ h2
    cases h2
theorem when_just {t : T} {s : Int} (h : WhenR t (s, 0)) : ∃ S ok, Clk.TextR s S ok ∧ timeZ S ok = (t, 0) := by
  obtain ⟨S, ok, hR, h⟩ := h
  split at h
  · rename_i c
    injection h with h1 _
    rw [← h1] at hR
    exact ⟨S, ok, hR, Prod.ext (same_is _ _ c.2.2) c.2.1⟩
  · injection h with _ h2
    cases h2

end Go.Proofs.YtjhffnoddhlikaaDoor
