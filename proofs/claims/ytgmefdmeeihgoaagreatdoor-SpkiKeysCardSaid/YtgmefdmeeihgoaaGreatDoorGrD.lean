/-
  Merged texts: Sc11, Sc12, ScN, Sc15, Plain, SizeT, Right, Fork, Lay, Parse.
-/
import Derived.Test.YtgmefdmeeihgoaaGreatDoorGrC
import Derived.Test.YtgmefdmeeihgoaaGreatDoorGrA
import Derived.Test.YtgmefdmeeihgoaaGreatDoorGrB
import Derived.Handy
namespace Go.Proofs.YtgmefdmeeihgoaaGreatDoor
open Go.RowKit
set_option linter.unusedVariables false
def ofZ (t : T) : List Int × Int × Int :=
  if t.body = [] ∨ 7 < t.body[(0 : Nat)]?.getD 0 then ([], 0, 2)
  else if (bitsZ (t.body.drop 1) (8 * ((t.body.drop 1).length : Int) - t.body[(0 : Nat)]?.getD 0)).2 = 0 ∧ sameT (bitsZ (t.body.drop 1) (8 * ((t.body.drop 1).length : Int) - t.body[(0 : Nat)]?.getD 0)).1 t = true
  then (t.body.drop 1, 8 * ((t.body.drop 1).length : Int) - t.body[(0 : Nat)]?.getD 0, 0) else ([], 0, 2)
def GivesOf (x : List Int × Int × Int) (w : World) (e : Ending) (w' : World) : Prop :=
  ∃ a c, e = .returned (.tuple #[.slice a x.1.length c, .int .i64 x.2.1, .int .i64 x.2.2]) ∧ Row w' a x.1.length x.1 ∧ (a = none → c = 0) ∧ x.1.length ≤ c ∧ Below w.heap.size w w'
theorem gives_of_no {x : List Int × Int × Int} {w w' : World} (h : x = ([], 0, 2)) (hb : Below w.heap.size w w') : GivesOf x w (.returned (.tuple #[.slice none 0 0, .int .i64 0, .int .i64 2])) w' := by
  subst h
  exact ⟨Option.none, 0, rfl, Row.nil _ _, fun _ => rfl, Nat.le_refl _, hb⟩
theorem bits_err (zs : List Int) (many : Int) : (bitsZ zs many).2 = 0 ∨ (bitsZ zs many).2 = 1 := by
  unfold bitsZ
  split
  · split
    · exact .inr rfl
    · exact .inl rfl
  · exact .inr rfl
set_option maxHeartbeats 4000000 in
set_option maxRecDepth 100000 in
theorem rof_any (t : T) (v : Value) (w : World) (hin : t.In w v) (hcap : Capped v) (hwt : t.body.length ≤ 100000) : Calls Tryz.prog 30 #[v] w (GivesOf (ofZ t) w) := by
  obtain ⟨A, n, c, K, m, d, rfl, hw, hr, hn, hc, hm, hm', hks⟩ := hin.open
  have hnc := hcap.is
  have BX := Lib.hid (Box.start hin)
  have GZ : Hid (ofZ t = ofZ t) := rfl
  have HL := Lib.hid hr.1
  have R0 := Lib.hid (hr.below BX.out.below)
  have HB := Lib.hid hr.2.1
  obtain ⟨g0, g1, g2⟩ := BX.out.cells
  have hln := hr.1
  clear hks hin hcap hm hm' hw hn hr
  go_enter Tryz.func30, Tryz.ntmps30
  generalize hw2 : w.alloc (.cells #[.int .i64 t.tag, .slice A n c, .slice K m d] 28) = w2 at *
  by_cases hn0 : n = 0
  · have F : Hid (ofZ t = ([], 0, 2)) := if_pos (.inl (List.eq_nil_of_length_eq_zero (by omega)))
    subst hn0
    go_wp2_with fail
    go_ret3
    exact gives_of_no F.out BX.out.below
  obtain ⟨b, off, rfl, hbl, hcell⟩ := R0.out.2.2 (by omega)
  have c0 := hcell 0 (by omega)
  rw [Nat.add_zero] at c0
  have z0 := R0.out.byte 0
  have hlt2 : w.heap.size < w2.heap.size := BX.out.blk.lt
  clear hcell
  by_cases h7 : 7 < t.body[(0 : Nat)]?.getD 0
  · have F : Hid (ofZ t = ([], 0, 2)) := if_pos (.inr h7)
    generalize t.body[(0 : Nat)]?.getD 0 = x at *
    have t0 : ((n : Int) == 0) = false := by simp; omega
    go_wp2_with fail
    go_ret3
    exact gives_of_no F.out BX.out.below
  have GX : Hid (ofZ t = if (bitsZ (t.body.drop 1) (8 * ((t.body.drop 1).length : Int) - t.body[(0 : Nat)]?.getD 0)).2 = 0 ∧ sameT (bitsZ (t.body.drop 1) (8 * ((t.body.drop 1).length : Int) - t.body[(0 : Nat)]?.getD 0)).1 t = true then (t.body.drop 1, 8 * ((t.body.drop 1).length : Int) - t.body[(0 : Nat)]?.getD 0, 0) else ([], 0, 2)) :=
    if_neg (fun h => by
      rcases h with h | h
      · rw [h] at hln; simp at hln; omega
      · exact h7 h)
  have RW := R0.out.rest 1 c (by omega) hnc
  have hrl : (t.body.drop 1).length = n - 1 := by rw [List.length_drop]; omega
  generalize t.body[(0 : Nat)]?.getD 0 = x at *
  have t0 : ((n : Int) == 0) = false := by simp; omega
  have hby : ∀ y ∈ t.body.drop 1, 0 ≤ y ∧ y ≤ 255 := fun y hy => HB.out y (List.mem_of_mem_drop hy)
  have BY := Lib.hid hby
  generalize t.body.drop 1 = r at *
  have n1 : 1 ≤ n := by omega
  obtain ⟨k, rfl⟩ : ∃ k, n = k + 1 := ⟨n - 1, by omega⟩
  have hrk : r.length = k := by omega
  clear hby hn0 hrl hln
  subst hrk
  have hrb : r.length ≤ 100000 := by have := HL.out; omega
  by_cases hck : c = 1
  · subst hck
    have r0 : r = [] := List.eq_nil_of_length_eq_zero (by omega)
    subst r0
    simp only [List.length_nil, Nat.zero_add] at hw2 g1 t0
    have RX := Lib.hid (Row.nil (w2.alloc (.cells #[] 5)))
    clear RW
    go_wp2_with (at_builtin; go_must (refine out_append (W0 := w2) (L := []) (zs := []) rfl _ _ rfl rfl (out_zero w2) rfl (RX.out _) (fun _ => rfl) (by simp) ?_; intro V1 w3 ho1; rw [List.nil_append] at ho1; have HO := Lib.hid ho1; have B3 := Lib.hid (BX.out.go ho1.2); have c3b := (ho1.2.cell (p := ⟨b, off, none⟩) hbl).trans c0; obtain ⟨b1, c1, rfl, hr1⟩ := ho1.row BY.out; have R3 := Lib.hid hr1; clear g0 g1 g2 c0 ho1 hr1; obtain ⟨g0, g1, g2⟩ := B3.out.cells))
    have GY : Hid (ofZ t = if (bitsZ [] (-x)).2 = 0 ∧ sameT (bitsZ [] (-x)).1 t = true then ([], -x, 0) else ([], 0, 2)) := by have := GX.out; simp at this; exact this
    clear GX
    have CB := Lib.hid (rbits_any b1 0 c1 [] (-x) w3 R3.out (by omega) HO.out.nilc)
    have HE := bits_err [] (-x)
    generalize bitsZ [] (-x) = X at *
    go_wp2_with fail
    refine CB.out.mono ?_
    rintro e w4 ⟨A3, n3, c3, K3, m3, d3, rfl, hin3, hb3⟩
    have B4 := Lib.hid ((B3.out.go hb3).go ((Below.refl w4.heap.size w4).alloc (Nat.le_refl _) (.cells #[.int .i64 X.1.tag, .slice A3 n3 c3, .slice K3 m3 d3] 28)))
    have X4 := Lib.hid (T.In.below ((Below.refl w4.heap.size w4).alloc (Nat.le_refl _) (.cells #[.int .i64 X.1.tag, .slice A3 n3 c3, .slice K3 m3 d3] 28)) X.1 (T.InP.in _ hin3))
    have R4 := Lib.hid ((R3.out.below hb3).below ((Below.refl w4.heap.size w4).alloc (Nat.le_refl _) (.cells #[.int .i64 X.1.tag, .slice A3 n3 c3, .slice K3 m3 d3] 28)))
    clear hin3 hb3 B3 CB g0 g1 g2 c3b
    obtain ⟨g0, g1, g2⟩ := B4.out.cells
    obtain ⟨xt, xe⟩ := X
    rcases HE with rfl | rfl
    · have CS := Lib.hid (same_any xt t _ _ _ X4.out B4.out.has)
      clear X4
      go_wp2_with fail
      refine CS.out.mono ?_
      rintro e w5 ⟨rfl, hb5⟩
      have B5 := Lib.hid (B4.out.go hb5)
      have R5 := Lib.hid (R4.out.below hb5)
      clear hb5 CS B4 g0 g1 g2
      cases hs : sameT xt t
      · have F : Hid (ofZ t = ([], 0, 2)) := by rw [GY.out, hs]; rfl
        clear GY
        go_wp2_with fail
        go_ret3
        exact gives_of_no F.out B5.out.below
      · have F : Hid (ofZ t = ([], -x, 0)) := by rw [GY.out, hs]; rfl
        clear GY
        go_wp2_with fail
        go_ret3
        rw [F.out]
        exact ⟨b1, c1, rfl, R5.out, HO.out.nilc, own_cap HO.out.1, B5.out.below⟩
    · have F : Hid (ofZ t = ([], 0, 2)) := by rw [GY.out]; simp [Hid]
      clear GY
      go_wp2_with fail
      go_ret3
      exact gives_of_no F.out B4.out.below
  · rw [if_neg hck, Option.map_some, Addr.add_lit] at RW
    have RX := Lib.hid (RW.below ((Below.refl w2.heap.size w2).alloc (Nat.le_refl _) (.cells #[] 5)))
    clear RW
    go_wp2_with (at_builtin; go_must (refine out_append (W0 := w2) (L := []) (zs := r) rfl _ _ rfl rfl (out_zero w2) rfl RX.out (fun e => by cases e) (by simp; omega) ?_; intro V1 w3 ho1; rw [List.nil_append] at ho1; have HO := Lib.hid ho1; have B3 := Lib.hid (BX.out.go ho1.2); have c3b := (ho1.2.cell (p := ⟨b, off, none⟩) hbl).trans c0; obtain ⟨b1, c1, rfl, hr1⟩ := ho1.row BY.out; have R3 := Lib.hid hr1; clear g0 g1 g2 c0 ho1 hr1; obtain ⟨g0, g1, g2⟩ := B3.out.cells))
    have CB := Lib.hid (rbits_any b1 r.length c1 r (8 * (r.length : Int) - x) w3 R3.out (by omega) HO.out.nilc)
    have HE := bits_err r (8 * (r.length : Int) - x)
    generalize bitsZ r (8 * (r.length : Int) - x) = X at *
    go_wp2_with fail
    refine CB.out.mono ?_
    rintro e w4 ⟨A3, n3, c3, K3, m3, d3, rfl, hin3, hb3⟩
    have B4 := Lib.hid ((B3.out.go hb3).go ((Below.refl w4.heap.size w4).alloc (Nat.le_refl _) (.cells #[.int .i64 X.1.tag, .slice A3 n3 c3, .slice K3 m3 d3] 28)))
    have X4 := Lib.hid (T.In.below ((Below.refl w4.heap.size w4).alloc (Nat.le_refl _) (.cells #[.int .i64 X.1.tag, .slice A3 n3 c3, .slice K3 m3 d3] 28)) X.1 (T.InP.in _ hin3))
    have R4 := Lib.hid ((R3.out.below hb3).below ((Below.refl w4.heap.size w4).alloc (Nat.le_refl _) (.cells #[.int .i64 X.1.tag, .slice A3 n3 c3, .slice K3 m3 d3] 28)))
    clear hin3 hb3 B3 CB g0 g1 g2 c3b
    obtain ⟨g0, g1, g2⟩ := B4.out.cells
    obtain ⟨xt, xe⟩ := X
    rcases HE with rfl | rfl
    · have CS := Lib.hid (same_any xt t _ _ _ X4.out B4.out.has)
      clear X4
      go_wp2_with fail
      refine CS.out.mono ?_
      rintro e w5 ⟨rfl, hb5⟩
      have B5 := Lib.hid (B4.out.go hb5)
      have R5 := Lib.hid (R4.out.below hb5)
      clear hb5 CS B4 g0 g1 g2
      cases hs : sameT xt t
      · have F : Hid (ofZ t = ([], 0, 2)) := by rw [GX.out, hs]; rfl
        clear GX
        go_wp2_with fail
        go_ret3
        exact gives_of_no F.out B5.out.below
      · have F : Hid (ofZ t = (r, 8 * (r.length : Int) - x, 0)) := by rw [GX.out, hs]; rfl
        clear GX
        go_wp2_with fail
        go_ret3
        rw [F.out]
        exact ⟨b1, c1, rfl, R5.out, HO.out.nilc, own_cap HO.out.1, B5.out.below⟩
    · have F : Hid (ofZ t = ([], 0, 2)) := by rw [GX.out]; simp [Hid]
      clear GX
      go_wp2_with fail
      go_ret3
      exact gives_of_no F.out B4.out.below
end Go.Proofs.YtgmefdmeeihgoaaGreatDoor
namespace Go.Proofs.YtgmefdmeeihgoaaGreatDoor
open Go.RowKit
set_option linter.unusedVariables false
theorem seven_int (v : Int) (w : World) (h0 : 0 ≤ v) (h1 : v < 18446744073709551616) : Calls Tryz.prog 80 #[.int .u64 v] w (GivesNew (sevenN v.toNat) w) := by
  obtain ⟨n, rfl⟩ := Int.eq_ofNat_of_zero_le h0
  rw [Int.toNat_natCast]
  exact seven_any n w (by omega)
def OidOk (zs : List Int) : Prop := 2 ≤ zs.length ∧ zs.length ≤ 20 ∧ zs[(0 : Nat)]?.getD 0 ≤ 2 ∧ zs[(1 : Nat)]?.getD 0 ≤ 4294967200 ∧ (zs[(1 : Nat)]?.getD 0 ≤ 39 ∨ zs[(0 : Nat)]?.getD 0 = 2)
instance (zs : List Int) : Decidable (OidOk zs) := by unfold OidOk; infer_instance
def sevens (zs : List Int) : List Int := zs.flatMap fun z => sevenN z.toNat
theorem sevens_drop {zs : List Int} {k : Nat} (h : k < zs.length) : sevens (zs.drop k) = sevenN (zs[k]?.getD 0).toNat ++ sevens (zs.drop (k + 1)) := by
  unfold sevens
  rw [List.drop_eq_getElem_cons h, List.flatMap_cons, List.getElem?_eq_getElem h]
  rfl
def oidB (zs : List Int) : List Int := sevenN (40 * zs[(0 : Nat)]?.getD 0 + zs[(1 : Nat)]?.getD 0).toNat ++ sevens (zs.drop 2)
def oidZ (zs : List Int) : T × Int := if OidOk zs then (.node 6 (oidB zs) [], 0) else (zeroT, 1)
set_option maxHeartbeats 4000000 in
set_option maxRecDepth 100000 in
theorem roid_any (a : Option Addr) (n ca : Nat) (zs : List Int) (w : World) (hr : Row32 w a n zs) : Calls Tryz.prog 47 #[.slice a n ca] w (GivesNodeE (oidZ zs) w) := by
  have S0 := Lib.hid (RB.start w)
  have R0 := Lib.hid (hr.below S0.out.below)
  have HL := Lib.hid hr.1
  clear hr
  have FB : OidOk zs ↔ (2 ≤ n ∧ n ≤ 20 ∧ zs[(0 : Nat)]?.getD 0 ≤ 2 ∧ zs[(1 : Nat)]?.getD 0 ≤ 4294967200 ∧ (zs[(1 : Nat)]?.getD 0 ≤ 39 ∨ zs[(0 : Nat)]?.getD 0 = 2)) := by unfold OidOk; rw [HL.out]
  have x0 := R0.out.num 0
  have x1 := R0.out.num 1
  have BZ : Hid (OidOk zs → oidZ zs = (.node 6 (sevenN (40 * zs[(0 : Nat)]?.getD 0 + zs[(1 : Nat)]?.getD 0).toNat ++ sevens (zs.drop 2)) [], 0)) := fun h => if_pos h
  have NZ : Hid (¬ OidOk zs → oidZ zs = (.node 0 [] [], 1)) := fun h => if_neg h
  have RN := Lib.hid (Row.nil (w.alloc (.cells #[.int .i64 0, .slice none 0 0, .slice none 0 0] 28)))
  go_enter Tryz.func47, Tryz.ntmps47
  by_cases h2 : 2 ≤ n
  rotate_left
  · have F := Lib.hid (NZ.out (by rw [FB]; omega))
    go_wp2_with fail
    exact gives_ate (zs := []) (c := 0) F.out rfl rfl rfl S0.out.box S0.out.below (RN.out _) (fun h => absurd h (by simp)) ⟨fun _ => rfl, Nat.le_refl _⟩ rfl (by simp)
  by_cases h20 : n ≤ 20
  rotate_left
  · have F := Lib.hid (NZ.out (by rw [FB]; omega))
    go_wp2_with fail
    exact gives_ate (zs := []) (c := 0) F.out rfl rfl rfl S0.out.box S0.out.below (RN.out _) (fun h => absurd h (by simp)) ⟨fun _ => rfl, Nat.le_refl _⟩ rfl (by simp)
  obtain ⟨b, off, rfl, hbl, hcell⟩ := R0.out.2.2 (by omega)
  have c0 := hcell 0 (by omega)
  have c1 := hcell 1 (by omega)
  rw [Nat.add_zero] at c0
  clear hcell
  generalize zs[(0 : Nat)]?.getD 0 = p at *
  generalize zs[(1 : Nat)]?.getD 0 = q at *
  by_cases hp : p ≤ 2
  rotate_left
  · have F := Lib.hid (NZ.out (by rw [FB]; omega))
    go_wp2_with fail
    exact gives_ate (zs := []) (c := 0) F.out rfl rfl rfl S0.out.box S0.out.below (RN.out _) (fun h => absurd h (by simp)) ⟨fun _ => rfl, Nat.le_refl _⟩ rfl (by simp)
  by_cases hq : q ≤ 4294967200
  rotate_left
  · have F := Lib.hid (NZ.out (by rw [FB]; omega))
    go_wp2_with fail
    exact gives_ate (zs := []) (c := 0) F.out rfl rfl rfl S0.out.box S0.out.below (RN.out _) (fun h => absurd h (by simp)) ⟨fun _ => rfl, Nat.le_refl _⟩ rfl (by simp)
  by_cases hpq : q ≤ 39 ∨ p = 2
  rotate_left
  · have F := Lib.hid (NZ.out (by rw [FB]; omega))
    have t2 : (p != 2) = true := by simp; omega
    have t3 : ¬ q ≤ 39 := by omega
    clear hpq
    go_wp2_with fail
    exact gives_ate (zs := []) (c := 0) F.out rfl rfl rfl S0.out.box S0.out.below (RN.out _) (fun h => absurd h (by simp)) ⟨fun _ => rfl, Nat.le_refl _⟩ rfl (by simp)
  have G := Lib.hid (BZ.out (FB.2 ⟨h2, h20, hp, hq, hpq⟩))
  have kp : IntKind.u64.wrap p = p := IntWalk.u64_in _ (by omega)
  have kq : IntKind.u64.wrap q = q := IntWalk.u64_in _ (by omega)
  have kpp : IntKind.u64.wrap (40 * p) = 40 * p := IntWalk.u64_in _ (by omega)
  have kpq : IntKind.u64.wrap (40 * p + q) = 40 * p + q := IntWalk.u64_in _ (by omega)
  have k0 : (0 : Int) < (n : Int) := by omega
  have k1 : (1 : Int) < (n : Int) := by omega
  clear BZ NZ FB RN
  by_cases h39 : q ≤ 39
  · clear hpq
    go_wp2_with fail
    generalize hw0 : w.alloc (.cells #[.int .i64 0, .slice none 0 0, .slice none 0 0] 28) = w0 at *
    clear hw0
    have hlt0 : w.heap.size < w0.heap.size := S0.out.box.lt
    have l0 := cell_later c0
    have l1 := cell_later c1
    clear c0 c1
    refine wp_region_ord Ext Ext.refl (fun _ _ _ => Ext.trans) ((0, false) :: (1, false) :: (2, false) :: (3, false) :: (4, false) :: (5, false) :: (6, false) :: (7, false) :: (8, false) :: (9, false) :: (10, true) :: (11, false) :: []) (by kernel_rfl) (by kernel_rfl) rfl (by kernel_rfl) (fun _ _ _ _ _ h => h) ?_
    repeat (refine ord_take _ rfl (by rfl) (fun W hW => by go_simp; first | done | rfl) ?_; simp only [Act.put, List.setIfInBounds_toArray, List.set_cons_zero, List.set_cons_succ])
    clear l0 l1
    refine ord_sole rfl (by rfl) (fun K1 hK1 => ?_)
    go_simp
    refine (seven_int (40 * p + q) _ (by omega) (by omega)).mono ?_
    rintro e w1 ⟨V, rfl, ho⟩
    have hb1 : Ext w0 w1 := Ext.of_drew ho.2
    have O1 := Lib.hid (ho.wider (Ext.drew (Ext.refl w0)))
    refine hK1 _ _ ho.2 ?_
    clear hK1 K1 ho
    clear hb1
    repeat (refine ord_take _ rfl (by rfl) (fun W hW => by go_simp; first | done | rfl) ?_; simp only [Act.put, List.setIfInBounds_toArray, List.set_cons_zero, List.set_cons_succ])
    refine ord_end ?_
    have hl7 := seven_len (n := (40 * p + q).toNat) (by omega)
    have SB := Lib.hid (seven_byte (40 * p + q).toNat)
    generalize sevenN (40 * p + q).toNat = L0 at *
    go_wp2_with fail
    go_loopw [4, 5] (fun V i wr => ∃ (k : Nat) (L : List Int), 2 ≤ k ∧ k ≤ n ∧ i = .int .i64 (k : Int) ∧ Out w0 wr V L ∧ (∀ x ∈ L, 0 ≤ x ∧ x ≤ 255) ∧ L.length ≤ 10 * k ∧ L ++ sevens (zs.drop k) = L0 ++ sevens (zs.drop 2)) (fun _ i _ => n - (intOf i).toNat)
    case atStart => exact ⟨2, L0, by omega, by omega, rfl, O1.out, SB.out, by omega, rfl⟩
    case round =>
      obtain ⟨k, L, hk2, hk, rfl, ho, hby, hll, hs⟩ := hrel
      have HO := Lib.hid ho
      have HB := Lib.hid hby
      have HS := Lib.hid hs
      obtain ⟨aV, cV, rfl, hrV⟩ := ho.row hby
      have RV := Lib.hid hrV
      clear ho hby hs hrV O1 SB hl7
      by_cases hlt : k < n
      · obtain ⟨b', off', e', hbl', hcell'⟩ := (R0.out.below HO.out.2).2.2 (by omega)
        injection e' with e'
        injection e' with e1 e2
        subst e1 e2
        have ck := hcell' k hlt
        have xk := R0.out.num k
        have ST := Lib.hid (sevens_drop (zs := zs) (k := k) (by rw [HL.out]; exact hlt))
        clear hcell' hbl'
        generalize zs[k]?.getD 0 = x at *
        have kx : IntKind.u64.wrap x = x := IntWalk.u64_in _ (by omega)
        have kk : (k : Int) < (n : Int) := by omega
        go_wp2_with fail
        refine (seven_int x _ (by omega) (by omega)).mono ?_
        rintro e w2 ⟨V7, rfl, ho7⟩
        have B7 := Lib.hid (seven_byte x.toNat)
        have l7 := seven_len (n := x.toNat) (by omega)
        obtain ⟨a7, c7, rfl, hr7⟩ := ho7.row B7.out
        have R7 := Lib.hid hr7
        have N7 := Lib.hid ho7.nilc
        have O7 := Lib.hid (HO.out.below ho7.2)
        clear ho7 hr7 HO ck
        generalize sevenN x.toNat = L7 at *
        go_wp2_with (at_builtin; go_must (refine out_append (W0 := w0) (L := L) (zs := L7) rfl _ _ rfl rfl O7.out rfl R7.out N7.out (by omega) ?_; intro V4 w4 ho4; have O4 := Lib.hid ho4; clear ho4))
        go_roundw
        case rel => exact ⟨k + 1, L ++ L7, by omega, by omega, by go_num, O4.out, (by intro y hy; rcases List.mem_append.1 hy with hy | hy; exact HB.out y hy; exact B7.out y hy), by rw [List.length_append]; omega, by rw [List.append_assoc, ← ST.out]; exact HS.out⟩
        case measure => simp [intOf]; omega
      · obtain rfl : k = n := by omega
        have F : Hid (oidZ zs = (.node 6 L [], 0)) := by
          rw [G.out, ← HS.out, List.drop_of_length_le (by rw [HL.out]; exact Nat.le_refl _)]
          simp [sevens, Hid]
        have S1 := Lib.hid (S0.out.go HO.out.2)
        obtain ⟨p0, p1, p2, f0, f1, f2⟩ := S1.out.box.six
        clear HS
        go_wp2_with fail
        exact gives_leafe (zs := L) (c := cV) F.out rfl rfl rfl S1.out RV.out (fun h0 => by obtain ⟨b, off, e, hb⟩ := out_off HO.out h0; exact ⟨b, off, e, Nat.lt_of_lt_of_le hlt0 hb⟩) ⟨HO.out.nilc, own_cap HO.out.1⟩ rfl (by omega)
  · obtain rfl : p = 2 := by omega
    have G2 : Hid (oidZ zs = (.node 6 (sevenN (80 + q).toNat ++ sevens (zs.drop 2)) [], 0)) := by
      have := G.out
      rw [show (40 : Int) * 2 = 80 by rfl] at this
      exact this
    have k2 : IntKind.u64.wrap 2 = 2 := IntWalk.u64_in _ (by omega)
    have k80 : IntKind.u64.wrap 80 = 80 := IntWalk.u64_in _ (by omega)
    have k80q : IntKind.u64.wrap (80 + q) = 80 + q := IntWalk.u64_in _ (by omega)
    clear G hpq kp kpp kpq
    go_wp2_with fail
    generalize hw0 : w.alloc (.cells #[.int .i64 0, .slice none 0 0, .slice none 0 0] 28) = w0 at *
    clear hw0
    have hlt0 : w.heap.size < w0.heap.size := S0.out.box.lt
    have l0 := cell_later c0
    have l1 := cell_later c1
    clear c0 c1
    refine wp_region_ord Ext Ext.refl (fun _ _ _ => Ext.trans) ((0, false) :: (1, false) :: (2, false) :: (3, false) :: (4, false) :: (5, false) :: (6, false) :: (7, false) :: (8, false) :: (9, false) :: (10, true) :: (11, false) :: []) (by kernel_rfl) (by kernel_rfl) rfl (by kernel_rfl) (fun _ _ _ _ _ h => h) ?_
    repeat (refine ord_take _ rfl (by rfl) (fun W hW => by go_simp; first | done | rfl) ?_; simp only [Act.put, List.setIfInBounds_toArray, List.set_cons_zero, List.set_cons_succ])
    clear l0 l1
    refine ord_sole rfl (by rfl) (fun K1 hK1 => ?_)
    go_simp
    refine (seven_int (80 + q) _ (by omega) (by omega)).mono ?_
    rintro e w1 ⟨V, rfl, ho⟩
    have hb1 : Ext w0 w1 := Ext.of_drew ho.2
    have O1 := Lib.hid (ho.wider (Ext.drew (Ext.refl w0)))
    refine hK1 _ _ ho.2 ?_
    clear hK1 K1 ho
    clear hb1
    repeat (refine ord_take _ rfl (by rfl) (fun W hW => by go_simp; first | done | rfl) ?_; simp only [Act.put, List.setIfInBounds_toArray, List.set_cons_zero, List.set_cons_succ])
    refine ord_end ?_
    have hl7 := seven_len (n := (80 + q).toNat) (by omega)
    have SB := Lib.hid (seven_byte (80 + q).toNat)
    generalize sevenN (80 + q).toNat = L0 at *
    go_wp2_with fail
    go_loopw [4, 5] (fun V i wr => ∃ (k : Nat) (L : List Int), 2 ≤ k ∧ k ≤ n ∧ i = .int .i64 (k : Int) ∧ Out w0 wr V L ∧ (∀ x ∈ L, 0 ≤ x ∧ x ≤ 255) ∧ L.length ≤ 10 * k ∧ L ++ sevens (zs.drop k) = L0 ++ sevens (zs.drop 2)) (fun _ i _ => n - (intOf i).toNat)
    case atStart => exact ⟨2, L0, by omega, by omega, rfl, O1.out, SB.out, by omega, rfl⟩
    case round =>
      obtain ⟨k, L, hk2, hk, rfl, ho, hby, hll, hs⟩ := hrel
      have HO := Lib.hid ho
      have HB := Lib.hid hby
      have HS := Lib.hid hs
      obtain ⟨aV, cV, rfl, hrV⟩ := ho.row hby
      have RV := Lib.hid hrV
      clear ho hby hs hrV O1 SB hl7
      by_cases hlt : k < n
      · obtain ⟨b', off', e', hbl', hcell'⟩ := (R0.out.below HO.out.2).2.2 (by omega)
        injection e' with e'
        injection e' with e1 e2
        subst e1 e2
        have ck := hcell' k hlt
        have xk := R0.out.num k
        have ST := Lib.hid (sevens_drop (zs := zs) (k := k) (by rw [HL.out]; exact hlt))
        clear hcell' hbl'
        generalize zs[k]?.getD 0 = x at *
        have kx : IntKind.u64.wrap x = x := IntWalk.u64_in _ (by omega)
        have kk : (k : Int) < (n : Int) := by omega
        go_wp2_with fail
        refine (seven_int x _ (by omega) (by omega)).mono ?_
        rintro e w2 ⟨V7, rfl, ho7⟩
        have B7 := Lib.hid (seven_byte x.toNat)
        have l7 := seven_len (n := x.toNat) (by omega)
        obtain ⟨a7, c7, rfl, hr7⟩ := ho7.row B7.out
        have R7 := Lib.hid hr7
        have N7 := Lib.hid ho7.nilc
        have O7 := Lib.hid (HO.out.below ho7.2)
        clear ho7 hr7 HO ck
        generalize sevenN x.toNat = L7 at *
        go_wp2_with (at_builtin; go_must (refine out_append (W0 := w0) (L := L) (zs := L7) rfl _ _ rfl rfl O7.out rfl R7.out N7.out (by omega) ?_; intro V4 w4 ho4; have O4 := Lib.hid ho4; clear ho4))
        go_roundw
        case rel => exact ⟨k + 1, L ++ L7, by omega, by omega, by go_num, O4.out, (by intro y hy; rcases List.mem_append.1 hy with hy | hy; exact HB.out y hy; exact B7.out y hy), by rw [List.length_append]; omega, by rw [List.append_assoc, ← ST.out]; exact HS.out⟩
        case measure => simp [intOf]; omega
      · obtain rfl : k = n := by omega
        have F : Hid (oidZ zs = (.node 6 L [], 0)) := by
          rw [G2.out, ← HS.out, List.drop_of_length_le (by rw [HL.out]; exact Nat.le_refl _)]
          simp [sevens, Hid]
        have S1 := Lib.hid (S0.out.go HO.out.2)
        obtain ⟨p0, p1, p2, f0, f1, f2⟩ := S1.out.box.six
        clear HS
        go_wp2_with fail
        exact gives_leafe (zs := L) (c := cV) F.out rfl rfl rfl S1.out RV.out (fun h0 => by obtain ⟨b, off, e, hb⟩ := out_off HO.out h0; exact ⟨b, off, e, Nat.lt_of_lt_of_le hlt0 hb⟩) ⟨HO.out.nilc, own_cap HO.out.1⟩ rfl (by omega)
end Go.Proofs.YtgmefdmeeihgoaaGreatDoor
namespace Go.Proofs.YtgmefdmeeihgoaaGreatDoor
open Go.RowKit
set_option linter.unusedVariables false
theorem numZ_nought (l : List Int) : numZ 0 (0 :: l) = numZ 0 l := by
  rw [numZ, if_neg (by unfold B56; omega)]
  rfl
theorem numZ_bare (l : List Int) : numZ 0 (bareZ l) = numZ 0 l := by
  induction l with
  | nil => rfl
  | cons z r ih =>
    rw [bareZ]
    split
    · rename_i h
      rw [ih, h, numZ_nought]
    · rfl
theorem numZ_big (l : List Int) : numZ 0 (bigZ l) = numZ 0 l := by
  unfold bigZ
  split
  · rw [numZ_nought, numZ_bare]
  · rw [numZ_bare]
end Go.Proofs.YtgmefdmeeihgoaaGreatDoor
namespace Go.Proofs.YtgmefdmeeihgoaaGreatDoor
open Go.RowKit
set_option linter.unusedVariables false
theorem bare_nought (l : List Int) : bareZ (0 :: l) = bareZ l := by rw [bareZ, if_pos rfl]
theorem bare_bare (l : List Int) : bareZ (bareZ l) = bareZ l := by
  induction l with
  | nil => rfl
  | cons z r ih =>
    rw [bareZ]
    split
    · exact ih
    · rename_i h
      rw [bareZ, if_neg h]
theorem bare_big (l : List Int) : bareZ (bigZ l) = bareZ l := by
  unfold bigZ
  split
  · rw [bare_nought, bare_bare]
  · rw [bare_bare]
theorem big_bare (l : List Int) : bigZ (bareZ l) = bigZ l := by
  unfold bigZ
  rw [bare_bare]
theorem great_big (l : List Int) : greatZ (bigT l) = (bareZ l, 0) := by
  have e : bareZ (bigT l).body = bareZ l := bare_big l
  unfold greatZ
  rw [e, show bigT (bareZ l) = bigT l by unfold bigT; rw [big_bare], if_pos (same_refl _)]
theorem fit_whole (l : List Int) : FitBits l (8 * (l.length : Int)) := by unfold FitBits; omega
theorem left_whole (l : List Int) : leftZ l (8 * (l.length : Int)) = 0 := by unfold leftZ; omega
theorem bits_whole (l : List Int) : bitsZ l (8 * (l.length : Int)) = (.node 3 (0 :: l) [], 0) := by
  unfold bitsZ
  rw [if_pos (fit_whole l), left_whole, if_neg (fun h => by omega)]
theorem of_bits (l : List Int) : ofZ (.node 3 (0 :: l) []) = (l, 8 * (l.length : Int), 0) := by
  have e : ((T.node 3 (0 :: l) []).body) = 0 :: l := rfl
  unfold ofZ
  rw [e, if_neg (by simp)]
  simp only [List.drop_succ_cons, List.drop_zero, List.getElem?_cons_zero, Option.getD_some, Int.sub_zero]
  rw [bits_whole, if_pos ⟨rfl, same_refl _⟩]
end Go.Proofs.YtgmefdmeeihgoaaGreatDoor
namespace Go.Proofs.YtgmefdmeeihgoaaGreatDoor
open Go.RowKit
/- The plain weight, and the depth. -/
mutual
def wt : T → Int
  | .node _ b ks => 1 + b.length + wtAll ks
def wtAll : List T → Int
  | [] => 0
  | x :: r => wt x + wtAll r
end
mutual
def dp : T → Int
  | .node _ _ ks => 1 + dpAll ks
def dpAll : List T → Int
  | [] => 0
  | x :: r => if dpAll r < dp x then dp x else dpAll r
end
theorem wt_eq (t : T) : wt t = 1 + t.body.length + wtAll t.kids := by
  obtain ⟨tag, b, ks⟩ := t
  rw [wt]
  rfl
theorem dp_eq (t : T) : dp t = 1 + dpAll t.kids := by
  obtain ⟨tag, b, ks⟩ := t
  rw [dp]
  rfl
theorem wtAll_ge (ks : List T) (h : ∀ k ∈ ks, 1 ≤ wt k) : 0 ≤ wtAll ks := by
  induction ks with
  | nil => rw [wtAll]; omega
  | cons k r ih =>
    rw [wtAll]
    have := h k (by simp)
    have := ih (fun x hx => h x (by simp [hx]))
    omega
theorem wt_ge (t : T) : 1 ≤ wt t := by
  refine T.each (p := fun t => 1 ≤ wt t) ?_ t
  intro t ih
  have := wtAll_ge t.kids ih
  rw [wt_eq]
  omega
theorem wtAll_pos (ks : List T) : 0 ≤ wtAll ks := wtAll_ge ks (fun k _ => wt_ge k)
theorem wtAll_mem {ks : List T} {k : T} (h : k ∈ ks) : wt k ≤ wtAll ks := by
  induction ks with
  | nil => simp at h
  | cons x r ih =>
    rw [wtAll]
    rcases List.mem_cons.1 h with rfl | h
    · have := wtAll_pos r
      omega
    · have := ih h
      have := wt_ge x
      omega
theorem dpAll_ge (ks : List T) : 0 ≤ dpAll ks := by
  induction ks with
  | nil => rw [dpAll]; omega
  | cons x r ih =>
    rw [dpAll]
    split <;> omega
theorem weighAll_le (ks : List T) (deep : Nat) : ∀ a : Int, a ≤ weighAll ks deep a := by
  induction ks with
  | nil => intro a; rw [weighAll]; omega
  | cons k r ih =>
    intro a
    rw [weighAll]
    split
    · have := ih (a + weighT k (deep + 1))
      have := weigh_ge k (deep + 1)
      omega
    · omega
theorem light_plain (t : T) : ∀ deep : Nat, weighT t deep < 30000 → weighT t deep = wt t ∧ dp t + deep ≤ 61 := by
  refine T.each (p := fun t => ∀ deep : Nat, weighT t deep < 30000 → weighT t deep = wt t ∧ dp t + deep ≤ 61) ?_ t
  intro t ih deep h
  rw [weighT_eq] at h ⊢
  have h60 : ¬ 60 < deep := by
    intro h'
    rw [if_pos h'] at h
    omega
  rw [if_neg h60] at h ⊢
  have hle := weighAll_le t.kids deep (1 + (if (t.body.length : Int) < 30000 then (t.body.length : Int) else 30000))
  have hb : (t.body.length : Int) < 30000 := by
    rcases (show (t.body.length : Int) < 30000 ∨ 30000 ≤ (t.body.length : Int) by omega) with h' | h'
    · exact h'
    · rw [if_neg (by omega)] at hle h
      omega
  rw [if_pos hb] at h ⊢
  have key : ∀ ks : List T, (∀ k ∈ ks, ∀ deep : Nat, weighT k deep < 30000 → weighT k deep = wt k ∧ dp k + deep ≤ 61) → ∀ a : Int, 0 ≤ a → weighAll ks deep a < 30000 → weighAll ks deep a = a + wtAll ks ∧ dpAll ks + 1 + deep ≤ 61 := by
    intro ks
    induction ks with
    | nil => intro _ a _ h; rw [weighAll, wtAll, dpAll]; omega
    | cons k r ihr =>
      intro hk a ha h
      rw [weighAll] at h ⊢
      by_cases h3 : a < 30000
      · rw [if_pos h3] at h ⊢
        have h4 := weighAll_le r deep (a + weighT k (deep + 1))
        have h5 := weigh_ge k (deep + 1)
        obtain ⟨e1, e2⟩ := hk k (by simp) (deep + 1) (by omega)
        obtain ⟨e3, e4⟩ := ihr (fun x hx => hk x (by simp [hx])) _ (by omega) h
        rw [wtAll, dpAll]
        refine ⟨by omega, ?_⟩
        split <;> omega
      · rw [if_neg h3] at h
        omega
  obtain ⟨e1, e2⟩ := key t.kids ih _ (by omega) h
  rw [wt_eq, dp_eq]
  omega
theorem light_wt {t : T} (h : lightT t = true) : wt t < 30000 ∧ dp t ≤ 61 := by
  unfold lightT at h
  have h' := of_decide_eq_true h
  have := light_plain t 0 h'
  omega
/- Tags. -/
def withinB (z : Int) : Bool := (z.tdiv 32).tmod 2 == 1
def tagB (z : Int) : Bool := decide (0 ≤ z) && (decide (z < 256) && (z % 32 != 31))
/- Lengths. -/
def lenLen (c : Int) : Int := if c < 128 then 1 else if c < 256 then 2 else 3
def lenB (c : Int) : List Int := if c < 128 then [c] else if c < 256 then [129, c] else [130, c / 256 % 256, c % 256]
theorem lenB_length (c : Int) : ((lenB c).length : Int) = lenLen c := by
  unfold lenB lenLen
  split
  · rfl
  · split <;> rfl
theorem lenB_byte {c : Int} (h0 : 0 ≤ c) : ∀ x ∈ lenB c, 0 ≤ x ∧ x ≤ 255 := by
  intro x hx
  unfold lenB at hx
  split at hx
  · have : x = c := by simpa using hx
    omega
  · split at hx
    · have : x = 129 ∨ x = c := by simpa using hx
      omega
    · have : x = 130 ∨ x = c / 256 % 256 ∨ x = c % 256 := by simpa using hx
      omega
theorem lenLen_range (c : Int) : 1 ≤ lenLen c ∧ lenLen c ≤ 3 := by
  unfold lenLen
  split
  · omega
  · split <;> omega
/- Sizes. -/
mutual
def bytesT : T → Int
  | .node t b ks => (if withinB t then bytesAll ks else b.length) + 1 + lenLen (if withinB t then bytesAll ks else b.length)
def bytesAll : List T → Int
  | [] => 0
  | x :: r => bytesT x + bytesAll r
end
mutual
def manyT : T → Int
  | .node t _ ks => 1 + (if withinB t then manyAll ks else 0)
def manyAll : List T → Int
  | [] => 0
  | x :: r => manyT x + manyAll r
end
mutual
def deepT : T → Int
  | .node t _ ks => (if withinB t then deepAll ks else 0) + 1
def deepAll : List T → Int
  | [] => 0
  | x :: r => if deepAll r < deepT x then deepT x else deepAll r
end
def inT (t : T) : Int := if withinB t.tag then bytesAll t.kids else t.body.length
theorem bytesT_eq (t : T) : bytesT t = inT t + 1 + lenLen (inT t) := by
  obtain ⟨tag, b, ks⟩ := t
  rw [bytesT]
  rfl
theorem manyT_eq (t : T) : manyT t = 1 + (if withinB t.tag then manyAll t.kids else 0) := by
  obtain ⟨tag, b, ks⟩ := t
  rw [manyT]
  rfl
theorem deepT_eq (t : T) : deepT t = (if withinB t.tag then deepAll t.kids else 0) + 1 := by
  obtain ⟨tag, b, ks⟩ := t
  rw [deepT]
  rfl
theorem size_le (t : T) : 2 ≤ bytesT t ∧ bytesT t ≤ 5 * wt t ∧ 1 ≤ manyT t ∧ manyT t ≤ wt t ∧ 1 ≤ deepT t ∧ deepT t ≤ wt t := by
  refine T.each (p := fun t => 2 ≤ bytesT t ∧ bytesT t ≤ 5 * wt t ∧ 1 ≤ manyT t ∧ manyT t ≤ wt t ∧ 1 ≤ deepT t ∧ deepT t ≤ wt t) ?_ t
  intro t ih
  have key : ∀ ks : List T, (∀ t ∈ ks, 2 ≤ bytesT t ∧ bytesT t ≤ 5 * wt t ∧ 1 ≤ manyT t ∧ manyT t ≤ wt t ∧ 1 ≤ deepT t ∧ deepT t ≤ wt t) →
      0 ≤ bytesAll ks ∧ bytesAll ks ≤ 5 * wtAll ks ∧ 0 ≤ manyAll ks ∧ manyAll ks ≤ wtAll ks ∧ 0 ≤ deepAll ks ∧ deepAll ks ≤ wtAll ks := by
    intro ks
    induction ks with
    | nil => intro _; simp only [bytesAll, manyAll, deepAll, wtAll]; omega
    | cons k r ihr =>
      intro h
      have h1 := h k (by simp)
      have h2 := ihr (fun x hx => h x (by simp [hx]))
      simp only [bytesAll, manyAll, deepAll, wtAll]
      have h3 := wt_ge k
      refine ⟨by omega, by omega, by omega, by omega, ?_, ?_⟩ <;> split <;> omega
  have h := key t.kids ih
  have hl := lenLen_range (inT t)
  have hi : 0 ≤ inT t ∧ inT t ≤ t.body.length + 5 * wtAll t.kids := by
    unfold inT
    split <;> omega
  have hp := wtAll_pos t.kids
  rw [bytesT_eq, manyT_eq, deepT_eq, wt_eq]
  refine ⟨by omega, by omega, ?_, ?_, ?_, ?_⟩ <;> (try split) <;> omega
theorem bytesAll_range (ks : List T) : 0 ≤ bytesAll ks ∧ bytesAll ks ≤ 5 * wtAll ks ∧ 0 ≤ manyAll ks ∧ manyAll ks ≤ wtAll ks ∧ 0 ≤ deepAll ks ∧ deepAll ks ≤ wtAll ks := by
  induction ks with
  | nil => simp only [bytesAll, manyAll, deepAll, wtAll]; omega
  | cons k r ih =>
    have h1 := size_le k
    simp only [bytesAll, manyAll, deepAll, wtAll]
    refine ⟨by omega, by omega, by omega, by omega, ?_, ?_⟩ <;> split <;> omega
theorem inT_range (t : T) : 0 ≤ inT t ∧ inT t ≤ 5 * wt t := by
  have h := bytesAll_range t.kids
  have := wtAll_pos t.kids
  rw [wt_eq]
  unfold inT
  split <;> omega
end Go.Proofs.YtgmefdmeeihgoaaGreatDoor
namespace Go.Proofs.YtgmefdmeeihgoaaGreatDoor
open Go.RowKit
set_option maxHeartbeats 400000 in
theorem within_any (z : Int) (w : World) (hz : (Lit.int .i64 z).wf = true) : Calls Tryz.prog 99 #[.int .i64 z] w fun e w' => e = .returned (.bool (withinB z)) ∧ w = w' := by
  have hb := bounds_i64 hz
  go_enter Tryz.func99, Tryz.ntmps99
  go_wp2_with fail
  go_ret
  exact ⟨rfl, rfl⟩
set_option maxHeartbeats 400000 in
theorem tag_any (z : Int) (w : World) (hz : (Lit.int .i64 z).wf = true) : Calls Tryz.prog 110 #[.int .i64 z] w fun e w' => e = .returned (.bool (tagB z)) ∧ w = w' := by
  have hb := bounds_i64 hz
  by_cases h0 : 0 ≤ z
  · by_cases h1 : z < 256
    · have F : Hid (tagB z = (z % 32 != 31)) := by simp [tagB, h0, h1, Hid]
      go_enter Tryz.func110, Tryz.ntmps110
      go_wp2_with fail
      go_ret
      exact ⟨ret_bool F.out.symm, rfl⟩
    · have F : Hid (tagB z = false) := by simp [tagB, h1, Hid]
      go_enter Tryz.func110, Tryz.ntmps110
      go_wp2_with fail
      go_ret
      exact ⟨ret_bool F.out.symm, rfl⟩
  · have F : Hid (tagB z = false) := by simp [tagB, h0, Hid]
    go_enter Tryz.func110, Tryz.ntmps110
    go_wp2_with fail
    go_ret
    exact ⟨ret_bool F.out.symm, rfl⟩
def GivesLen (z : Int) (w : World) (e : Ending) (w' : World) : Prop :=
  ∃ a c, e = .returned (.slice (some a) (lenB z).length c) ∧ Row w' (some a) (lenB z).length (lenB z) ∧ Below w.heap.size w w'
theorem gives_len {z : Int} {w : World} {zs : List Int} {n : Nat} (hz : lenB z = zs) (h0 : 0 ≤ z) (hn : n = zs.length) : GivesLen z w (.returned (.slice (some ⟨w.heap.size, 0, none⟩) n n)) (w.alloc (.cells (zs.map (Value.int .u8)).toArray 5 (0, 0))) := by
  subst hz
  subst hn
  exact ⟨_, _, rfl, row_const w (lenB z) (0, 0) (lenB_byte h0), (Below.refl _ _).alloc (Nat.le_refl _) _⟩
set_option maxHeartbeats 400000 in
theorem length_any (z : Int) (w : World) (h0 : 0 ≤ z) (h1 : z ≤ 1000000) : Calls Tryz.prog 111 #[.int .i64 z] w (GivesLen z w) := by
  by_cases c1 : z < 128
  · go_enter Tryz.func111, Tryz.ntmps111
    go_wp2_with fail
    go_ret
    exact gives_len (zs := [z]) (by simp [lenB, c1]) h0 rfl
  by_cases c2 : z < 256
  · go_enter Tryz.func111, Tryz.ntmps111
    go_wp2_with fail
    go_ret
    exact gives_len (zs := [129, z]) (by rw [lenB, if_neg (by omega), if_pos c2]) h0 rfl
  · have F : Hid (lenB z = [130, z / 256 % 256, z % 256]) := by simp [lenB, c1, c2, Hid]
    go_enter Tryz.func111, Tryz.ntmps111
    go_wp2_with fail
    go_ret
    exact gives_len (zs := [130, z / 256 % 256, z % 256]) F.out h0 rfl
def GivesSize (t : T) (w : World) (e : Ending) (w' : World) : Prop :=
  e = .returned (.tuple #[.int .i64 (bytesT t), .int .i64 (manyT t), .int .i64 (deepT t)]) ∧ Below w.heap.size w w'
theorem size_kid {ks : List T} {i : Nat} {k : T} (h : ks[i]? = some k) : bytesAll (ks.drop i) = bytesT k + bytesAll (ks.drop (i + 1)) ∧ manyAll (ks.drop i) = manyT k + manyAll (ks.drop (i + 1)) := by
  obtain ⟨hi, rfl⟩ := List.getElem?_eq_some_iff.1 h
  rw [List.drop_eq_getElem_cons hi, bytesAll, manyAll]
  exact ⟨rfl, rfl⟩
theorem deep_kid {ks : List T} {i : Nat} {k : T} (h : ks[i]? = some k) : deepAll (ks.drop i) = if deepAll (ks.drop (i + 1)) < deepT k then deepT k else deepAll (ks.drop (i + 1)) := by
  obtain ⟨hi, rfl⟩ := List.getElem?_eq_some_iff.1 h
  rw [List.drop_eq_getElem_cons hi, deepAll]
theorem size_end {ks : List T} {i : Nat} (h : ks.length ≤ i) : bytesAll (ks.drop i) = 0 ∧ manyAll (ks.drop i) = 0 ∧ deepAll (ks.drop i) = 0 := by
  rw [List.drop_of_length_le h, bytesAll, manyAll, deepAll]
  exact ⟨rfl, rfl, rfl⟩
def SizeRel (t : T) (k : Nat) (a b z : Int) : Prop :=
  a + bytesAll (t.kids.drop k) = bytesAll t.kids ∧ b + manyAll (t.kids.drop k) = 1 + manyAll t.kids ∧ 0 ≤ a ∧ 0 ≤ b ∧ 0 ≤ z ∧
  (deepAll (t.kids.drop k) ≤ z → deepAll t.kids = z) ∧ (z ≤ deepAll (t.kids.drop k) → deepAll t.kids = deepAll (t.kids.drop k))
theorem sr_start (t : T) : SizeRel t 0 0 1 0 := by
  have := dpAll_ge t.kids
  have h := bytesAll_range t.kids
  unfold SizeRel
  rw [List.drop_zero]
  omega
theorem drop_range (t : T) (k : Nat) : 0 ≤ bytesAll (t.kids.drop k) ∧ 0 ≤ manyAll (t.kids.drop k) ∧ 0 ≤ deepAll (t.kids.drop k) := by
  have h := bytesAll_range (t.kids.drop k)
  omega
theorem sr_step {t x : T} {k : Nat} {a b z z' : Int} (h : SizeRel t k a b z) (hx : t.kids[k]? = some x) (hz : (z' = z ∧ deepT x ≤ z) ∨ (z' = deepT x ∧ z ≤ deepT x)) : SizeRel t (k + 1) (a + bytesT x) (b + manyT x) z' := by
  obtain ⟨h1, h2, h3, h4, h5, h6, h7⟩ := h
  obtain ⟨e1, e2⟩ := size_kid hx
  have e3 := deep_kid hx
  have hr := drop_range t (k + 1)
  have hx := size_le x
  rw [e1] at h1
  rw [e2] at h2
  rw [e3] at h6 h7
  unfold SizeRel
  refine ⟨by omega, by omega, by omega, by omega, by omega, ?_, ?_⟩
  · intro h
    split at h6
    · split at h7 <;> omega
    · split at h7 <;> omega
  · intro h
    split at h6
    · split at h7 <;> omega
    · split at h7 <;> omega
theorem sr_end {t : T} {k : Nat} {a b z : Int} (h : SizeRel t k a b z) (hk : t.kids.length ≤ k) : a = bytesAll t.kids ∧ b = 1 + manyAll t.kids ∧ z = deepAll t.kids := by
  obtain ⟨h1, h2, h3, h4, h5, h6, h7⟩ := h
  obtain ⟨e1, e2, e3⟩ := size_end hk
  omega
theorem sr_bound {t : T} {k : Nat} {a b z : Int} (h : SizeRel t k a b z) (hw : wt t < 40000) : a ≤ 200000 ∧ b ≤ 40000 ∧ z ≤ 40000 ∧ 0 ≤ a ∧ 0 ≤ b ∧ 0 ≤ z := by
  obtain ⟨h1, h2, h3, h4, h5, h6, h7⟩ := h
  have hr := drop_range t k
  have h8 := bytesAll_range t.kids
  have := wt_eq t
  omega
theorem wt_kid {t x : T} (hx : x ∈ t.kids) : wt x < wt t := by
  have := wtAll_mem hx
  have := wt_eq t
  omega
theorem lenB_three (c : Int) : (lenB c).length ≤ 3 := by
  have := lenB_length c
  have := lenLen_range c
  omega
theorem gives_size {t : T} {w w' : World} {a b z : Int} (h1 : a = bytesT t) (h2 : b = manyT t) (h3 : z = deepT t) (hb : Below w.heap.size w w') : GivesSize t w (.returned (.tuple #[.int .i64 a, .int .i64 b, .int .i64 z])) w' := by
  subst h1
  subst h2
  subst h3
  exact ⟨rfl, hb⟩
set_option maxHeartbeats 4000000 in
theorem rsize_big (t : T) : ∀ (v : Value) (w : World), t.In w v → wt t < 40000 → Calls Tryz.prog 77 #[v] w (GivesSize t w) := by
  refine T.each (p := fun t => ∀ (v : Value) (w : World), t.In w v → wt t < 40000 → Calls Tryz.prog 77 #[v] w (GivesSize t w)) ?_ t
  clear t
  intro t ih v w hin hwt
  obtain ⟨A, n, c, K, m, d, rfl, hw, hr, hn, hc, hm, hm', hks⟩ := hin.open
  have BX := Lib.hid (Box.start hin)
  have IH := Lib.hid ih
  have HM := Lib.hid hm
  have BL := Lib.hid hr.1
  have EB := Lib.hid (bytesT_eq t)
  have EM := Lib.hid (manyT_eq t)
  have ED := Lib.hid (deepT_eq t)
  have hir := inT_range t
  clear hin ih hr hc hm hks
  unfold maxLen at hn hm'
  cases hwi : withinB t.tag
  · have HI : Hid (inT t = n) := by rw [inT, hwi, BL.out]; simp [Hid]
    rw [HI.out] at hir EB
    rw [hwi] at EM ED
    have WI := Lib.hid hwi
    clear hwi
    go_enter Tryz.func77, Tryz.ntmps77
    go_wp2_with fail
    refine (within_any t.tag _ hw).mono ?_
    rintro e w2 ⟨rfl, rfl⟩
    rw [WI.out]
    go_wp2_with fail
    refine (length_any _ _ (by omega) (by omega)).mono ?_
    rintro e w2 ⟨a2, cc2, rfl, hrow, hb2⟩
    have B2 := Lib.hid (Below.step BX.out.below hb2)
    have LL := Lib.hid (lenB_length (n : Int))
    have hl3 := lenB_three (n : Int)
    clear hrow hb2
    generalize (lenB (n : Int)).length = L at LL hl3
    go_wp2_with fail
    go_ret3
    exact gives_size (by rw [EB.out, LL.out]) (by rw [EM.out]; rfl) (by rw [ED.out]; rfl) B2.out
  · have HI : Hid (inT t = bytesAll t.kids) := by rw [inT, hwi]; simp [Hid]
    rw [HI.out] at hir EB
    rw [hwi] at EM ED
    have WI := Lib.hid hwi
    clear hwi
    go_enter Tryz.func77, Tryz.ntmps77
    go_wp2_with fail
    refine (within_any t.tag _ hw).mono ?_
    rintro e w2 ⟨rfl, rfl⟩
    rw [WI.out]
    go_wp2_with fail
    go_loopw [5, 6, 7, 8] (fun a b z i wr => ∃ (k : Nat) (a' b' z' : Int), k ≤ m ∧ i = .int .i64 (k : Int) ∧ a = .int .i64 a' ∧ b = .int .i64 b' ∧ z = .int .i64 z' ∧ SizeRel t k a' b' z' ∧ Box w wr w.heap.size t A n c K m d) (fun _ _ _ i _ => m - (intOf i).toNat)
    case atStart => exact ⟨0, _, _, _, by omega, rfl, rfl, rfl, rfl, sr_start t, BX.out⟩
    case round =>
      obtain ⟨k, a, b, z, hk, rfl, rfl, rfl, rfl, hsr, hbox⟩ := hrel
      have SR := Lib.hid hsr
      have HB := Lib.hid hbox
      have hbd := sr_bound hsr hwt
      obtain ⟨g0, g1, g2⟩ := hbox.cells
      clear hsr hbox BX
      by_cases hlt : k < m
      · obtain ⟨x, bb, off, zz, A', n', c', K', m', d', hx, rfl, c0, c1, c2, hxin⟩ := HB.out.kid k hlt
        have hxm := List.mem_of_getElem? hx
        have hwx := wt_kid hxm
        have hsx := size_le x
        have ST := Lib.hid (fun z' hz' => sr_step (z' := z') SR.out hx hz')
        have CI := Lib.hid (IH.out x hxm _ wr hxin (by omega))
        clear hx hxin hxm
        go_wp2_with fail
        refine CI.out.mono ?_
        rintro e w2 ⟨rfl, hb2⟩
        have HB2 := Lib.hid (HB.out.go hb2)
        clear hb2
        go_wp2_with fail
        all_goals
          go_roundw
          case rel => exact ⟨k + 1, _, _, _, by omega, by go_num, rfl, rfl, rfl, ST.out _ (by omega), HB2.out⟩
          case measure => simp [intOf]; omega
      · have SE := Lib.hid (sr_end SR.out (by rw [HM.out]; omega))
        have hle := SE.out
        obtain ⟨rfl, rfl, rfl⟩ := hle
        clear SR SE
        go_wp2_with fail
        refine (length_any _ _ (by omega) (by omega)).mono ?_
        rintro e w2 ⟨a2, cc2, rfl, hrow, hb2⟩
        have B2 := Lib.hid (Below.step HB.out.below hb2)
        have LL := Lib.hid (lenB_length (bytesAll t.kids))
        have hl3 := lenB_three (bytesAll t.kids)
        clear hrow hb2
        generalize (lenB (bytesAll t.kids)).length = L at LL hl3
        go_wp2_with fail
        go_ret3
        exact gives_size (by rw [EB.out, LL.out]) (by rw [EM.out]; rfl) (by rw [ED.out]; rfl) B2.out
end Go.Proofs.YtgmefdmeeihgoaaGreatDoor
namespace Go.Proofs.YtgmefdmeeihgoaaGreatDoor
open Go.RowKit
mutual
def rightT : T → Bool
  | .node t b ks => tagB t && (!(withinB t && decide (0 < b.length)) && (!(!withinB t && decide (0 < ks.length)) && rightAll ks))
def rightAll : List T → Bool
  | [] => true
  | x :: r => rightT x && rightAll r
end
theorem rightT_eq (t : T) : rightT t = (tagB t.tag && (!(withinB t.tag && decide (0 < t.body.length)) && (!(!withinB t.tag && decide (0 < t.kids.length)) && rightAll t.kids))) := by
  obtain ⟨tag, b, ks⟩ := t
  rw [rightT]
  rfl
theorem right_kid {ks : List T} {i : Nat} {k : T} (h : ks[i]? = some k) : rightAll (ks.drop i) = (rightT k && rightAll (ks.drop (i + 1))) := by
  obtain ⟨hi, rfl⟩ := List.getElem?_eq_some_iff.1 h
  rw [List.drop_eq_getElem_cons hi, rightAll]
theorem right_end {ks : List T} {i : Nat} (h : ks.length ≤ i) : rightAll (ks.drop i) = true := by
  rw [List.drop_of_length_le h, rightAll]
theorem right_all {ks : List T} (h : rightAll ks = true) : ∀ k ∈ ks, rightT k = true := by
  induction ks with
  | nil => intro k hk; simp at hk
  | cons x r ih =>
    rw [rightAll, Bool.and_eq_true] at h
    intro k hk
    rcases List.mem_cons.1 hk with rfl | hk
    · exact h.1
    · exact ih h.2 k hk
theorem right_parts {t : T} (h : rightT t = true) : tagB t.tag = true ∧ (withinB t.tag = true → t.body = []) ∧ (withinB t.tag = false → t.kids = []) ∧ ∀ k ∈ t.kids, rightT k = true := by
  rw [rightT_eq] at h
  simp only [Bool.and_eq_true, Bool.not_eq_true', Bool.and_eq_false_iff] at h
  obtain ⟨h1, h2, h3, h4⟩ := h
  refine ⟨h1, fun e => ?_, fun e => ?_, right_all h4⟩
  · rcases h2 with h2 | h2
    · rw [e] at h2
      cases h2
    · simpa using h2
  · rcases h3 with h3 | h3
    · rw [e] at h3
      cases h3
    · simpa using h3
set_option maxHeartbeats 4000000 in
theorem right_any (t : T) : ∀ (v : Value) (w : World), t.In w v → Calls Tryz.prog 76 #[v] w fun e w' => e = .returned (.bool (rightT t)) ∧ Below w.heap.size w w' := by
  refine T.each (p := fun t => ∀ (v : Value) (w : World), t.In w v → Calls Tryz.prog 76 #[v] w fun e w' => e = .returned (.bool (rightT t)) ∧ Below w.heap.size w w') ?_ t
  clear t
  intro t ih v w hin
  obtain ⟨A, n, c, K, m, d, rfl, hw, hr, hn, hc, hm, hm', hks⟩ := hin.open
  have BX := Lib.hid (Box.start hin)
  have IH := Lib.hid ih
  have HM := Lib.hid hm
  have BL := Lib.hid hr.1
  have ER := Lib.hid (rightT_eq t)
  clear hin ih hr hc hm hks
  unfold maxLen at hn hm'
  cases htg : tagB t.tag
  · have TG := Lib.hid htg
    have F : Hid (rightT t = false) := by rw [ER.out, htg]; rfl
    clear htg
    go_enter Tryz.func76, Tryz.ntmps76
    go_wp2_with fail
    refine (tag_any t.tag _ hw).mono ?_
    rintro e w2 ⟨rfl, rfl⟩
    rw [TG.out]
    go_wp2_with fail
    go_ret
    exact ⟨ret_bool F.out.symm, BX.out.below⟩
  have TG := Lib.hid htg
  have key : (withinB t.tag = true ∧ 0 < n) ∨ (withinB t.tag = false ∧ 0 < m) ∨ (withinB t.tag = true ∧ n = 0) ∨ (withinB t.tag = false ∧ m = 0) := by
    cases withinB t.tag
    · rcases Nat.eq_zero_or_pos m with h | h
      · exact .inr (.inr (.inr ⟨rfl, h⟩))
      · exact .inr (.inl ⟨rfl, h⟩)
    · rcases Nat.eq_zero_or_pos n with h | h
      · exact .inr (.inr (.inl ⟨rfl, h⟩))
      · exact .inl ⟨rfl, h⟩
  rcases key with ⟨hwi, h0⟩ | ⟨hwi, h0⟩ | ⟨hwi, h0⟩ | ⟨hwi, h0⟩
  · have F : Hid (rightT t = false) := by rw [ER.out, hwi, BL.out]; simp [h0, Hid]
    have WI := Lib.hid hwi
    clear htg hwi
    go_enter Tryz.func76, Tryz.ntmps76
    go_wp2_with fail
    refine (tag_any t.tag _ hw).mono ?_
    rintro e w2 ⟨rfl, rfl⟩
    rw [TG.out]
    go_wp2_with fail
    refine (within_any t.tag _ hw).mono ?_
    rintro e w2 ⟨rfl, rfl⟩
    rw [WI.out]
    go_wp2_with fail
    go_ret
    exact ⟨ret_bool F.out.symm, BX.out.below⟩
  · have F : Hid (rightT t = false) := by rw [ER.out, hwi, HM.out]; simp [h0, Hid]
    have WI := Lib.hid hwi
    clear htg hwi
    go_enter Tryz.func76, Tryz.ntmps76
    go_wp2_with fail
    refine (tag_any t.tag _ hw).mono ?_
    rintro e w2 ⟨rfl, rfl⟩
    rw [TG.out]
    go_wp2_with fail
    refine (within_any t.tag _ hw).mono ?_
    rintro e w2 ⟨rfl, rfl⟩
    rw [WI.out]
    go_wp2_with fail
    refine (within_any t.tag _ hw).mono ?_
    rintro e w2 ⟨rfl, rfl⟩
    rw [WI.out]
    go_wp2_with fail
    go_ret
    exact ⟨ret_bool F.out.symm, BX.out.below⟩
  all_goals
    have SA : Hid (rightT t = rightAll t.kids) := by rw [ER.out, hwi, htg, BL.out, HM.out, h0]; simp [Hid]
    have WI := Lib.hid hwi
    have H0 := Lib.hid h0
    clear htg hwi h0
    obtain rfl := H0.out
    clear H0
    go_enter Tryz.func76, Tryz.ntmps76
    go_wp2_with fail
    refine (tag_any t.tag _ hw).mono ?_
    rintro e w2 ⟨rfl, rfl⟩
    rw [TG.out]
    go_wp2_with fail
    refine (within_any t.tag _ hw).mono ?_
    rintro e w2 ⟨rfl, rfl⟩
    rw [WI.out]
    go_wp2_with fail
    refine (within_any t.tag _ hw).mono ?_
    rintro e w2 ⟨rfl, rfl⟩
    rw [WI.out]
    go_wp2_with fail
  · go_loopw [3] (fun i wr => ∃ k : Nat, k ≤ m ∧ i = .int .i64 (k : Int) ∧ rightT t = rightAll (t.kids.drop k) ∧ Box w wr w.heap.size t A 0 c K m d) (fun i _ => m - (intOf i).toNat)
    case atStart => exact ⟨0, by omega, rfl, SA.out, BX.out⟩
    case round =>
      obtain ⟨k, hk, rfl, hs, hbox⟩ := hrel
      have HS := Lib.hid hs
      have HB := Lib.hid hbox
      obtain ⟨g0, g1, g2⟩ := hbox.cells
      clear hs hbox BX SA
      by_cases hlt : k < m
      · obtain ⟨x, bb, off, zz, A', n', c', K', m', d', hx, rfl, c0, c1, c2, hxin⟩ := HB.out.kid k hlt
        have ST := Lib.hid (HS.out.trans (right_kid hx))
        have CI := Lib.hid (IH.out x (List.mem_of_getElem? hx) _ wr hxin)
        clear hx hxin HS
        cases hxr : rightT x
        · have F : Hid (rightT t = false) := by rw [ST.out, hxr]; rfl
          rw [hxr] at CI
          clear hxr ST
          go_wp2_with fail
          refine CI.out.mono ?_
          rintro e w2 ⟨rfl, hb2⟩
          have B2 := Lib.hid (Below.step HB.out.below hb2)
          clear hb2
          go_wp2_with fail
          go_ret
          exact ⟨ret_bool F.out.symm, B2.out⟩
        · have N : Hid (rightT t = rightAll (t.kids.drop (k + 1))) := by rw [ST.out, hxr]; simp [Hid]
          rw [hxr] at CI
          clear hxr ST
          go_wp2_with fail
          refine CI.out.mono ?_
          rintro e w2 ⟨rfl, hb2⟩
          have HB2 := Lib.hid (HB.out.go hb2)
          clear hb2
          go_wp2_with fail
          go_roundw
          case rel => exact ⟨k + 1, by omega, by go_num, N.out, HB2.out⟩
          case measure => simp [intOf]; omega
      · have F : Hid (rightT t = true) := by rw [HS.out, right_end (by rw [HM.out]; omega)]; exact Lib.hid rfl
        clear HS
        go_wp2_with fail
        go_ret
        exact ⟨ret_bool F.out.symm, HB.out.below⟩
  · have F : Hid (rightT t = true) := by
      have h := SA.out
      rw [← List.drop_zero (l := t.kids), right_end (by rw [HM.out]; omega)] at h
      exact Lib.hid h
    have B2 := Lib.hid BX.out.below
    clear SA
    refine wp_loop_rounds 1 ?_
    rw [rounds_succ]
    go_wp2_with fail
    go_ret
    exact ⟨ret_bool F.out.symm, B2.out⟩
end Go.Proofs.YtgmefdmeeihgoaaGreatDoor
namespace Go.Proofs.YtgmefdmeeihgoaaGreatDoor
open Go.RowKit
inductive Plan where
  | fin
  | take (i : Nat) (p : Plan)
  | sole (i : Nat) (p : Plan)
  | fork (i : Nat) (p : Plan) (j : Nat) (q : Plan)
def Plan.len : Plan → Nat
  | .fin => 0
  | .take _ p => p.len + 1
  | .sole _ p => p.len + 1
  | .fork _ p _ _ => p.len + 1
section
variable {P : Program} {ops : Array Oper} {Q : Exit → Act → World → Prop} {R : World → World → Prop}
def wpSole (P : Program) (l : List Oper) (R : World → World → Prop) (Q : Exit → Act → World → Prop) (i : Nat) (K : Act → World → Prop) (a : Act) (w : World) : Prop :=
  ∃ o, l[i]? = some o ∧ ((Region.wanted o (yielded l.toArray a.tmps) = false ∧ K (a.put o.dst undef) w) ∨
    (Region.wanted o (yielded l.toArray a.tmps) = true ∧ o.wp P a w (fun a' w' => R w w' ∧ K a' w') Q))
def wpPlan (P : Program) (l : List Oper) (R : World → World → Prop) (Q : Exit → Act → World → Prop) : Plan → Act → World → Prop
  | .fin, a, w => Q .normal a w
  | .take i p, a, w => ∃ o, l[i]? = some o ∧
    ((Region.wanted o (yielded l.toArray a.tmps) = false ∧ wpPlan P l R Q p (a.put o.dst undef) w) ∨
     (Region.wanted o (yielded l.toArray a.tmps) = true ∧ ∃ v, (∀ W, R w W → (execOp a.eval o).run P W = .ok (.value v) W) ∧ wpPlan P l R Q p (a.put o.dst v) w))
  | .sole i p, a, w => wpSole P l R Q i (wpPlan P l R Q p) a w
  | .fork i p j q, a, w => wpSole P l R Q i (wpPlan P l R Q p) a w ∧ wpSole P l R Q j (wpPlan P l R Q q) a w
def planB (l : List Oper) : Plan → Array Bool → Bool
  | .fin, listed => (Region.ready .any l.toArray listed).isEmpty
  | .take i p, listed => ((Region.ready .any l.toArray listed).contains i && Region.free .any l.toArray listed i) && planB l p (listed.setIfInBounds i true)
  | .sole i p, listed => (Region.ready .any l.toArray listed == [i]) && planB l p (listed.setIfInBounds i true)
  | .fork i p j q, listed => ((Region.ready .any l.toArray listed == [i, j]) && (p.len == q.len)) && (planB l p (listed.setIfInBounds i true) && planB l q (listed.setIfInBounds j true))
theorem held_sole {l : List Oper} (hrefl : ∀ w, R w w) (htrans : ∀ a b c, R a b → R b c → R a c) {i fuel : Nat} {listed : Array Bool} {K : Act → World → Prop} {a : Act} {w : World}
    (hK : ∀ a' w', K a' w' → wpAnyH P .any l.toArray Q (R w') fuel (listed.setIfInBounds i true) a' w') (h : wpSole P l R Q i K a w) :
    wpOp P l.toArray Q i (fun a' w' => R w w' ∧ wpAnyH P .any l.toArray Q (R w) fuel (listed.setIfInBounds i true) a' w') a w := by
  obtain ⟨o, ho, h⟩ := h
  have hi : l.toArray[i]? = some o := by simpa using ho
  unfold wpOp
  simp only [hi]
  rcases h with ⟨hw, h⟩ | ⟨hw, h⟩
  · rw [if_neg (by rw [hw]; simp)]
    exact ⟨hrefl w, hK _ _ h⟩
  · rw [if_pos hw]
    exact .inl (Oper.wp_mono (fun a' w' h' => ⟨h'.1, held_mono (fun W hW => htrans _ _ _ h'.1 hW) _ _ _ _ (hK _ _ h'.2)⟩) h)
theorem held_of_plan {l : List Oper} (hrefl : ∀ w, R w w) (htrans : ∀ a b c, R a b → R b c → R a c) (hs : Region.noSelect l.toArray = true) (hQ : ∀ d v c a w, Q (.panic c) (a.put d v) w → Q (.panic c) a w) :
    ∀ (p : Plan) (listed : Array Bool) (a : Act) (w : World), planB l p listed = true → wpPlan P l R Q p a w → wpAnyH P .any l.toArray Q (R w) p.len listed a w
  | .fin, listed, a, w, hB, h => by
    have : Region.ready .any l.toArray listed = [] := by simpa [planB] using hB
    exact wpAnyH_done this h _
  | .take i p, listed, a, w, hB, h => by
    obtain ⟨o, ho, h⟩ := h
    have hi : l.toArray[i]? = some o := by simpa using ho
    rw [planB, Bool.and_eq_true, Bool.and_eq_true] at hB
    obtain ⟨⟨h1, h2⟩, hB'⟩ := hB
    rcases h with ⟨hw, h⟩ | ⟨hw, v, hv, h⟩
    · exact wpAnyH_take hi hs h2 h1 (hQ _ _) (.inr ⟨hw, rfl⟩) (hrefl w) (held_of_plan hrefl htrans hs hQ p _ _ _ hB' h)
    · exact wpAnyH_take hi hs h2 h1 (hQ _ _) (.inl ⟨hw, hv⟩) (hrefl w) (held_of_plan hrefl htrans hs hQ p _ _ _ hB' h)
  | .sole i p, listed, a, w, hB, h => by
    rw [planB, Bool.and_eq_true] at hB
    have hr : Region.ready .any l.toArray listed = [i] := by simpa using hB.1
    refine wpAnyH_all hr (by simp) (fun j hj => ?_)
    obtain rfl : j = i := by simpa using hj
    exact held_sole hrefl htrans (fun a' w' h' => held_of_plan hrefl htrans hs hQ p _ a' w' hB.2 h') h
  | .fork i p j q, listed, a, w, hB, h => by
    rw [planB, Bool.and_eq_true, Bool.and_eq_true, Bool.and_eq_true] at hB
    obtain ⟨⟨h1, h2⟩, h3, h4⟩ := hB
    have hr : Region.ready .any l.toArray listed = [i, j] := by simpa using h1
    have hl : p.len = q.len := by simpa using h2
    refine wpAnyH_all hr (by simp) (fun x hx => ?_)
    have hx' : x = i ∨ x = j := by simpa using hx
    rcases hx' with rfl | rfl
    · exact held_sole hrefl htrans (fun a' w' h' => held_of_plan hrefl htrans hs hQ p _ a' w' h3 h') h.1
    · have := held_sole (fuel := q.len) (listed := listed) hrefl htrans (fun a' w' h' => held_of_plan hrefl htrans hs hQ q _ a' w' h4 h') h.2
      rw [← hl] at this
      exact this
theorem wp_region_plan {id : Nat} {a : Act} {w : World} {l : List Oper} (R : World → World → Prop) (hrefl : ∀ w, R w w) (htrans : ∀ a b c, R a b → R b c → R a c) (plan : Plan) (hm : P.follows .mixedOrders = true) (hs : Region.noSelect l.toArray = true) (hn : plan.len = l.length)
    (hB : planB l plan (Array.replicate l.length false) = true) (hQ : ∀ d v c a w, Q (.panic c) (a.put (some d) v) w → Q (.panic c) a w) (h : wpPlan P l R Q plan a w.drew) : (Code.region id l.toArray true).wp P Q a w := by
  refine wp_region_held (S := R w.drew) hm ?_
  have hQ' : ∀ d v c a w, Q (.panic c) (a.put d v) w → Q (.panic c) a w := fun d => by
    cases d with
    | none => exact fun _ _ _ _ h => h
    | some d => exact hQ d
  have := held_of_plan hrefl htrans hs hQ' plan (Array.replicate l.length false) a w.drew hB h
  rw [hn] at this
  simpa using this
section
variable {l : List Oper} {p q : Plan} {a : Act} {w : World} {i j : Nat} {o : Oper} {K : Act → World → Prop}
theorem plan_take (v : Value) (ho : l[i]? = some o) (hw : Region.wanted o (yielded l.toArray a.tmps) = true) (hv : ∀ W, R w W → (execOp a.eval o).run P W = .ok (.value v) W) (h : wpPlan P l R Q p (a.put o.dst v) w) : wpPlan P l R Q (.take i p) a w := ⟨o, ho, .inr ⟨hw, v, hv, h⟩⟩
theorem sole_take (ho : l[i]? = some o) (hw : Region.wanted o (yielded l.toArray a.tmps) = true) (h : ∀ K' : Act → World → Prop, (∀ a' w', R w w' → K a' w' → K' a' w') → o.wp P a w K' Q) : wpSole P l R Q i K a w :=
  ⟨o, ho, .inr ⟨hw, h _ (fun _ _ he h => ⟨he, h⟩)⟩⟩
theorem plan_sole (h : wpSole P l R Q i (wpPlan P l R Q p) a w) : wpPlan P l R Q (.sole i p) a w := h
theorem plan_fork (h1 : wpSole P l R Q i (wpPlan P l R Q p) a w) (h2 : wpSole P l R Q j (wpPlan P l R Q q) a w) : wpPlan P l R Q (.fork i p j q) a w := ⟨h1, h2⟩
theorem plan_end (h : Q .normal a w) : wpPlan P l R Q .fin a w := h
end
end
end Go.Proofs.YtgmefdmeeihgoaaGreatDoor
namespace Go.Proofs.YtgmefdmeeihgoaaGreatDoor
open Go.RowKit
/- An element's bytes. -/
mutual
def layT : T → List Int
  | .node t b ks => t :: (lenB (b.length + (layAll ks).length : Nat) ++ (b ++ layAll ks))
def layAll : List T → List Int
  | [] => []
  | x :: r => layT x ++ layAll r
end
theorem layT_eq (t : T) : layT t = t.tag :: (lenB (t.body.length + (layAll t.kids).length : Nat) ++ (t.body ++ layAll t.kids)) := by
  obtain ⟨tag, b, ks⟩ := t
  rw [layT]
  rfl
theorem lay_le (t : T) : ((layT t).length : Int) ≤ 5 * wt t := by
  refine T.each (p := fun t => ((layT t).length : Int) ≤ 5 * wt t) ?_ t
  intro t ih
  have key : ∀ ks : List T, (∀ t ∈ ks, ((layT t).length : Int) ≤ 5 * wt t) → ((layAll ks).length : Int) ≤ 5 * wtAll ks := by
    intro ks
    induction ks with
    | nil => intro _; simp [layAll, wtAll]
    | cons k r ihr =>
      intro h
      rw [layAll, wtAll, List.length_append]
      have := h k (by simp)
      have := ihr (fun x hx => h x (by simp [hx]))
      omega
  have h := key t.kids ih
  rw [layT_eq, wt_eq, List.length_cons, List.length_append, List.length_append]
  have := lenB_length ((t.body.length + (layAll t.kids).length : Nat) : Int)
  have := lenLen_range ((t.body.length + (layAll t.kids).length : Nat) : Int)
  have := wtAll_pos t.kids
  omega
theorem layAll_le (ks : List T) : ((layAll ks).length : Int) ≤ 5 * wtAll ks := by
  induction ks with
  | nil => simp [layAll, wtAll]
  | cons k r ih =>
    rw [layAll, wtAll, List.length_append]
    have := lay_le k
    omega
theorem wtAll_take (ks : List T) : ∀ k : Nat, wtAll (ks.take k) ≤ wtAll ks := by
  induction ks with
  | nil => intro k; simp
  | cons x r ih =>
    intro k
    cases k with
    | zero => rw [List.take_zero, wtAll]; exact wtAll_pos _
    | succ k =>
      rw [List.take_succ_cons, wtAll, wtAll]
      have := ih k
      omega
theorem layAll_take {ks : List T} {i : Nat} {k : T} (h : ks[i]? = some k) : layAll (ks.take (i + 1)) = layAll (ks.take i) ++ layT k := by
  obtain ⟨hi, rfl⟩ := List.getElem?_eq_some_iff.1 h
  have key : ∀ (xs ys : List T), layAll (xs ++ ys) = layAll xs ++ layAll ys := by
    intro xs ys
    induction xs with
    | nil => rw [layAll]; rfl
    | cons x r ih => rw [List.cons_append, layAll, layAll, ih, List.append_assoc]
  rw [List.take_succ_eq_append_getElem hi, key]
  congr 1
  rw [layAll, layAll, List.append_nil]
theorem tag_byte {z : Int} (h : tagB z = true) : 0 ≤ z ∧ z ≤ 255 := by
  unfold tagB at h
  simp only [Bool.and_eq_true, decide_eq_true_iff] at h
  omega
theorem lay_byte (t : T) : ∀ {w : World} {v : Value}, t.In w v → rightT t = true → ∀ z ∈ layT t, 0 ≤ z ∧ z ≤ 255 := by
  refine T.each (p := fun t => ∀ {w : World} {v : Value}, t.In w v → rightT t = true → ∀ z ∈ layT t, 0 ≤ z ∧ z ≤ 255) ?_ t
  clear t
  intro t ih w v hin hrt z hz
  obtain ⟨A, n, c, K, m, d, rfl, _, hr, _, _, hm, _, hks⟩ := hin.open
  obtain ⟨h1, _, _, h4⟩ := right_parts hrt
  have key : ∀ ks : List T, (∀ k ∈ ks, ∀ z ∈ layT k, 0 ≤ z ∧ z ≤ 255) → ∀ z ∈ layAll ks, 0 ≤ z ∧ z ≤ 255 := by
    intro ks
    induction ks with
    | nil => intro _ z hz; simp [layAll] at hz
    | cons k r ihr =>
      intro h z hz
      rw [layAll] at hz
      rcases List.mem_append.1 hz with hz | hz
      · exact h k (by simp) z hz
      · exact ihr (fun x hx => h x (by simp [hx])) z hz
  rw [layT_eq] at hz
  rcases List.mem_cons.1 hz with rfl | hz
  · exact tag_byte h1
  rcases List.mem_append.1 hz with hz | hz
  · exact lenB_byte (by omega) z hz
  rcases List.mem_append.1 hz with hz | hz
  · exact hr.2.1 z hz
  refine key t.kids (fun k hk => ?_) z hz
  obtain ⟨i, hi, rfl⟩ := List.mem_iff_getElem.1 hk
  obtain ⟨b, off, _, _, v0, v1, v2, _, _, _, hin'⟩ := hks i (by omega)
  rw [List.getElem?_eq_getElem hi, Option.getD_some] at hin'
  exact ih _ hk hin' (h4 _ hk)
def GivesRow (zs : List Int) (w : World) (e : Ending) (w' : World) : Prop :=
  ∃ a c, e = .returned (.slice a zs.length c) ∧ Row w' a zs.length zs ∧ (a = none → c = 0) ∧ Below w.heap.size w w'
theorem out_op {o : Oper} {a : Act} {K : Act → World → Prop} {Q : Exit → Act → World → Prop} {W0 w : World} {V : Value} {L zs : List Int} {A : Option Addr} {m c : Nat} (s x : Operand)
    (hop : o.op = .call { callee := .builtin .append, args := #[s, x], argTypes := #[22, 22] }) (hs : a.eval s = V) (hout : Out W0 w V L) (hx : a.eval x = .slice A m c) (hr : Row w A m zs) (hnil : A = none → c = 0) (hl : L.length + m ≤ 1000000)
    (h : ∀ V' w', Out W0 w' V' (L ++ zs) → Below W0.heap.size w w' → K (a.put o.dst V') w') : o.wp Tryz.prog a w K Q := by
  obtain ⟨i0, hi5, hz0, hz1, hz2⟩ := info_parts Tryz.infoByte
  cases A with
  | none =>
    obtain rfl := hnil rfl
    have hm : m = 0 := by
      rcases Nat.eq_zero_or_pos m with h0 | h0
      · exact h0
      · obtain ⟨_, _, e, _⟩ := hr.2.2 h0
        cases e
    subst hm
    obtain rfl : zs = [] := List.eq_nil_of_length_eq_zero hr.1
    have hrun := run_append_owned_none (P := Tryz.prog) (w := w) W0.heap.size 22 o.type 5 i0 1 Tryz.underlying22 hi5 V L.length _ hout.1
    unfold Oper.wp
    simp [execOp, hop, resolve, invoke, builtin, hs, hx, hrun, Result.andThen]
    exact h V w (by simpa using hout) (Below.refl _ _)
  | some ad =>
    refine wp_append_own w s x 22 hop W0.heap.size 5 i0 (.int .u8 0) 1 1 Tryz.underlying22 hi5 hz0 hz1 hz2 rfl (by decide) V L.length (L.map (Value.int .u8)) hs hout.1 ad m c (zs.map (Value.int .u8)) hx (by rw [List.length_map, hr.1, Nat.mul_one]) hr.cells ?_ (by unfold maxLen; omega) (by omega) hout.2.size ?_
    · intro u hu
      obtain ⟨_, _, rfl⟩ := List.mem_map.1 hu
      rfl
    · intro V' w' hown hg _
      have hb : Below W0.heap.size w w' := (Below.refl _ _).grown hg hout.2.size (fun k hk => (hout.1.lt k hk).1)
      refine h V' w' ⟨?_, hout.2.trans hb⟩ hb
      rw [List.length_append, hr.1, List.map_append]
      exact hown
theorem out_empty {w : World} {o : Obj} : Out (w.alloc o) ((w.alloc o).alloc (.cells #[] 5)) (.slice (some ⟨w.heap.size + 1, 0, none⟩) 0 0) [] := by
  have h := Out.made (W0 := w.alloc o) 0 (by omega)
  rw [show (w.alloc o).heap.size = w.heap.size + 1 by simp, show madeCells #[.int .u8 0] 0 = #[] by simp [madeCells]] at h
  exact h
def Past (B : Nat) (w W : World) : Prop := Below B w W
theorem Past.refl (B : Nat) (w : World) : Past B w w := Below.refl _ _
theorem Past.trans {B : Nat} {a b c : World} (h : Past B a b) (k : Past B b c) : Past B a c := Below.trans h k
theorem Past.of {B : Nat} {w W : World} (h : Below w.heap.size w W) (hB : B ≤ w.heap.size) : Past B w W := h.mono hB
theorem Past.alloc {B : Nat} {w : World} (hB : B ≤ w.heap.size) (o : Obj) : Past B w (w.alloc o) := (Below.refl _ _).alloc hB o
theorem Blk.past {wr W : World} {g B : Nat} {t : TypeId} {cs : Array Value} (h : Blk wr g t cs) (hg : g < B) (hW : Past B wr.drew W) (j : Nat) {v : Value} (hv : cs[j]? = some v) : W.cell? ⟨g, j, none⟩ = some v :=
  ((Below.cell (p := ⟨g, j, none⟩) hW hg).trans (h.cell j)).trans hv
theorem Past.real {B : Nat} {wr W : World} (hB : B = wr.heap.size) (h : Past B wr.drew W) : Below wr.heap.size wr W := by
  subst hB
  exact ⟨h.os, h.tape, h.output, h.size, h.block⟩
theorem gives_out {w X wr : World} {V : Value} {L zs : List Int} (h : Out X wr V L) (e : zs = L) (hz : ∀ z ∈ zs, 0 ≤ z ∧ z ≤ 255) (hb : Below w.heap.size w wr) : GivesRow zs w (.returned V) wr := by
  subst e
  obtain ⟨a, c, rfl, hr⟩ := h.row hz
  exact ⟨a, c, rfl, hr, h.nilc, hb⟩
theorem Box.out {w wr : World} {t : T} {A : Option Addr} {n c : Nat} {K : Option Addr} {m d : Nat} {W0 : World} (h : Box w W0 w.heap.size t A n c K m d) (hb : Below W0.heap.size W0 wr) : Box w wr w.heap.size t A n c K m d := h.go hb
set_option maxHeartbeats 4000000 in
theorem rlay_big (t : T) : ∀ (v : Value) (w : World), t.In w v → tagB t.tag = true → rightT t = true → wt t < 40000 → Calls Tryz.prog 78 #[v] w (GivesRow (layT t) w) := by
  refine T.each (p := fun t => ∀ (v : Value) (w : World), t.In w v → tagB t.tag = true → rightT t = true → wt t < 40000 → Calls Tryz.prog 78 #[v] w (GivesRow (layT t) w)) ?_ t
  clear t
  intro t ih v w hin htg hrt hwt
  obtain ⟨A, n, c, K, m, d, rfl, hw, hr, hn, hc, hm, hm', hks⟩ := hin.open
  have BX := Lib.hid (Box.start hin)
  have IH := Lib.hid ih
  have HM := Lib.hid hm
  have HR := Lib.hid hr
  have RP := Lib.hid (right_parts hrt)
  have EL := Lib.hid (layT_eq t)
  have htb := tag_byte htg
  have HC := Lib.hid hc
  have hbl : n ≤ 40000 := by
    have := wt_eq t
    have := wtAll_pos t.kids
    have := hr.1
    omega
  have WE := Lib.hid (wt_eq t)
  have LBY := Lib.hid (lay_byte t hin hrt)
  clear hin ih hr hc hm hks htg hrt
  unfold maxLen at hn hm'
  go_enter Tryz.func78, Tryz.ntmps78
  go_wp2_with (at_builtin; refine out_append (W0 := w.alloc (.cells #[.int .i64 t.tag, .slice A n c, .slice K m d] 28)) (L := []) (zs := t.body) rfl _ _ rfl rfl out_empty rfl ((HR.out.below ((Below.refl _ _).alloc (Nat.le_refl _) _)).below ((Below.refl _ _).alloc (Nat.le_refl _) _)) HC.out (by simp; omega) ?_; intro V1 w1 ho1; have HO1 := Lib.hid ho1; clear ho1)
  go_loopw [3, 4] (fun V i wr => ∃ k : Nat, k ≤ m ∧ i = .int .i64 (k : Int) ∧ Out (w.alloc (.cells #[.int .i64 t.tag, .slice A n c, .slice K m d] 28)) wr V (t.body ++ layAll (t.kids.take k))) (fun _ i _ => m - (intOf i).toNat)
  case atStart => exact ⟨0, by omega, rfl, by simpa [layAll] using HO1.out⟩
  case round =>
    obtain ⟨k, hk, rfl, hout⟩ := hrel
    have HO := Lib.hid hout
    have HB := Lib.hid (BX.out.out hout.2)
    obtain ⟨g0, g1, g2⟩ := HB.out.cells
    clear hout BX HO1
    by_cases hlt : k < m
    · obtain ⟨x, bb, off, zz, A', n', c', K', m', d', hx, rfl, c0, c1, c2, hxin⟩ := HB.out.kid k hlt
      have hxm := List.mem_of_getElem? hx
      have hwx := wt_kid hxm
      have hxr := RP.out.2.2.2 x hxm
      have CI := Lib.hid (IH.out x hxm _ wr hxin (right_parts hxr).1 hxr (by omega))
      have LT : Hid (t.body ++ layAll (t.kids.take (k + 1)) = t.body ++ layAll (t.kids.take k) ++ layT x) := by
        rw [layAll_take hx, List.append_assoc]
        exact Lib.hid rfl
      have hlx := lay_le x
      have hll : ((t.body ++ layAll (t.kids.take k)).length : Int) ≤ 200000 := by
        have h1 := layAll_le (t.kids.take k)
        have h2 := wtAll_take t.kids k
        have h3 := WE.out
        rw [List.length_append]
        omega
      clear hx hxm hxr hxin
      generalize t.body ++ layAll (t.kids.take k) = L at HO hll LT
      go_wp2_with fail
      refine CI.out.mono ?_
      rintro e w2 ⟨a2, cc2, rfl, hrow, hnil, hb2⟩
      have HO2 := Lib.hid (HO.out.below hb2)
      have R2 := Lib.hid hrow
      have HN := Lib.hid hnil
      clear hrow hnil hb2
      go_wp2_with (at_builtin; refine out_append (L := L) (zs := layT x) rfl _ _ rfl rfl HO2.out rfl R2.out HN.out (by omega) ?_; intro V3 w3 ho3; have HO3 := Lib.hid ho3; clear ho3)
      go_roundw
      case rel => exact ⟨k + 1, by omega, by go_num, by rw [LT.out]; exact HO3.out⟩
      case measure => simp [intOf]; omega
    · have hall : t.kids.take k = t.kids := List.take_of_length_le (by rw [HM.out]; omega)
      rw [hall] at HO
      have hll : ((t.body ++ layAll t.kids).length : Int) ≤ 200000 := by
        have h1 := layAll_le t.kids
        have h3 := WE.out
        rw [List.length_append]
        omega
      have EL' : Hid (layT t = [t.tag] ++ lenB ((t.body ++ layAll t.kids).length : Int) ++ (t.body ++ layAll t.kids)) := by
        rw [EL.out, List.length_append, List.append_assoc, List.singleton_append]
        exact Lib.hid rfl
      have hby : ∀ z ∈ t.body ++ layAll t.kids, 0 ≤ z ∧ z ≤ 255 := by
        intro z hz
        refine LBY.out z ?_
        rw [EL.out]
        exact List.mem_cons_of_mem _ (List.mem_append_right _ hz)
      clear hall EL
      generalize t.body ++ layAll t.kids = L at HO hll EL' hby
      obtain ⟨a2, cc2, rfl, hrow⟩ := HO.out.row hby
      have R2 := Lib.hid hrow
      have HN := Lib.hid HO.out.nilc
      have hB : w.heap.size ≤ wr.heap.size := HB.out.below.size
      obtain ⟨B, hBe⟩ : ∃ B, B = wr.heap.size := ⟨_, rfl⟩
      have HBe := Lib.hid hBe
      have lg : ∀ W, Past B wr.drew W → W.cell? ⟨w.heap.size, 0, none⟩ = some (.int .i64 t.tag) := fun W hW => HB.out.blk.past (by rw [hBe]; exact HB.out.blk.lt) hW 0 rfl
      clear hBe
      clear hrow
      go_wp2_with fail
      clear g0 g1 g2
      refine wp_region_plan (Past B) (Past.refl B) (fun _ _ _ => Past.trans) (.take 0 (.take 1 (.take 2 (.take 4 (.take 5 (.take 8 (.fork 3 (.sole 6 (.sole 7 (.sole 9 (.take 10 .fin)))) 6 (.sole 3 (.sole 7 (.sole 9 (.take 10 .fin))))))))))) (by kernel_rfl) (by kernel_rfl) rfl (by kernel_rfl) (fun _ _ _ _ _ h => h) ?_
      repeat (refine plan_take _ rfl (by rfl) (fun W hW => by go_simp; first | done | rfl) ?_; simp only [Act.put, List.setIfInBounds_toArray, List.set_cons_zero, List.set_cons_succ])
      have wx : IntKind.u8.wrap t.tag = t.tag := IntWalk.u8_in _ (by omega)
      refine plan_fork ?_ ?_
      · refine sole_take rfl (by rfl) (fun K1 hK1 => ?_)
        go_simp
        have OA0 := Lib.hid (out_one wr.drew t.tag)
        refine hK1 _ _ (Past.alloc (by rw [HBe.out]; exact Nat.le_refl _) _) ?_
        clear hK1 K1
        refine plan_sole ?_
        refine sole_take rfl (by rfl) (fun K1 hK1 => ?_)
        go_simp
        refine (length_any _ _ (by omega) (by omega)).mono ?_
        rintro e w6 ⟨a6, c6, rfl, hr6, hb6⟩
        have OA := Lib.hid (OA0.out.below hb6)
        have RL := Lib.hid hr6
        have P6 : Hid (Past B wr.drew w6) := Past.trans (Past.alloc (by rw [HBe.out]; exact Nat.le_refl _) _) (Past.of hb6 (by rw [HBe.out]; simp))
        refine hK1 _ _ (Past.of hb6 (by rw [HBe.out]; simp)) ?_
        clear hK1 K1 hr6 hb6 OA0
        have hXB : B ≤ wr.drew.heap.size := by rw [HBe.out]; exact Nat.le_refl _
        refine plan_sole ?_
        refine sole_take rfl (by rfl) (fun K1 hK1 => ?_)
        refine out_op (W0 := wr.drew) (L := [t.tag]) (zs := lenB (L.length : Int)) _ _ rfl rfl OA.out rfl RL.out (fun e => by cases e) (by have := lenB_three (L.length : Int); simp; omega) ?_
        intro V7 w7 ho7 hb7
        have P7 := Lib.hid (Past.trans P6.out (show Past B _ w7 from hb7.mono hXB))
        have O7 := Lib.hid ho7
        refine hK1 _ _ (hb7.mono hXB) ?_
        clear hK1 K1 ho7 hb7
        simp only [Act.put, List.setIfInBounds_toArray, List.set_cons_zero, List.set_cons_succ]
        refine plan_sole ?_
        refine sole_take rfl (by rfl) (fun K1 hK1 => ?_)
        refine out_op (W0 := wr.drew) (L := [t.tag] ++ lenB (L.length : Int)) (zs := L) _ _ rfl rfl O7.out rfl (R2.out.below (Past.real HBe.out P7.out)) HN.out (by have := lenB_three (L.length : Int); simp; omega) ?_
        intro V9 w9 ho9 hb9
        have P9 := Lib.hid (Past.trans P7.out (show Past B _ w9 from hb9.mono hXB))
        have O9 := Lib.hid ho9
        refine hK1 _ _ (hb9.mono hXB) ?_
        clear hK1 K1 ho9 hb9
        simp only [Act.put, List.setIfInBounds_toArray, List.set_cons_zero, List.set_cons_succ]
        refine plan_take _ rfl (by rfl) (fun W hW => by go_simp; first | done | rfl) ?_; simp only [Act.put, List.setIfInBounds_toArray, List.set_cons_zero, List.set_cons_succ]
        refine plan_end ?_
        have GR := Lib.hid (gives_out (w := w) O9.out (zs := layT t) EL'.out LBY.out (Below.step HB.out.below (Past.real HBe.out P9.out)))
        clear O9 P9 O7 P7 P6 OA RL hXB
        go_wp2_with fail
        go_ret
        exact GR.out
      · refine sole_take rfl (by rfl) (fun K1 hK1 => ?_)
        go_simp
        refine (length_any _ _ (by omega) (by omega)).mono ?_
        rintro e w6 ⟨a6, c6, rfl, hr6, hb6⟩
        have P5 : Hid (Past B wr.drew w6) := Past.of hb6 (by rw [HBe.out]; exact Nat.le_refl _)
        have RL0 := Lib.hid hr6
        have hXB : B ≤ w6.heap.size := by rw [HBe.out]; exact hb6.size
        refine hK1 _ _ P5.out ?_
        clear hK1 K1 hr6 hb6
        refine plan_sole ?_
        refine sole_take rfl (by rfl) (fun K1 hK1 => ?_)
        go_simp
        have OA := Lib.hid (out_one w6 t.tag)
        have RL := Lib.hid (RL0.out.below ((Below.refl _ _).alloc (Nat.le_refl _) (.cells #[.int .u8 t.tag] 5)))
        have P6 : Hid (Past B wr.drew (w6.alloc (.cells #[.int .u8 t.tag] 5))) := Past.trans P5.out (Past.alloc hXB _)
        refine hK1 _ _ (Past.alloc hXB _) ?_
        clear hK1 K1 RL0 P5
        refine plan_sole ?_
        refine sole_take rfl (by rfl) (fun K1 hK1 => ?_)
        refine out_op (W0 := w6) (L := [t.tag]) (zs := lenB (L.length : Int)) _ _ rfl rfl OA.out rfl RL.out (fun e => by cases e) (by have := lenB_three (L.length : Int); simp; omega) ?_
        intro V7 w7 ho7 hb7
        have P7 := Lib.hid (Past.trans P6.out (show Past B _ w7 from hb7.mono hXB))
        have O7 := Lib.hid ho7
        refine hK1 _ _ (hb7.mono hXB) ?_
        clear hK1 K1 ho7 hb7
        simp only [Act.put, List.setIfInBounds_toArray, List.set_cons_zero, List.set_cons_succ]
        refine plan_sole ?_
        refine sole_take rfl (by rfl) (fun K1 hK1 => ?_)
        refine out_op (W0 := w6) (L := [t.tag] ++ lenB (L.length : Int)) (zs := L) _ _ rfl rfl O7.out rfl (R2.out.below (Past.real HBe.out P7.out)) HN.out (by have := lenB_three (L.length : Int); simp; omega) ?_
        intro V9 w9 ho9 hb9
        have P9 := Lib.hid (Past.trans P7.out (show Past B _ w9 from hb9.mono hXB))
        have O9 := Lib.hid ho9
        refine hK1 _ _ (hb9.mono hXB) ?_
        clear hK1 K1 ho9 hb9
        simp only [Act.put, List.setIfInBounds_toArray, List.set_cons_zero, List.set_cons_succ]
        refine plan_take _ rfl (by rfl) (fun W hW => by go_simp; first | done | rfl) ?_; simp only [Act.put, List.setIfInBounds_toArray, List.set_cons_zero, List.set_cons_succ]
        refine plan_end ?_
        have GR := Lib.hid (gives_out (w := w) O9.out (zs := layT t) EL'.out LBY.out (Below.step HB.out.below (Past.real HBe.out P9.out)))
        clear O9 P9 O7 P7 P6 OA RL hXB
        go_wp2_with fail
        go_ret
        exact GR.out
end Go.Proofs.YtgmefdmeeihgoaaGreatDoor
namespace Go.Proofs.YtgmefdmeeihgoaaGreatDoor
open Go.RowKit
def at0 (l : List Int) (i : Nat) : Int := l[i]?.getD 0
def headL (l : List Int) : Except Int (Nat × Nat) :=
  if l.length < 1 then .error 3
  else if at0 l 0 % 32 = 31 then .error 2
  else if l.length < 2 then .error 3
  else if at0 l 1 < 128 then .ok (2, (at0 l 1).toNat)
  else if at0 l 1 = 129 then (if l.length < 3 then .error 3 else if at0 l 2 < 128 then .error 2 else .ok (3, (at0 l 2).toNat))
  else if at0 l 1 = 130 then (if l.length < 4 then .error 3 else if at0 l 2 = 0 then .error 2 else .ok (4, (at0 l 2 * 256 + at0 l 3).toNat))
  else .error 2
def elemW (rec : Nat → List Int → Except Int (List T)) (deep : Nat) (l : List Int) : Except Int (T × List Int) :=
  match headL l with
  | .error e => .error e
  | .ok (h, n) =>
    if (l.drop h).length < n then .error 3
    else if 32 ≤ deep then .error 4
    else if withinB (at0 l 0) then
      match rec (deep + 1) ((l.drop h).take n) with
      | .error e => .error (if e = 3 then 2 else e)
      | .ok ks => .ok (.node (at0 l 0) [] ks, (l.drop h).drop n)
    else .ok (.node (at0 l 0) ((l.drop h).take n) [], (l.drop h).drop n)
def kidsZ : Nat → Nat → List Int → Except Int (List T)
  | 0, _, _ => .ok []
  | f + 1, deep, l =>
    if l = [] then .ok []
    else match elemW (kidsZ f) deep l with
      | .error e => .error e
      | .ok (t, r) => match kidsZ f deep r with
        | .error e => .error e
        | .ok ks => .ok (t :: ks)
theorem head_ok {l : List Int} {h n : Nat} (e : headL l = .ok (h, n)) : 2 ≤ h ∧ h ≤ 4 ∧ h ≤ l.length := by
  unfold headL at e
  split at e
  · cases e
  split at e
  · cases e
  split at e
  · cases e
  split at e
  · cases e; omega
  split at e
  · split at e
    · cases e
    split at e
    · cases e
    · cases e; omega
  split at e
  · split at e
    · cases e
    split at e
    · cases e
    · cases e; omega
  · cases e
theorem elemW_rest {rec : Nat → List Int → Except Int (List T)} {deep : Nat} {l r : List Int} {t : T} (e : elemW rec deep l = .ok (t, r)) : r.length < l.length := by
  unfold elemW at e
  split at e
  · cases e
  rename_i h n hh
  have := head_ok hh
  split at e
  · cases e
  split at e
  · cases e
  split at e
  · split at e
    · cases e
    · cases e
      rw [List.length_drop, List.length_drop]
      omega
  · cases e
    rw [List.length_drop, List.length_drop]
    omega
theorem elemW_congr {f g : Nat → List Int → Except Int (List T)} {deep : Nat} {l : List Int} (h : ∀ d (x : List Int), x.length < l.length → f d x = g d x) : elemW f deep l = elemW g deep l := by
  unfold elemW
  split
  · rfl
  rename_i hh n e
  have hk := head_ok e
  have hx : (List.take n (List.drop hh l)).length < l.length := by
    rw [List.length_take, List.length_drop]
    omega
  rw [h (deep + 1) _ hx]
theorem kids_fuel : ∀ (f : Nat) (deep : Nat) (l : List Int), l.length < f → kidsZ f deep l = kidsZ (l.length + 1) deep l := by
  intro f
  induction f using Nat.strongRecOn with
  | _ f ih =>
    intro deep l hl
    match f, ih, hl with
    | 0, _, hl => omega
    | f + 1, ih, hl =>
      by_cases h0 : l = []
      · subst h0
        rfl
      have hpos : 0 < l.length := List.length_pos_iff.2 h0
      have key : ∀ d (x : List Int), x.length < l.length → kidsZ f d x = kidsZ l.length d x := by
        intro d x hx
        rw [ih f (by omega) d x (by omega)]
        rcases Nat.lt_or_ge l.length (f + 1) with h | h
        · exact (ih l.length h d x hx).symm
        · omega
      rw [kidsZ, kidsZ, if_neg h0, if_neg h0, elemW_congr key]
      split
      · rfl
      rename_i t r e
      rw [key deep r (elemW_rest e)]
def kidsC (deep : Nat) (l : List Int) : Except Int (List T) := kidsZ (l.length + 1) deep l
def elemC (deep : Nat) (l : List Int) : Except Int (T × List Int) := elemW kidsC deep l
theorem kidsC_nil (deep : Nat) : kidsC deep [] = .ok [] := rfl
theorem kidsC_eq {deep : Nat} {l : List Int} (h0 : l ≠ []) : kidsC deep l = match elemC deep l with
      | .error e => .error e
      | .ok (t, r) => match kidsC deep r with
        | .error e => .error e
        | .ok ks => .ok (t :: ks) := by
  have hpos : 0 < l.length := List.length_pos_iff.2 h0
  have key : ∀ d (x : List Int), x.length < l.length → kidsZ l.length d x = kidsC d x := fun d x hx => kids_fuel l.length d x hx
  unfold elemC
  conv => lhs; unfold kidsC
  rw [kidsZ, if_neg h0, elemW_congr key]
  split
  · rfl
  rename_i t r e
  rw [key deep r (elemW_rest e)]
theorem elemC_rest {deep : Nat} {l r : List Int} {t : T} (e : elemC deep l = .ok (t, r)) : r.length < l.length := elemW_rest e
def readZ (l : List Int) : Except Int T :=
  if 20000 < l.length then .error 5
  else match elemC 0 l with
    | .error e => .error e
    | .ok (t, r) => if r = [] then .ok t else .error 2
theorem at0_drop (l : List Int) (k i : Nat) : at0 (l.drop k) i = at0 l (k + i) := by
  unfold at0
  rw [List.getElem?_drop]
theorem at0_byte {l : List Int} (h : ∀ z ∈ l, 0 ≤ z ∧ z ≤ 255) (i : Nat) : 0 ≤ at0 l i ∧ at0 l i ≤ 255 := by
  unfold at0
  rcases Nat.lt_or_ge i l.length with hi | hi
  · rw [List.getElem?_eq_getElem hi]
    exact h _ (List.getElem_mem hi)
  · rw [List.getElem?_eq_none hi]
    simp
end Go.Proofs.YtgmefdmeeihgoaaGreatDoor
