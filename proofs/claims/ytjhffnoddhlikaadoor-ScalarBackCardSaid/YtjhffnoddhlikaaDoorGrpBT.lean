/-
  Merged texts (stage 5): CkRefTexts, CkRefRead, CkRefReadAny.
-/
import Derived.Test.YtjhffnoddhlikaaDoorGrpB
import Derived.Test.YtjhffnoddhlikaaDoorGrpBS
import Derived.Test.YtjhffnoddhlikaaDoorGrpBR
import Derived.Laws.Concat
import Derived.Deep.QuietTactic
import Derived.BigQuiet
namespace Go.Proofs.YtjhffnoddhlikaaDoor.Clk
open Go.RowKit

theorem digs_two (n : Int) : digs 2 n = [48 + n / 10 % 10, 48 + n % 10] := by simp [digs]

set_option maxHeartbeats 400000 in
theorem two_any (n : Int) (w : World) (h0 : 0 ≤ n) (h1 : n ≤ 100000) : Calls Tryd.prog 91 #[.int .i64 n] w fun e w' => e = .returned (.string (strOfNums (digs 2 n))) ∧ Below w.heap.size w w' := by
  have kc : (convert 23 9 (.slice (some ⟨w.heap.size, 0, none⟩) 2 2)).run Tryd.prog (w.alloc (.cells #[.int .u8 (48 + n / 10 % 10), .int .u8 (48 + n % 10)] 5)) = .ok (.string (strOfNums (digs 2 n))) (w.alloc (.cells #[.int .u8 (48 + n / 10 % 10), .int .u8 (48 + n % 10)] 5)) := by
    rw [digs_two]
    exact conv_at 2 (row_const w [48 + n / 10 % 10, 48 + n % 10] (0, 0) (by simp; omega))
  have b0 : 0 ≤ n / 10 % 10 := by omega
  have b1 : n / 10 % 10 < 10 := by omega
  have b2 : 0 ≤ n % 10 := by omega
  have b3 : n % 10 < 10 := by omega
  go_enter Tryd.func91, Tryd.ntmps91
  go_wp2
  go_ret
  exact ⟨rfl, (Below.refl _ _).alloc (Nat.le_refl _) _⟩

/-- What stands behind the year. -/
def D6.behind (a : D6) : List Int := digs 2 a.m ++ digs 2 a.d ++ digs 2 a.h ++ digs 2 a.i ++ digs 2 a.s ++ [90]
theorem str90 : strOfNums [90] = ⟨#[90]⟩ := by kernel_rfl

theorem size2 (n : Int) : (strOfNums (digs 2 n)).size = 2 := by rw [strOfNums_size, digs_length]

set_option maxRecDepth 100000 in
set_option maxHeartbeats 4000000 in
theorem behind_any (y m d h i s : Int) (w : World) (hok : (⟨y, m, d, h, i, s⟩ : D6).ok) : Calls Tryd.prog 92 #[.agg #[.int .i64 y, .int .i64 m, .int .i64 d, .int .i64 h, .int .i64 i, .int .i64 s]] w fun e w' => e = .returned (.string (strOfNums (⟨y, m, d, h, i, s⟩ : D6).behind)) ∧ Below w.heap.size w w' := by
  obtain ⟨h1, h2, h3, h4, h5, h6, h7, h8, h9, h10, h11, h12⟩ := hok
  simp only at h1 h2 h3 h4 h5 h6 h7 h8 h9 h10 h11 h12
  have hl := ml_rng y m
  have HE : Hid (strOfNums (⟨y, m, d, h, i, s⟩ : D6).behind = strOfNums (digs 2 m) ++ strOfNums (digs 2 d) ++ strOfNums (digs 2 h) ++ strOfNums (digs 2 i) ++ strOfNums (digs 2 s) ++ ⟨#[90]⟩) := by
    unfold Hid D6.behind
    simp only [str_append, str90]
  have z1 := size2 m
  have z2 := size2 d
  have z3 := size2 h
  have z4 := size2 i
  have z5 := size2 s
  have T1 := Lib.hid (fun W => two_any m W (by omega) (by omega))
  have T2 := Lib.hid (fun W => two_any d W (by omega) (by omega))
  have T3 := Lib.hid (fun W => two_any h W (by omega) (by omega))
  have T4 := Lib.hid (fun W => two_any i W (by omega) (by omega))
  have T5 := Lib.hid (fun W => two_any s W (by omega) (by omega))
  generalize strOfNums (digs 2 m) = S1 at HE z1 T1
  generalize strOfNums (digs 2 d) = S2 at HE z2 T2
  generalize strOfNums (digs 2 h) = S3 at HE z3 T3
  generalize strOfNums (digs 2 i) = S4 at HE z4 T4
  generalize strOfNums (digs 2 s) = S5 at HE z5 T5
  go_enter Tryd.func92, Tryd.ntmps92
  go_wp2
  obtain ⟨w3, HW3, B3⟩ : ∃ w3, w3 = w.alloc (.cells #[.int .i64 y, .int .i64 m, .int .i64 d, .int .i64 h, .int .i64 i, .int .i64 s] 90) ∧ Below w.heap.size w w3 := ⟨_, rfl, (Below.refl _ _).alloc (Nat.le_refl _) _⟩
  rw [← HW3]
  obtain ⟨k0, k1, k2, k3, k4, k5⟩ := six_later (show Blk w3 w.heap.size 90 (d6c y m d h i s) by rw [HW3]; exact Blk.new w 90 _)
  clear HW3
  refine wp_region_ord Ext Ext.refl (fun _ _ _ => Ext.trans) ((0, false) :: (1, false) :: (3, false) :: (4, false) :: (7, false) :: (8, false) :: (11, false) :: (12, false) :: (15, false) :: (16, false) :: (2, true) :: (5, true) :: (6, false) :: (9, true) :: (10, false) :: (13, true) :: (14, false) :: (17, true) :: (18, false) :: (19, false) :: (20, false) :: []) (by kernel_rfl) (by kernel_rfl) rfl (by kernel_rfl) (fun _ _ _ _ _ h => h) ?_
  repeat (refine ord_take _ rfl (by rfl) (fun W hW => by go_simp; first | done | rfl) ?_; simp only [Act.put, List.setIfInBounds_toArray, List.set_cons_zero, List.set_cons_succ])
  clear k0 k1 k2 k3 k4 k5
  refine ord_sole rfl (by rfl) (fun K hK => ?_)
  go_simp
  refine (T1.out _).mono ?_
  rintro e v1 ⟨rfl, hb1⟩
  refine hK _ _ hb1 ?_
  clear hK K
  refine ord_sole rfl (by rfl) (fun K hK => ?_)
  go_simp
  refine (T2.out _).mono ?_
  rintro e v2 ⟨rfl, hb2⟩
  refine hK _ _ hb2 ?_
  clear hK K
  repeat (refine ord_take _ rfl (by rfl) (fun W hW => by go_simp; first | done | rfl) ?_; simp only [Act.put, List.setIfInBounds_toArray, List.set_cons_zero, List.set_cons_succ])
  refine ord_sole rfl (by rfl) (fun K hK => ?_)
  go_simp
  refine (T3.out _).mono ?_
  rintro e v3 ⟨rfl, hb3⟩
  refine hK _ _ hb3 ?_
  clear hK K
  repeat (refine ord_take _ rfl (by rfl) (fun W hW => by go_simp; first | done | rfl) ?_; simp only [Act.put, List.setIfInBounds_toArray, List.set_cons_zero, List.set_cons_succ])
  refine ord_sole rfl (by rfl) (fun K hK => ?_)
  go_simp
  refine (T4.out _).mono ?_
  rintro e v4 ⟨rfl, hb4⟩
  refine hK _ _ hb4 ?_
  clear hK K
  repeat (refine ord_take _ rfl (by rfl) (fun W hW => by go_simp; first | done | rfl) ?_; simp only [Act.put, List.setIfInBounds_toArray, List.set_cons_zero, List.set_cons_succ])
  refine ord_sole rfl (by rfl) (fun K hK => ?_)
  go_simp
  refine (T5.out _).mono ?_
  rintro e v5 ⟨rfl, hb5⟩
  refine hK _ _ hb5 ?_
  clear hK K
  repeat (refine ord_take _ rfl (by rfl) (fun W hW => by go_simp; first | done | rfl) ?_; simp only [Act.put, List.setIfInBounds_toArray, List.set_cons_zero, List.set_cons_succ])
  refine ord_end ?_
  go_wp2
  go_ret
  exact ⟨by rw [HE.out]; rfl, Ext.trans (Ext.trans (Ext.trans (Ext.trans (Ext.trans B3 (Ext.of_drew hb1)) hb2) hb3) hb4) hb5⟩

theorem long_behind (a : D6) : a.long = digs 2 (a.y / 100) ++ digs 2 a.y ++ a.behind := by simp [D6.long, D6.txt, D6.behind, digs4]
theorem short_behind (a : D6) : a.long.drop 2 = digs 2 a.y ++ a.behind := by rw [short_of]; simp [D6.behind]
theorem behind_size (a : D6) : (strOfNums a.behind).size = 11 := by rw [strOfNums_size]; simp [D6.behind, digs_length]

set_option maxRecDepth 100000 in
set_option maxHeartbeats 2000000 in
theorem rlong_any (s : Int) (w : World) : Calls Tryd.prog 77 #[.int .i64 s] w (GivesT (LongR s) w) := by
  have C := Lib.hid (rdate_any s w)
  go_enter Tryd.func77, Tryd.ntmps77
  go_wp2_with fail
  refine C.out.mono ?_
  rintro e w1 ⟨a, ok, hR, rfl, hb1⟩
  clear C
  have B1 := Lib.hid hb1
  clear hb1
  rcases hR with ⟨rfl, hd⟩ | ⟨rfl, rfl, ho⟩
  · have HD := Lib.hid hd
    obtain ⟨y, m, d, h, i, s'⟩ := a
    have hy1 : 1950 ≤ y := hd.1.1
    have hy2 : y ≤ 2199 := hd.1.2.1
    clear hd
    have T1 := Lib.hid (fun W => two_any (y / 100) W (by omega) (by omega))
    have T2 := Lib.hid (fun W => two_any y W (by omega) (by omega))
    have T3 := Lib.hid (fun W => behind_any y m d h i s' W HD.out.1)
    have z1 := size2 (y / 100)
    have z2 := size2 y
    have z3 := behind_size ⟨y, m, d, h, i, s'⟩
    have HE : Hid (strOfNums (⟨y, m, d, h, i, s'⟩ : D6).long = strOfNums (digs 2 (y / 100)) ++ strOfNums (digs 2 y) ++ strOfNums (⟨y, m, d, h, i, s'⟩ : D6).behind) := by
      unfold Hid
      rw [long_behind, str_append, str_append]
    generalize strOfNums (digs 2 (y / 100)) = S1 at HE z1 T1
    generalize strOfNums (digs 2 y) = S2 at HE z2 T2
    generalize strOfNums (⟨y, m, d, h, i, s'⟩ : D6).behind = S3 at HE z3 T3
    have hq : IntKind.i64.wrap (y.tdiv 100) = y / 100 := by rw [Int.tdiv_eq_ediv_of_nonneg (by omega)]; exact IntWalk.i64_in _ (by omega)
    have hq' : IntKind.i64.wrap (y / 100) = y / 100 := IntWalk.i64_in _ (by omega)
    have hq2 : y.tdiv 100 = y / 100 := Int.tdiv_eq_ediv_of_nonneg (by omega)
    simp only [D6.cells, d6c]
    go_wp2
    obtain ⟨w3, HW3, B3⟩ : ∃ w3, w3 = w1.alloc (.cells #[.int .i64 y, .int .i64 m, .int .i64 d, .int .i64 h, .int .i64 i, .int .i64 s'] 90) ∧ Below w.heap.size w w3 := ⟨_, rfl, B1.out.alloc B1.out.size _⟩
    rw [← HW3]
    obtain ⟨k0, k1, k2, k3, k4, k5⟩ := six_later (show Blk w3 w1.heap.size 90 (d6c y m d h i s') by rw [HW3]; exact Blk.new w1 90 _)
    clear HW3
    refine wp_region_ord Ext Ext.refl (fun _ _ _ => Ext.trans) ((0, false) :: (1, false) :: (2, false) :: (4, false) :: (5, false) :: (8, false) :: (3, true) :: (6, true) :: (7, false) :: (9, true) :: (10, false) :: (11, false) :: (12, false) :: []) (by kernel_rfl) (by kernel_rfl) rfl (by kernel_rfl) (fun _ _ _ _ _ h => h) ?_
    repeat (refine ord_take _ rfl (by rfl) (fun W hW => by go_simp; first | done | rfl) ?_; simp only [Act.put, List.setIfInBounds_toArray, List.set_cons_zero, List.set_cons_succ])
    clear k0 k1 k2 k3 k4 k5
    refine ord_sole rfl (by rfl) (fun K hK => ?_)
    go_simp
    refine (T1.out _).mono ?_
    rintro e v1 ⟨rfl, hb1⟩
    refine hK _ _ hb1 ?_
    clear hK K
    refine ord_sole rfl (by rfl) (fun K hK => ?_)
    go_simp
    refine (T2.out _).mono ?_
    rintro e v2 ⟨rfl, hb2⟩
    refine hK _ _ hb2 ?_
    clear hK K
    repeat (refine ord_take _ rfl (by rfl) (fun W hW => by go_simp; first | done | rfl) ?_; simp only [Act.put, List.setIfInBounds_toArray, List.set_cons_zero, List.set_cons_succ])
    refine ord_sole rfl (by rfl) (fun K hK => ?_)
    go_simp
    refine (T3.out _).mono ?_
    rintro e v3 ⟨rfl, hb3⟩
    refine hK _ _ hb3 ?_
    clear hK K
    repeat (refine ord_take _ rfl (by rfl) (fun W hW => by go_simp; first | done | rfl) ?_; simp only [Act.put, List.setIfInBounds_toArray, List.set_cons_zero, List.set_cons_succ])
    refine ord_end ?_
    go_wp2
    go_ret2
    exact ⟨_, true, .inl ⟨rfl, _, HD.out, by rw [HE.out]⟩, rfl, Ext.trans (Ext.trans (Ext.trans B3 (Ext.of_drew hb1)) hb2) hb3⟩
  · simp only [D6.cells, d6c, zeroD]
    go_wp2
    go_ret2
    exact ⟨_, false, .inr ⟨rfl, rfl, ho⟩, rfl, B1.out.alloc B1.out.size _⟩

set_option maxRecDepth 100000 in
set_option maxHeartbeats 2000000 in
theorem rshort_any (s : Int) (w : World) : Calls Tryd.prog 76 #[.int .i64 s] w (GivesT (ShortR s) w) := by
  have C := Lib.hid (rdate_any s w)
  go_enter Tryd.func76, Tryd.ntmps76
  go_wp2_with fail
  refine C.out.mono ?_
  rintro e w1 ⟨a, ok, hR, rfl, hb1⟩
  clear C
  have B1 := Lib.hid hb1
  clear hb1
  rcases hR with ⟨rfl, hd⟩ | ⟨rfl, rfl, ho⟩
  · have HD := Lib.hid hd
    obtain ⟨y, m, d, h, i, s'⟩ := a
    have hy1 : 1950 ≤ y := hd.1.1
    have hy2 : y ≤ 2199 := hd.1.2.1
    clear hd
    simp only [D6.cells, d6c]
    by_cases hy : 2049 < y
    · have hy' : decide (2049 < y) = true := by simpa using hy
      go_wp2
      go_ret2
      exact ⟨_, false, .inr ⟨rfl, rfl, .inr ⟨_, HD.out, by simp only; omega⟩⟩, rfl, B1.out.alloc B1.out.size _⟩
    · have hy' : decide (2049 < y) = false := by simpa using hy
      have T1 := Lib.hid (fun W => two_any y W (by omega) (by omega))
      have T2 := Lib.hid (fun W => behind_any y m d h i s' W HD.out.1)
      have z1 := size2 y
      have z2 := behind_size ⟨y, m, d, h, i, s'⟩
      have HE : Hid (strOfNums ((⟨y, m, d, h, i, s'⟩ : D6).long.drop 2) = strOfNums (digs 2 y) ++ strOfNums (⟨y, m, d, h, i, s'⟩ : D6).behind) := by
        unfold Hid
        rw [short_behind, str_append]
      generalize strOfNums (digs 2 y) = S1 at HE z1 T1
      generalize strOfNums (⟨y, m, d, h, i, s'⟩ : D6).behind = S2 at HE z2 T2
      go_wp2
      obtain ⟨w3, HW3, B3⟩ : ∃ w3, w3 = w1.alloc (.cells #[.int .i64 y, .int .i64 m, .int .i64 d, .int .i64 h, .int .i64 i, .int .i64 s'] 90) ∧ Below w.heap.size w w3 := ⟨_, rfl, B1.out.alloc B1.out.size _⟩
      rw [← HW3]
      obtain ⟨k0, k1, k2, k3, k4, k5⟩ := six_later (show Blk w3 w1.heap.size 90 (d6c y m d h i s') by rw [HW3]; exact Blk.new w1 90 _)
      clear HW3
      refine wp_region_ord Ext Ext.refl (fun _ _ _ => Ext.trans) ((0, false) :: (1, false) :: (3, false) :: (2, true) :: (4, true) :: (5, false) :: (6, false) :: (7, false) :: []) (by kernel_rfl) (by kernel_rfl) rfl (by kernel_rfl) (fun _ _ _ _ _ h => h) ?_
      repeat (refine ord_take _ rfl (by rfl) (fun W hW => by go_simp; first | done | rfl) ?_; simp only [Act.put, List.setIfInBounds_toArray, List.set_cons_zero, List.set_cons_succ])
      clear k0 k1 k2 k3 k4 k5
      refine ord_sole rfl (by rfl) (fun K hK => ?_)
      go_simp
      refine (T1.out _).mono ?_
      rintro e v1 ⟨rfl, hb1⟩
      refine hK _ _ hb1 ?_
      clear hK K
      refine ord_sole rfl (by rfl) (fun K hK => ?_)
      go_simp
      refine (T2.out _).mono ?_
      rintro e v2 ⟨rfl, hb2⟩
      refine hK _ _ hb2 ?_
      clear hK K
      repeat (refine ord_take _ rfl (by rfl) (fun W hW => by go_simp; first | done | rfl) ?_; simp only [Act.put, List.setIfInBounds_toArray, List.set_cons_zero, List.set_cons_succ])
      refine ord_end ?_
      go_wp2
      go_ret2
      exact ⟨_, true, .inl ⟨rfl, _, HD.out, by simp only; omega, by rw [HE.out]⟩, rfl, Ext.trans (Ext.trans B3 (Ext.of_drew hb1)) hb2⟩
  · simp only [D6.cells, d6c, zeroD]
    go_wp2
    go_ret2
    exact ⟨_, false, .inr ⟨rfl, rfl, .inl ho⟩, rfl, B1.out.alloc B1.out.size _⟩

set_option maxHeartbeats 1000000 in
theorem rtext_any (s : Int) (w : World) : Calls Tryd.prog 65 #[.int .i64 s] w (GivesT (TextR s) w) := by
  have C := Lib.hid (rshort_any s w)
  go_enter Tryd.func65, Tryd.ntmps65
  go_wp2_with fail
  refine C.out.mono ?_
  rintro e w1 ⟨S, ok, hR, rfl, hb1⟩
  clear C
  have B1 := Lib.hid hb1
  have HR := Lib.hid hR
  clear hb1 hR
  cases ok
  · go_wp2_with fail
    refine (rlong_any s _).mono ?_
    rintro e w2 ⟨S', ok', hR', rfl, hb2⟩
    have B2 := Lib.hid (Below.step B1.out hb2)
    have HT : Hid (TextR s S' ok') := .inr ⟨by
      rcases HR.out with ⟨h, _⟩ | ⟨h, e, h'⟩
      · cases h
      · rw [← e]; exact HR.out, hR'⟩
    clear hb2 hR'
    go_wp2
    go_ret2
    exact ⟨S', ok', HT.out, rfl, B2.out⟩
  · go_wp2
    go_ret2
    exact ⟨S, true, .inl ⟨rfl, HR.out⟩, rfl, B1.out⟩

end Go.Proofs.YtjhffnoddhlikaaDoor.Clk

namespace Go.Proofs.YtjhffnoddhlikaaDoor.Clk
open Go.RowKit

/-- Two digits at a place; 999, where they are none. -/
def pz (l : List Int) (k : Nat) : Int := (pk l k 2).getD 999

theorem pk_two {l : List Int} {k : Nat} (h : k + 1 < l.length) : pk l k 2 = nz 0 [l[k]?.getD 0, l[k + 1]?.getD 0] := by
  unfold pk
  rw [List.drop_eq_getElem_cons (by omega), List.drop_eq_getElem_cons (by omega), List.getElem?_eq_getElem (by omega), List.getElem?_eq_getElem (by omega)]
  rfl

theorem keeps_drewN {B : Nat} {w W : World} (k : Below B w W) (m : Nat) : Below B w (W.drewN m) := { k with }

set_option maxHeartbeats 1000000 in
theorem part_any (t : ByteArray) (k : Nat) (x : Int) (w : World) (hx : x = k) (h : k + 1 < t.size) (hs : t.size ≤ 100) : Calls Tryd.prog 82 #[.string t, .int .i64 x] w fun e w' => e = .returned (.int .i64 (pz (numsOf t) k)) ∧ Below w.heap.size w w' := by
  have hi := str_at t k (by omega) x hx
  have hi2 := str_at t (k + 1) (by omega) (x + 1) (by omega)
  have b0 := nth_range t k
  have b1 := nth_range t (k + 1)
  have E : Hid (pz (numsOf t) k = (nz 0 [nth t k, nth t (k + 1)]).getD 999) := by unfold Hid pz; rw [pk_two (by rw [numsOf_length]; exact h)]; rfl
  generalize nth t k = c at hi b0 E
  generalize nth t (k + 1) = d at hi2 b1 E
  have hx1 : 0 ≤ x := by omega
  have hx2 : x ≤ 100 := by omega
  clear hx
  by_cases c1 : c < 48
  · have t1 : decide (c < 48) = true := by simpa using c1
    have V : Hid (pz (numsOf t) k = 999) := by unfold Hid; rw [E.out, nz, if_neg (by omega)]; rfl
    go_enter Tryd.func82, Tryd.ntmps82
    go_wp2
    go_ret
    exact ⟨same_int V.out.symm, Below.refl _ _⟩
  have t1 : decide (c < 48) = false := by simpa using c1
  by_cases c2 : 57 < c
  · have t2 : decide (57 < c) = true := by simpa using c2
    have V : Hid (pz (numsOf t) k = 999) := by unfold Hid; rw [E.out, nz, if_neg (by omega)]; rfl
    go_enter Tryd.func82, Tryd.ntmps82
    go_wp2
    go_ret
    exact ⟨same_int V.out.symm, Below.refl _ _⟩
  have t2 : decide (57 < c) = false := by simpa using c2
  by_cases c3 : d < 48
  · have t3 : decide (d < 48) = true := by simpa using c3
    have V : Hid (pz (numsOf t) k = 999) := by unfold Hid; rw [E.out, nz, if_pos (by omega), nz, if_neg (by omega)]; rfl
    go_enter Tryd.func82, Tryd.ntmps82
    go_wp2
    go_ret
    exact ⟨same_int V.out.symm, Below.refl _ _⟩
  have t3 : decide (d < 48) = false := by simpa using c3
  by_cases c4 : 57 < d
  · have t4 : decide (57 < d) = true := by simpa using c4
    have V : Hid (pz (numsOf t) k = 999) := by unfold Hid; rw [E.out, nz, if_pos (by omega), nz, if_neg (by omega)]; rfl
    go_enter Tryd.func82, Tryd.ntmps82
    go_wp2
    go_ret
    exact ⟨same_int V.out.symm, Below.refl _ _⟩
  have t4 : decide (57 < d) = false := by simpa using c4
  have V : Hid (pz (numsOf t) k = (c - 48) * 10 + (d - 48)) := by unfold Hid; rw [E.out, nz, if_pos (by omega), nz, if_pos (by omega), nz]; simp
  have w1 : IntKind.i64.wrap (x + 1) = x + 1 := IntWalk.i64_in _ (by omega)
  have u1 : IntKind.u8.wrap (c - 48) = c - 48 := IntWalk.u8_in _ (by omega)
  have u2 : IntKind.u8.wrap (d - 48) = d - 48 := IntWalk.u8_in _ (by omega)
  have w2 : IntKind.i64.wrap (c - 48) = c - 48 := IntWalk.i64_in _ (by omega)
  have w3 : IntKind.i64.wrap (d - 48) = d - 48 := IntWalk.i64_in _ (by omega)
  have w4 : IntKind.i64.wrap ((c - 48) * 10) = (c - 48) * 10 := IntWalk.i64_in _ (by omega)
  have w5 : IntKind.i64.wrap ((c - 48) * 10 + (d - 48)) = (c - 48) * 10 + (d - 48) := IntWalk.i64_in _ (by omega)
  go_enter Tryd.func82, Tryd.ntmps82
  go_wp2
  go_quiet (fail)
  go_wp2
  go_ret
  exact ⟨same_int V.out.symm, keeps_drewN (Below.refl _ _) _⟩

theorem nz_app : ∀ (xs ys : List Int) (v : Int), nz v (xs ++ ys) = (nz v xs).bind (fun n => nz n ys)
  | [], ys, v => rfl
  | x :: xs, ys, v => by
    simp only [List.cons_append, nz]
    split
    · exact nz_app xs ys _
    · rfl
theorem nz_shift (c d v : Int) : nz v [c, d] = (nz 0 [c, d]).map (fun n => v * 100 + n) := by
  simp only [nz]
  split
  · split
    · simp
      omega
    · rfl
  · rfl
theorem pk_four {l : List Int} (h : 4 ≤ l.length) : pk l 0 4 = (pk l 0 2).bind (fun a => (pk l 2 2).map (fun b => a * 100 + b)) := by
  have e : (l.drop 0).take 4 = [l[0]?.getD 0, l[1]?.getD 0] ++ [l[2]?.getD 0, l[3]?.getD 0] := by
    rw [List.drop_eq_getElem_cons (by omega), List.drop_eq_getElem_cons (by omega), List.drop_eq_getElem_cons (by omega), List.drop_eq_getElem_cons (by omega), List.getElem?_eq_getElem (by omega), List.getElem?_eq_getElem (by omega), List.getElem?_eq_getElem (by omega), List.getElem?_eq_getElem (by omega)]
    rfl
  rw [pk_two (k := 0) (by omega), pk_two (k := 2) (by omega), pk, e, nz_app]
  cases nz 0 [l[0]?.getD 0, l[0 + 1]?.getD 0] with
  | none => rfl
  | some a => exact nz_shift _ _ a

/-- Where a part is no number, there is no date. -/
theorem ref_parts {l : List Int} {o : Nat} {Y y0 : Int} (hy : pk l 0 o = some y0) : (∃ a, partsOf l o = some a ∧ a.y = y0 ∧ (⟨Y, pz l o, pz l (o + 2), pz l (o + 4), pz l (o + 6), pz l (o + 8)⟩ : D6) = { a with y := Y }) ∨
    (partsOf l o = none ∧ ¬ (⟨Y, pz l o, pz l (o + 2), pz l (o + 4), pz l (o + 6), pz l (o + 8)⟩ : D6).ok) := by
  unfold partsOf pz
  rw [hy]
  cases h1 : pk l o 2 with
  | none => exact .inr ⟨rfl, by unfold D6.ok; simp⟩
  | some m =>
    cases h2 : pk l (o + 2) 2 with
    | none => exact .inr ⟨rfl, by have := ml_rng Y m; unfold D6.ok; simp; omega⟩
    | some d =>
      cases h3 : pk l (o + 4) 2 with
      | none => exact .inr ⟨rfl, by unfold D6.ok; simp⟩
      | some hh =>
        cases h4 : pk l (o + 6) 2 with
        | none => exact .inr ⟨rfl, by unfold D6.ok; simp⟩
        | some i =>
          cases h5 : pk l (o + 8) 2 with
          | none => exact .inr ⟨rfl, by unfold D6.ok; simp⟩
          | some s => exact .inl ⟨_, rfl, rfl, rfl⟩

theorem no_secs {a : D6} (h : ¬ a.ok) : secsR a = 0 ∧ okB a = false := by
  refine ⟨?_, okB_false h⟩
  unfold secsR
  rw [if_neg (by rw [okB_false h]; simp)]

/-- The reference's date of a text with four digits of its year. -/
theorem ref_long {l : List Int} {a b : Int} (h1 : l.length = 15 ∧ l[14]?.getD 0 = 90) (ha : pk l 0 2 = some a) (hb : pk l 2 2 = some b) :
    secsR ⟨a * 100 + b, pz l 4, pz l 6, pz l 8, pz l 10, pz l 12⟩ = readV (readD l true) ∧ okB ⟨a * 100 + b, pz l 4, pz l 6, pz l 8, pz l 10, pz l 12⟩ = readB (readD l true) := by
  have hy : pk l 0 4 = some (a * 100 + b) := by rw [pk_four (by omega), ha, hb]; rfl
  rw [readD_true, if_pos h1]
  rcases ref_parts (Y := a * 100 + b) hy with ⟨c, hc, hcy, e⟩ | ⟨hn, hno⟩
  · rw [hc]
    have e' : (⟨a * 100 + b, pz l 4, pz l 6, pz l 8, pz l 10, pz l 12⟩ : D6) = c := by rw [← hcy] at e ⊢; exact e
    rw [e']
    exact ⟨rfl, rfl⟩
  · rw [hn]
    exact no_secs hno
theorem ref_long_no {l : List Int} (h1 : l.length = 15) (h : pk l 0 2 = none ∨ pk l 2 2 = none) : readD l true = none := by
  have hy : pk l 0 4 = none := by
    rw [pk_four (by omega)]
    rcases h with h | h
    · rw [h]; rfl
    · rw [h]; cases pk l 0 2 <;> rfl
  rw [readD_true]
  split
  · rw [parts_none (.inl hy)]; rfl
  · rfl
theorem ref_short {l : List Int} {Y : Int} (h1 : l.length = 13 ∧ l[12]?.getD 0 = 90) (hY : Y = if pz l 0 < 50 then pz l 0 + 2000 else pz l 0 + 1900) :
    secsR ⟨Y, pz l 2, pz l 4, pz l 6, pz l 8, pz l 10⟩ = readV (readD l false) ∧ okB ⟨Y, pz l 2, pz l 4, pz l 6, pz l 8, pz l 10⟩ = readB (readD l false) := by
  rw [readD_false, if_pos h1]
  cases hp : pk l 0 2 with
  | none =>
    rw [parts_none (.inl hp)]
    have : pz l 0 = 999 := by unfold pz; rw [hp]; rfl
    rw [this, if_neg (by omega)] at hY
    subst hY
    exact no_secs (by unfold D6.ok; simp)
  | some y =>
    have hz : pz l 0 = y := by unfold pz; rw [hp]; rfl
    have hf : Y = fullY y := by rw [hY, hz]; unfold fullY; split <;> split <;> omega
    rcases ref_parts (Y := Y) hp with ⟨c, hc, hcy, e⟩ | ⟨hn, hno⟩
    · rw [hc]
      have e' : (⟨Y, pz l 2, pz l 4, pz l 6, pz l 8, pz l 10⟩ : D6) = { c with y := fullY c.y } := by rw [hcy, ← hf]; exact e
      rw [e']
      exact ⟨rfl, rfl⟩
    · rw [hn]
      exact no_secs hno

theorem pz_rng (l : List Int) (k : Nat) : 0 ≤ pz l k ∧ pz l k ≤ 999 := by
  unfold pz
  cases h : pk l k 2 with
  | none => simp
  | some v =>
    have r := nz_rng _ 0 v (by omega) h
    have hl : ((l.drop k).take 2).length ≤ 2 := List.length_take_le _ _
    refine ⟨r.1, ?_⟩
    simp only [Option.getD_some]
    generalize ((l.drop k).take 2).length = n at r hl
    rcases (show n = 0 ∨ n = 1 ∨ n = 2 by omega) with rfl | rfl | rfl <;> omega
theorem pz_some {l : List Int} {k : Nat} (h : pz l k ≠ 999) : pk l k 2 = some (pz l k) := by
  unfold pz at h ⊢
  cases hk : pk l k 2 with
  | none => rw [hk] at h; exact absurd rfl h
  | some v => rfl
theorem pz_none {l : List Int} {k : Nat} (h : pz l k = 999) : pk l k 2 = none := by
  cases hk : pk l k 2 with
  | none => rfl
  | some v =>
    unfold pz at h
    rw [hk] at h
    have r := nz_rng _ 0 v (by omega) hk
    have hl : ((l.drop k).take 2).length ≤ 2 := List.length_take_le _ _
    simp only [Option.getD_some] at h
    subst h
    generalize ((l.drop k).take 2).length = n at r hl
    rcases (show n = 0 ∨ n = 1 ∨ n = 2 by omega) with rfl | rfl | rfl <;> omega

set_option maxRecDepth 100000 in
set_option maxHeartbeats 4000000 in
theorem rread_short (t : ByteArray) (w : World) (h1 : t.size = 13) (h2 : nth t 12 = 90) : Calls Tryd.prog 68 #[.string t, .bool false] w (GivesR w (readD (numsOf t) false)) := by
  have hi := str_at t 12 (by omega) 12 rfl
  rw [h2] at hi
  have hl : (numsOf t).length = 13 ∧ (numsOf t)[12]?.getD 0 = 90 := ⟨by rw [numsOf_length]; exact h1, h2⟩
  have Bw : Hid (Below w.heap.size w w) := Lib.hid (Below.refl _ _)
  have h1' : (t.size : Int) = 13 := by omega
  have r0 := pz_rng (numsOf t) 0
  have HY : Hid (∀ Y, (Y = if pz (numsOf t) 0 < 50 then pz (numsOf t) 0 + 2000 else pz (numsOf t) 0 + 1900) → secsR ⟨Y, pz (numsOf t) 2, pz (numsOf t) 4, pz (numsOf t) 6, pz (numsOf t) 8, pz (numsOf t) 10⟩ = readV (readD (numsOf t) false) ∧ okB ⟨Y, pz (numsOf t) 2, pz (numsOf t) 4, pz (numsOf t) 6, pz (numsOf t) 8, pz (numsOf t) 10⟩ = readB (readD (numsOf t) false)) := Lib.hid (fun Y hY => ref_short hl hY)
  clear hl h2
  by_cases c : pz (numsOf t) 0 < 50
  · have EQ := Lib.hid (HY.out (pz (numsOf t) 0 + 2000) (by rw [if_pos c]))
    have t1 : decide (pz (numsOf t) 0 < 50) = true := by simpa using c
    clear HY
    go_enter Tryd.func68, Tryd.ntmps68
    go_wp2_with fail
    refine (part_any t 0 _ _ (by rfl) (by omega) (by omega)).mono ?_
    rintro e p0 ⟨rfl, hb_p0⟩
    have Bp0 := Lib.hid (Below.step Bw.out hb_p0)
    clear hb_p0
    go_wp2_with fail
    refine (part_any t 2 _ _ (by rfl) (by omega) (by omega)).mono ?_
    rintro e q0 ⟨rfl, hb_q0⟩
    have Bq0 := Lib.hid (Below.step Bp0.out hb_q0)
    clear hb_q0
    go_wp2_with fail
    refine (part_any t 4 _ _ (by rfl) (by omega) (by omega)).mono ?_
    rintro e q1 ⟨rfl, hb_q1⟩
    have Bq1 := Lib.hid (Below.step Bq0.out hb_q1)
    clear hb_q1
    go_wp2_with fail
    refine (part_any t 6 _ _ (by rfl) (by omega) (by omega)).mono ?_
    rintro e q2 ⟨rfl, hb_q2⟩
    have Bq2 := Lib.hid (Below.step Bq1.out hb_q2)
    clear hb_q2
    go_wp2_with fail
    refine (part_any t 8 _ _ (by rfl) (by omega) (by omega)).mono ?_
    rintro e q3 ⟨rfl, hb_q3⟩
    have Bq3 := Lib.hid (Below.step Bq2.out hb_q3)
    clear hb_q3
    go_wp2_with fail
    refine (part_any t 10 _ _ (by rfl) (by omega) (by omega)).mono ?_
    rintro e q4 ⟨rfl, hb_q4⟩
    have Bq4 := Lib.hid (Below.step Bq3.out hb_q4)
    clear hb_q4
    go_wp2_with fail
    refine (rsecs_any (pz (numsOf t) 0 + 2000) (pz (numsOf t) 2) (pz (numsOf t) 4) (pz (numsOf t) 6) (pz (numsOf t) 8) (pz (numsOf t) 10) _).mono ?_
    rintro e qz ⟨rfl, hbz⟩
    have BZ := Lib.hid (Below.step Bq4.out hbz)
    clear hbz
    go_wp2
    go_ret2
    exact ⟨by rw [← EQ.out.1, ← EQ.out.2]; rfl, BZ.out⟩
  · have EQ := Lib.hid (HY.out (pz (numsOf t) 0 + 1900) (by rw [if_neg c]))
    have t1 : decide (pz (numsOf t) 0 < 50) = false := by simpa using c
    clear HY
    go_enter Tryd.func68, Tryd.ntmps68
    go_wp2_with fail
    refine (part_any t 0 _ _ (by rfl) (by omega) (by omega)).mono ?_
    rintro e p0 ⟨rfl, hb_p0⟩
    have Bp0 := Lib.hid (Below.step Bw.out hb_p0)
    clear hb_p0
    go_wp2_with fail
    refine (part_any t 2 _ _ (by rfl) (by omega) (by omega)).mono ?_
    rintro e q0 ⟨rfl, hb_q0⟩
    have Bq0 := Lib.hid (Below.step Bp0.out hb_q0)
    clear hb_q0
    go_wp2_with fail
    refine (part_any t 4 _ _ (by rfl) (by omega) (by omega)).mono ?_
    rintro e q1 ⟨rfl, hb_q1⟩
    have Bq1 := Lib.hid (Below.step Bq0.out hb_q1)
    clear hb_q1
    go_wp2_with fail
    refine (part_any t 6 _ _ (by rfl) (by omega) (by omega)).mono ?_
    rintro e q2 ⟨rfl, hb_q2⟩
    have Bq2 := Lib.hid (Below.step Bq1.out hb_q2)
    clear hb_q2
    go_wp2_with fail
    refine (part_any t 8 _ _ (by rfl) (by omega) (by omega)).mono ?_
    rintro e q3 ⟨rfl, hb_q3⟩
    have Bq3 := Lib.hid (Below.step Bq2.out hb_q3)
    clear hb_q3
    go_wp2_with fail
    refine (part_any t 10 _ _ (by rfl) (by omega) (by omega)).mono ?_
    rintro e q4 ⟨rfl, hb_q4⟩
    have Bq4 := Lib.hid (Below.step Bq3.out hb_q4)
    clear hb_q4
    go_wp2_with fail
    refine (rsecs_any (pz (numsOf t) 0 + 1900) (pz (numsOf t) 2) (pz (numsOf t) 4) (pz (numsOf t) 6) (pz (numsOf t) 8) (pz (numsOf t) 10) _).mono ?_
    rintro e qz ⟨rfl, hbz⟩
    have BZ := Lib.hid (Below.step Bq4.out hbz)
    clear hbz
    go_wp2
    go_ret2
    exact ⟨by rw [← EQ.out.1, ← EQ.out.2]; rfl, BZ.out⟩

set_option maxRecDepth 100000 in
set_option maxHeartbeats 4000000 in
theorem rread_long (t : ByteArray) (w : World) (h1 : t.size = 15) (h2 : nth t 14 = 90) : Calls Tryd.prog 68 #[.string t, .bool true] w (GivesR w (readD (numsOf t) true)) := by
  have hi := str_at t 14 (by omega) 14 rfl
  rw [h2] at hi
  have hl : (numsOf t).length = 15 ∧ (numsOf t)[14]?.getD 0 = 90 := ⟨by rw [numsOf_length]; exact h1, h2⟩
  have Bw : Hid (Below w.heap.size w w) := Lib.hid (Below.refl _ _)
  have h1' : (t.size : Int) = 15 := by omega
  have r0 := pz_rng (numsOf t) 0
  have r2 := pz_rng (numsOf t) 2
  have HL := Lib.hid hl
  clear h2 hl
  by_cases c : pz (numsOf t) 0 = 999
  · have RD := Lib.hid (ref_long_no HL.out.1 (.inl (pz_none c)))
    have t1 : (pz (numsOf t) 0 == 999) = true := by simpa using c
    clear c
    go_enter Tryd.func68, Tryd.ntmps68
    go_wp2_with fail
    refine (part_any t 0 _ _ (by rfl) (by omega) (by omega)).mono ?_
    rintro e p0 ⟨rfl, hb_p0⟩
    have Bp0 := Lib.hid (Below.step Bw.out hb_p0)
    clear hb_p0
    go_wp2
    go_ret2
    exact GivesR.bad RD.out Bp0.out
  · have t1 : (pz (numsOf t) 0 == 999) = false := by simpa using c
    by_cases c2 : pz (numsOf t) 2 = 999
    · have RD := Lib.hid (ref_long_no HL.out.1 (.inr (pz_none c2)))
      have t2 : (pz (numsOf t) 2 == 999) = true := by simpa using c2
      clear c c2
      go_enter Tryd.func68, Tryd.ntmps68
      go_wp2_with fail
      refine (part_any t 0 _ _ (by rfl) (by omega) (by omega)).mono ?_
      rintro e p0 ⟨rfl, hb_p0⟩
      have Bp0 := Lib.hid (Below.step Bw.out hb_p0)
      clear hb_p0
      go_wp2_with fail
      refine (part_any t 2 _ _ (by rfl) (by omega) (by omega)).mono ?_
      rintro e p1 ⟨rfl, hb_p1⟩
      have Bp1 := Lib.hid (Below.step Bp0.out hb_p1)
      clear hb_p1
      go_wp2
      go_ret2
      exact GivesR.bad RD.out Bp1.out
    · have t2 : (pz (numsOf t) 2 == 999) = false := by simpa using c2
      have EQ := Lib.hid (ref_long HL.out (pz_some c) (pz_some c2))
      clear c c2
      go_enter Tryd.func68, Tryd.ntmps68
      go_wp2_with fail
      refine (part_any t 0 _ _ (by rfl) (by omega) (by omega)).mono ?_
      rintro e p0 ⟨rfl, hb_p0⟩
      have Bp0 := Lib.hid (Below.step Bw.out hb_p0)
      clear hb_p0
      go_wp2_with fail
      refine (part_any t 2 _ _ (by rfl) (by omega) (by omega)).mono ?_
      rintro e p1 ⟨rfl, hb_p1⟩
      have Bp1 := Lib.hid (Below.step Bp0.out hb_p1)
      clear hb_p1
      go_wp2_with fail
      refine (part_any t 2 _ _ (by rfl) (by omega) (by omega)).mono ?_
      rintro e p2 ⟨rfl, hb_p2⟩
      have Bp2 := Lib.hid (Below.step Bp1.out hb_p2)
      clear hb_p2
      go_wp2_with fail
      refine (part_any t 4 _ _ (by rfl) (by omega) (by omega)).mono ?_
      rintro e q0 ⟨rfl, hb_q0⟩
      have Bq0 := Lib.hid (Below.step Bp2.out hb_q0)
      clear hb_q0
      go_wp2_with fail
      refine (part_any t 6 _ _ (by rfl) (by omega) (by omega)).mono ?_
      rintro e q1 ⟨rfl, hb_q1⟩
      have Bq1 := Lib.hid (Below.step Bq0.out hb_q1)
      clear hb_q1
      go_wp2_with fail
      refine (part_any t 8 _ _ (by rfl) (by omega) (by omega)).mono ?_
      rintro e q2 ⟨rfl, hb_q2⟩
      have Bq2 := Lib.hid (Below.step Bq1.out hb_q2)
      clear hb_q2
      go_wp2_with fail
      refine (part_any t 10 _ _ (by rfl) (by omega) (by omega)).mono ?_
      rintro e q3 ⟨rfl, hb_q3⟩
      have Bq3 := Lib.hid (Below.step Bq2.out hb_q3)
      clear hb_q3
      go_wp2_with fail
      refine (part_any t 12 _ _ (by rfl) (by omega) (by omega)).mono ?_
      rintro e q4 ⟨rfl, hb_q4⟩
      have Bq4 := Lib.hid (Below.step Bq3.out hb_q4)
      clear hb_q4
      go_wp2_with fail
      refine (rsecs_any (pz (numsOf t) 0 * 100 + pz (numsOf t) 2) (pz (numsOf t) 4) (pz (numsOf t) 6) (pz (numsOf t) 8) (pz (numsOf t) 10) (pz (numsOf t) 12) _).mono ?_
      rintro e qz ⟨rfl, hbz⟩
      have BZ := Lib.hid (Below.step Bq4.out hbz)
      clear hbz
      go_wp2
      go_ret2
      exact ⟨by rw [← EQ.out.1, ← EQ.out.2]; rfl, BZ.out⟩

end Go.Proofs.YtjhffnoddhlikaaDoor.Clk

namespace Go.Proofs.YtjhffnoddhlikaaDoor.Clk
open Go.RowKit

set_option maxHeartbeats 1000000 in
theorem rread_any (t : ByteArray) (long : Bool) (w : World) : Calls Tryd.prog 68 #[.string t, .bool long] w (GivesR w (readD (numsOf t) long)) := by
  have NL := Lib.hid (numsOf_length t)
  cases long
  · by_cases h1 : t.size = 13
    · by_cases h2 : nth t 12 = 90
      · exact rread_short t w h1 h2
      · have RD : Hid (readD (numsOf t) false = none) := by
          unfold Hid readD
          rw [ if_neg (fun h => h2 h.2)]
        have hi := str_at t 12 (by omega) 12 rfl
        have h1' : (t.size : Int) = 13 := by omega
        generalize nth t 12 = c at hi h2
        have t2 : (c != 90) = true := by simpa using h2
        clear h1
        go_enter Tryd.func68, Tryd.ntmps68
        go_wp2
        go_ret2
        exact GivesR.bad RD.out (Below.refl _ _)
    · have RD : Hid (readD (numsOf t) false = none) := by
        unfold Hid readD
        rw [ if_neg (fun h => h1 (by have := h.1; rw [NL.out] at this; exact this))]
      have t1 : ((t.size : Int) != 13) = true := by simp; omega
      go_enter Tryd.func68, Tryd.ntmps68
      go_wp2
      go_ret2
      exact GivesR.bad RD.out (Below.refl _ _)
  · by_cases h1 : t.size = 15
    · by_cases h2 : nth t 14 = 90
      · exact rread_long t w h1 h2
      · have RD : Hid (readD (numsOf t) true = none) := by
          unfold Hid readD
          rw [ if_neg (fun h => h2 h.2)]
        have hi := str_at t 14 (by omega) 14 rfl
        have h1' : (t.size : Int) = 15 := by omega
        generalize nth t 14 = c at hi h2
        have t2 : (c != 90) = true := by simpa using h2
        clear h1
        go_enter Tryd.func68, Tryd.ntmps68
        go_wp2
        go_ret2
        exact GivesR.bad RD.out (Below.refl _ _)
    · have RD : Hid (readD (numsOf t) true = none) := by
        unfold Hid readD
        rw [ if_neg (fun h => h1 (by have := h.1; rw [NL.out] at this; exact this))]
      have t1 : ((t.size : Int) != 15) = true := by simp; omega
      go_enter Tryd.func68, Tryd.ntmps68
      go_wp2
      go_ret2
      exact GivesR.bad RD.out (Below.refl _ _)

end Go.Proofs.YtjhffnoddhlikaaDoor.Clk
