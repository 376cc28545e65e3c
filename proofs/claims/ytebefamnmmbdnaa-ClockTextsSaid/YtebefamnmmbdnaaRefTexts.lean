/-
  What the reference's two, behind, Long, Short and Text answer, for stage 3 (clock).
-/
import Derived.Test.YtebefamnmmbdnaaTexts
import Derived.Test.YtebefamnmmbdnaaBack
import Derived.Test.YtebefamnmmbdnaaRefRight
import Derived.Test.YtebefamnmmbdnaaRefDate
import Derived.Laws.Concat
namespace Go.Proofs.Ytebefamnmmbdnaa
open Go.RowKit

theorem digs_two (n : Int) : digs 2 n = [48 + n / 10 % 10, 48 + n % 10] := by simp [digs]

set_option maxHeartbeats 400000 in
theorem two_any (n : Int) (w : World) (h0 : 0 ≤ n) (h1 : n ≤ 100000) : Calls Try.prog 29 #[.int .i64 n] w fun e w' => e = .returned (.string (strOfNums (digs 2 n))) ∧ Below w.heap.size w w' := by
  have kc : (convert 42 9 (.slice (some ⟨w.heap.size, 0, none⟩) 2 2)).run Try.prog (w.alloc (.cells #[.int .u8 (48 + n / 10 % 10), .int .u8 (48 + n % 10)] 5)) = .ok (.string (strOfNums (digs 2 n))) (w.alloc (.cells #[.int .u8 (48 + n / 10 % 10), .int .u8 (48 + n % 10)] 5)) := by
    rw [digs_two]
    exact conv_at 2 (row_const w [48 + n / 10 % 10, 48 + n % 10] (0, 0) (by simp; omega))
  have b0 : 0 ≤ n / 10 % 10 := by omega
  have b1 : n / 10 % 10 < 10 := by omega
  have b2 : 0 ≤ n % 10 := by omega
  have b3 : n % 10 < 10 := by omega
  go_enter Try.func29, Try.ntmps29
  go_wp2
  go_ret
  exact ⟨rfl, (Below.refl _ _).alloc (Nat.le_refl _) _⟩

/-- What stands behind the year. -/
def D6.behind (a : D6) : List Int := digs 2 a.m ++ digs 2 a.d ++ digs 2 a.h ++ digs 2 a.i ++ digs 2 a.s ++ [90]
theorem str90 : strOfNums [90] = ⟨#[90]⟩ := by kernel_rfl

theorem size2 (n : Int) : (strOfNums (digs 2 n)).size = 2 := by rw [strOfNums_size, digs_length]

set_option maxRecDepth 100000 in
set_option maxHeartbeats 4000000 in
theorem behind_any (y m d h i s : Int) (w : World) (hok : (⟨y, m, d, h, i, s⟩ : D6).ok) : Calls Try.prog 30 #[.agg #[.int .i64 y, .int .i64 m, .int .i64 d, .int .i64 h, .int .i64 i, .int .i64 s]] w fun e w' => e = .returned (.string (strOfNums (⟨y, m, d, h, i, s⟩ : D6).behind)) ∧ Below w.heap.size w w' := by
  obtain ⟨h1, h2, h3, h4, h5, h6, h7, h8, h9, h10, h11, h12⟩ := hok
  simp only at h1 h2 h3 h4 h5 h6 h7 h8 h9 h10 h11 h12
  have hl := ml_rng y m
  have HE : Hid (strOfNums (⟨y, m, d, h, i, s⟩ : D6).behind = strOfNums (digs 2 m) ++ strOfNums (digs 2 d) ++ strOfNums (digs 2 h) ++ strOfNums (digs 2 i) ++ strOfNums (digs 2 s) ++ ⟨#[90]⟩) := by
    unfold Hid D6.behind
    simp only [str_append, str90]
  have z1 := size2 m
  have z2 := size2 d
  have z3 := size2 h
  have z4 := size2 i
  have z5 := size2 s
  have T1 := Lib.hid (fun W => two_any m W (by omega) (by omega))
  have T2 := Lib.hid (fun W => two_any d W (by omega) (by omega))
  have T3 := Lib.hid (fun W => two_any h W (by omega) (by omega))
  have T4 := Lib.hid (fun W => two_any i W (by omega) (by omega))
  have T5 := Lib.hid (fun W => two_any s W (by omega) (by omega))
  generalize strOfNums (digs 2 m) = S1 at HE z1 T1
  generalize strOfNums (digs 2 d) = S2 at HE z2 T2
  generalize strOfNums (digs 2 h) = S3 at HE z3 T3
  generalize strOfNums (digs 2 i) = S4 at HE z4 T4
  generalize strOfNums (digs 2 s) = S5 at HE z5 T5
  go_enter Try.func30, Try.ntmps30
  go_wp2
  obtain ⟨w3, HW3, B3⟩ : ∃ w3, w3 = w.alloc (.cells #[.int .i64 y, .int .i64 m, .int .i64 d, .int .i64 h, .int .i64 i, .int .i64 s] 22) ∧ Below w.heap.size w w3 := ⟨_, rfl, (Below.refl _ _).alloc (Nat.le_refl _) _⟩
  rw [← HW3]
  obtain ⟨k0, k1, k2, k3, k4, k5⟩ := six_later (show Blk w3 w.heap.size 22 (d6c y m d h i s) by rw [HW3]; exact Blk.new w 22 _)
  clear HW3
  refine wp_region_ord Ext Ext.refl (fun _ _ _ => Ext.trans) ((0, false) :: (1, false) :: (3, false) :: (4, false) :: (7, false) :: (8, false) :: (11, false) :: (12, false) :: (15, false) :: (16, false) :: (2, true) :: (5, true) :: (6, false) :: (9, true) :: (10, false) :: (13, true) :: (14, false) :: (17, true) :: (18, false) :: (19, false) :: (20, false) :: []) (by kernel_rfl) (by kernel_rfl) rfl (by kernel_rfl) (fun _ _ _ _ _ h => h) ?_
  repeat (refine ord_take _ rfl (by rfl) (fun W hW => by go_simp; first | done | rfl) ?_; simp only [Act.put, List.setIfInBounds_toArray, List.set_cons_zero, List.set_cons_succ])
  clear k0 k1 k2 k3 k4 k5
  refine ord_sole rfl (by rfl) (fun K hK => ?_)
  go_simp
  refine (T1.out _).mono ?_
  rintro e v1 ⟨rfl, hb1⟩
  refine hK _ _ hb1 ?_
  clear hK K
  refine ord_sole rfl (by rfl) (fun K hK => ?_)
  go_simp
  refine (T2.out _).mono ?_
  rintro e v2 ⟨rfl, hb2⟩
  refine hK _ _ hb2 ?_
  clear hK K
  repeat (refine ord_take _ rfl (by rfl) (fun W hW => by go_simp; first | done | rfl) ?_; simp only [Act.put, List.setIfInBounds_toArray, List.set_cons_zero, List.set_cons_succ])
  refine ord_sole rfl (by rfl) (fun K hK => ?_)
  go_simp
  refine (T3.out _).mono ?_
  rintro e v3 ⟨rfl, hb3⟩
  refine hK _ _ hb3 ?_
  clear hK K
  repeat (refine ord_take _ rfl (by rfl) (fun W hW => by go_simp; first | done | rfl) ?_; simp only [Act.put, List.setIfInBounds_toArray, List.set_cons_zero, List.set_cons_succ])
  refine ord_sole rfl (by rfl) (fun K hK => ?_)
  go_simp
  refine (T4.out _).mono ?_
  rintro e v4 ⟨rfl, hb4⟩
  refine hK _ _ hb4 ?_
  clear hK K
  repeat (refine ord_take _ rfl (by rfl) (fun W hW => by go_simp; first | done | rfl) ?_; simp only [Act.put, List.setIfInBounds_toArray, List.set_cons_zero, List.set_cons_succ])
  refine ord_sole rfl (by rfl) (fun K hK => ?_)
  go_simp
  refine (T5.out _).mono ?_
  rintro e v5 ⟨rfl, hb5⟩
  refine hK _ _ hb5 ?_
  clear hK K
  repeat (refine ord_take _ rfl (by rfl) (fun W hW => by go_simp; first | done | rfl) ?_; simp only [Act.put, List.setIfInBounds_toArray, List.set_cons_zero, List.set_cons_succ])
  refine ord_end ?_
  go_wp2
  go_ret
  exact ⟨by rw [HE.out]; rfl, Ext.trans (Ext.trans (Ext.trans (Ext.trans (Ext.trans B3 (Ext.of_drew hb1)) hb2) hb3) hb4) hb5⟩

theorem long_behind (a : D6) : a.long = digs 2 (a.y / 100) ++ digs 2 a.y ++ a.behind := by simp [D6.long, D6.txt, D6.behind, digs4]
theorem short_behind (a : D6) : a.long.drop 2 = digs 2 a.y ++ a.behind := by rw [short_of]; simp [D6.behind]
theorem behind_size (a : D6) : (strOfNums a.behind).size = 11 := by rw [strOfNums_size]; simp [D6.behind, digs_length]

set_option maxRecDepth 100000 in
set_option maxHeartbeats 2000000 in
theorem rlong_any (s : Int) (w : World) : Calls Try.prog 16 #[.int .i64 s] w (GivesT (LongR s) w) := by
  have C := Lib.hid (rdate_any s w)
  go_enter Try.func16, Try.ntmps16
  go_wp2_with fail
  refine C.out.mono ?_
  rintro e w1 ⟨a, ok, hR, rfl, hb1⟩
  clear C
  have B1 := Lib.hid hb1
  clear hb1
  rcases hR with ⟨rfl, hd⟩ | ⟨rfl, rfl, ho⟩
  · have HD := Lib.hid hd
    obtain ⟨y, m, d, h, i, s'⟩ := a
    have hy1 : 1950 ≤ y := hd.1.1
    have hy2 : y ≤ 2199 := hd.1.2.1
    clear hd
    have T1 := Lib.hid (fun W => two_any (y / 100) W (by omega) (by omega))
    have T2 := Lib.hid (fun W => two_any y W (by omega) (by omega))
    have T3 := Lib.hid (fun W => behind_any y m d h i s' W HD.out.1)
    have z1 := size2 (y / 100)
    have z2 := size2 y
    have z3 := behind_size ⟨y, m, d, h, i, s'⟩
    have HE : Hid (strOfNums (⟨y, m, d, h, i, s'⟩ : D6).long = strOfNums (digs 2 (y / 100)) ++ strOfNums (digs 2 y) ++ strOfNums (⟨y, m, d, h, i, s'⟩ : D6).behind) := by
      unfold Hid
      rw [long_behind, str_append, str_append]
    generalize strOfNums (digs 2 (y / 100)) = S1 at HE z1 T1
    generalize strOfNums (digs 2 y) = S2 at HE z2 T2
    generalize strOfNums (⟨y, m, d, h, i, s'⟩ : D6).behind = S3 at HE z3 T3
    have hq : IntKind.i64.wrap (y.tdiv 100) = y / 100 := by rw [Int.tdiv_eq_ediv_of_nonneg (by omega)]; exact IntWalk.i64_in _ (by omega)
    have hq' : IntKind.i64.wrap (y / 100) = y / 100 := IntWalk.i64_in _ (by omega)
    have hq2 : y.tdiv 100 = y / 100 := Int.tdiv_eq_ediv_of_nonneg (by omega)
    simp only [D6.cells, d6c]
    go_wp2
    obtain ⟨w3, HW3, B3⟩ : ∃ w3, w3 = w1.alloc (.cells #[.int .i64 y, .int .i64 m, .int .i64 d, .int .i64 h, .int .i64 i, .int .i64 s'] 22) ∧ Below w.heap.size w w3 := ⟨_, rfl, B1.out.alloc B1.out.size _⟩
    rw [← HW3]
    obtain ⟨k0, k1, k2, k3, k4, k5⟩ := six_later (show Blk w3 w1.heap.size 22 (d6c y m d h i s') by rw [HW3]; exact Blk.new w1 22 _)
    clear HW3
    refine wp_region_ord Ext Ext.refl (fun _ _ _ => Ext.trans) ((0, false) :: (1, false) :: (2, false) :: (4, false) :: (5, false) :: (8, false) :: (3, true) :: (6, true) :: (7, false) :: (9, true) :: (10, false) :: (11, false) :: (12, false) :: []) (by kernel_rfl) (by kernel_rfl) rfl (by kernel_rfl) (fun _ _ _ _ _ h => h) ?_
    repeat (refine ord_take _ rfl (by rfl) (fun W hW => by go_simp; first | done | rfl) ?_; simp only [Act.put, List.setIfInBounds_toArray, List.set_cons_zero, List.set_cons_succ])
    clear k0 k1 k2 k3 k4 k5
    refine ord_sole rfl (by rfl) (fun K hK => ?_)
    go_simp
    refine (T1.out _).mono ?_
    rintro e v1 ⟨rfl, hb1⟩
    refine hK _ _ hb1 ?_
    clear hK K
    refine ord_sole rfl (by rfl) (fun K hK => ?_)
    go_simp
    refine (T2.out _).mono ?_
    rintro e v2 ⟨rfl, hb2⟩
    refine hK _ _ hb2 ?_
    clear hK K
    repeat (refine ord_take _ rfl (by rfl) (fun W hW => by go_simp; first | done | rfl) ?_; simp only [Act.put, List.setIfInBounds_toArray, List.set_cons_zero, List.set_cons_succ])
    refine ord_sole rfl (by rfl) (fun K hK => ?_)
    go_simp
    refine (T3.out _).mono ?_
    rintro e v3 ⟨rfl, hb3⟩
    refine hK _ _ hb3 ?_
    clear hK K
    repeat (refine ord_take _ rfl (by rfl) (fun W hW => by go_simp; first | done | rfl) ?_; simp only [Act.put, List.setIfInBounds_toArray, List.set_cons_zero, List.set_cons_succ])
    refine ord_end ?_
    go_wp2
    go_ret2
    exact ⟨_, true, .inl ⟨rfl, _, HD.out, by rw [HE.out]⟩, rfl, Ext.trans (Ext.trans (Ext.trans B3 (Ext.of_drew hb1)) hb2) hb3⟩
  · simp only [D6.cells, d6c, zeroD]
    go_wp2
    go_ret2
    exact ⟨_, false, .inr ⟨rfl, rfl, ho⟩, rfl, B1.out.alloc B1.out.size _⟩

set_option maxRecDepth 100000 in
set_option maxHeartbeats 2000000 in
theorem rshort_any (s : Int) (w : World) : Calls Try.prog 14 #[.int .i64 s] w (GivesT (ShortR s) w) := by
  have C := Lib.hid (rdate_any s w)
  go_enter Try.func14, Try.ntmps14
  go_wp2_with fail
  refine C.out.mono ?_
  rintro e w1 ⟨a, ok, hR, rfl, hb1⟩
  clear C
  have B1 := Lib.hid hb1
  clear hb1
  rcases hR with ⟨rfl, hd⟩ | ⟨rfl, rfl, ho⟩
  · have HD := Lib.hid hd
    obtain ⟨y, m, d, h, i, s'⟩ := a
    have hy1 : 1950 ≤ y := hd.1.1
    have hy2 : y ≤ 2199 := hd.1.2.1
    clear hd
    simp only [D6.cells, d6c]
    by_cases hy : 2049 < y
    · have hy' : decide (2049 < y) = true := by simpa using hy
      go_wp2
      go_ret2
      exact ⟨_, false, .inr ⟨rfl, rfl, .inr ⟨_, HD.out, by simp only; omega⟩⟩, rfl, B1.out.alloc B1.out.size _⟩
    · have hy' : decide (2049 < y) = false := by simpa using hy
      have T1 := Lib.hid (fun W => two_any y W (by omega) (by omega))
      have T2 := Lib.hid (fun W => behind_any y m d h i s' W HD.out.1)
      have z1 := size2 y
      have z2 := behind_size ⟨y, m, d, h, i, s'⟩
      have HE : Hid (strOfNums ((⟨y, m, d, h, i, s'⟩ : D6).long.drop 2) = strOfNums (digs 2 y) ++ strOfNums (⟨y, m, d, h, i, s'⟩ : D6).behind) := by
        unfold Hid
        rw [short_behind, str_append]
      generalize strOfNums (digs 2 y) = S1 at HE z1 T1
      generalize strOfNums (⟨y, m, d, h, i, s'⟩ : D6).behind = S2 at HE z2 T2
      go_wp2
      obtain ⟨w3, HW3, B3⟩ : ∃ w3, w3 = w1.alloc (.cells #[.int .i64 y, .int .i64 m, .int .i64 d, .int .i64 h, .int .i64 i, .int .i64 s'] 22) ∧ Below w.heap.size w w3 := ⟨_, rfl, B1.out.alloc B1.out.size _⟩
      rw [← HW3]
      obtain ⟨k0, k1, k2, k3, k4, k5⟩ := six_later (show Blk w3 w1.heap.size 22 (d6c y m d h i s') by rw [HW3]; exact Blk.new w1 22 _)
      clear HW3
      refine wp_region_ord Ext Ext.refl (fun _ _ _ => Ext.trans) ((0, false) :: (1, false) :: (3, false) :: (2, true) :: (4, true) :: (5, false) :: (6, false) :: (7, false) :: []) (by kernel_rfl) (by kernel_rfl) rfl (by kernel_rfl) (fun _ _ _ _ _ h => h) ?_
      repeat (refine ord_take _ rfl (by rfl) (fun W hW => by go_simp; first | done | rfl) ?_; simp only [Act.put, List.setIfInBounds_toArray, List.set_cons_zero, List.set_cons_succ])
      clear k0 k1 k2 k3 k4 k5
      refine ord_sole rfl (by rfl) (fun K hK => ?_)
      go_simp
      refine (T1.out _).mono ?_
      rintro e v1 ⟨rfl, hb1⟩
      refine hK _ _ hb1 ?_
      clear hK K
      refine ord_sole rfl (by rfl) (fun K hK => ?_)
      go_simp
      refine (T2.out _).mono ?_
      rintro e v2 ⟨rfl, hb2⟩
      refine hK _ _ hb2 ?_
      clear hK K
      repeat (refine ord_take _ rfl (by rfl) (fun W hW => by go_simp; first | done | rfl) ?_; simp only [Act.put, List.setIfInBounds_toArray, List.set_cons_zero, List.set_cons_succ])
      refine ord_end ?_
      go_wp2
      go_ret2
      exact ⟨_, true, .inl ⟨rfl, _, HD.out, by simp only; omega, by rw [HE.out]⟩, rfl, Ext.trans (Ext.trans B3 (Ext.of_drew hb1)) hb2⟩
  · simp only [D6.cells, d6c, zeroD]
    go_wp2
    go_ret2
    exact ⟨_, false, .inr ⟨rfl, rfl, .inl ho⟩, rfl, B1.out.alloc B1.out.size _⟩

set_option maxHeartbeats 1000000 in
theorem rtext_any (s : Int) (w : World) : Calls Try.prog 18 #[.int .i64 s] w (GivesT (TextR s) w) := by
  have C := Lib.hid (rshort_any s w)
  go_enter Try.func18, Try.ntmps18
  go_wp2_with fail
  refine C.out.mono ?_
  rintro e w1 ⟨S, ok, hR, rfl, hb1⟩
  clear C
  have B1 := Lib.hid hb1
  have HR := Lib.hid hR
  clear hb1 hR
  cases ok
  · go_wp2_with fail
    refine (rlong_any s _).mono ?_
    rintro e w2 ⟨S', ok', hR', rfl, hb2⟩
    have B2 := Lib.hid (Below.step B1.out hb2)
    have HT : Hid (TextR s S' ok') := .inr ⟨by
      rcases HR.out with ⟨h, _⟩ | ⟨h, e, h'⟩
      · cases h
      · rw [← e]; exact HR.out, hR'⟩
    clear hb2 hR'
    go_wp2
    go_ret2
    exact ⟨S', ok', HT.out, rfl, B2.out⟩
  · go_wp2
    go_ret2
    exact ⟨S, true, .inl ⟨rfl, HR.out⟩, rfl, B1.out⟩

end Go.Proofs.Ytebefamnmmbdnaa
