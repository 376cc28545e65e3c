/-
  Merged texts: SameT, Num, BytesC, LeastC, Sc2, Sc3, OpenT, Cap, Sc4, Sc5, Sc6, ScN, NumBack, ReP.
-/
import Derived.Test.YtlmndmfebgaidaaGreatDoorGnG
import Derived.Test.YtlmndmfebgaidaaGreatDoorGnA
import Derived.Lib.Strings
import Derived.Test.YtlmndmfebgaidaaGreatDoorRows
import Derived.WalkKit
import Derived.WalkSpells
import Derived.WalkLawsBesides
import Derived.Deep.QuietTactic
import Derived.BigQuiet
import Derived.Lib.Hide
import Derived.Laws.BitsLemmas
import Derived.Lib.SmallJoins
import Derived.ChangeArms
import Derived.ChangeSlices
import Derived.Deep.Fields
import Derived.Test.YtlmndmfebgaidaaGreatDoorGnF
namespace Go.Proofs.YtlmndmfebgaidaaGreatDoor
open Go.RowKit
mutual
def sameT : T → T → Bool
  | .node t b ks, y => (t == y.tag) && ((b == y.body) && ((ks.length == y.kids.length) && sameAll ks y.kids))
def sameAll : List T → List T → Bool
  | [], _ => true
  | _ :: _, [] => true
  | x :: r, y :: q => sameT x y && sameAll r q
end
theorem sameT_eq (x y : T) : sameT x y = ((x.tag == y.tag) && ((x.body == y.body) && ((x.kids.length == y.kids.length) && sameAll x.kids y.kids))) := by
  obtain ⟨t, b, ks⟩ := x
  rw [sameT]
  rfl
theorem same_refl (x : T) : sameT x x = true := by
  refine T.each (p := fun x => sameT x x = true) ?_ x
  intro x ih
  have key : ∀ ks : List T, (∀ k ∈ ks, sameT k k = true) → sameAll ks ks = true := by
    intro ks
    induction ks with
    | nil => intro _; rw [sameAll]
    | cons k r ihr =>
      intro h
      rw [sameAll, h k (by simp), ihr (fun x hx => h x (by simp [hx]))]
      rfl
  rw [sameT_eq, key x.kids ih]
  simp
theorem same_is (x : T) : ∀ y, sameT x y = true → x = y := by
  refine T.each (p := fun x => ∀ y, sameT x y = true → x = y) ?_ x
  intro x ih y h
  have key : ∀ ks ys : List T, (∀ k ∈ ks, ∀ y, sameT k y = true → k = y) → ks.length = ys.length → sameAll ks ys = true → ks = ys := by
    intro ks
    induction ks with
    | nil => intro ys _ hl _; exact (List.eq_nil_of_length_eq_zero (by simpa using hl.symm)).symm
    | cons k r ihr =>
      intro ys hk hl h
      cases ys with
      | nil => simp at hl
      | cons y q =>
        rw [sameAll, Bool.and_eq_true] at h
        rw [hk k (by simp) y h.1, ihr q (fun x hx => hk x (by simp [hx])) (by simpa using hl) h.2]
  rw [sameT_eq, Bool.and_eq_true, Bool.and_eq_true, Bool.and_eq_true] at h
  obtain ⟨h1, h2, h3, h4⟩ := h
  have h5 := key x.kids y.kids ih (by simpa using h3) h4
  obtain ⟨t, b, ks⟩ := x
  obtain ⟨t', b', ks'⟩ := y
  simp only [T.tag, T.body, T.kids, beq_iff_eq] at h1 h2 h5
  rw [h1, h2, h5]
theorem same_drop {xs ys : List T} {i : Nat} {x y : T} (hx : xs[i]? = some x) (hy : ys[i]? = some y) : sameAll (xs.drop i) (ys.drop i) = (sameT x y && sameAll (xs.drop (i + 1)) (ys.drop (i + 1))) := by
  obtain ⟨h1, rfl⟩ := List.getElem?_eq_some_iff.1 hx
  obtain ⟨h2, rfl⟩ := List.getElem?_eq_some_iff.1 hy
  rw [List.drop_eq_getElem_cons h1, List.drop_eq_getElem_cons h2, sameAll]
theorem same_end {xs : List T} {i : Nat} (h : xs.length ≤ i) (ys : List T) : sameAll (xs.drop i) ys = true := by
  rw [List.drop_of_length_le h, sameAll]
theorem str_ne {x y : ByteArray} (h : ¬ x = y) : (x.toList == y.toList) = false := by
  rw [beq_eq_false_iff_ne]
  intro e
  rw [Lib.toList_data, Lib.toList_data] at e
  obtain ⟨⟨x⟩⟩ := x
  obtain ⟨⟨y⟩⟩ := y
  exact h (by rw [show x = y from e])
theorem strs_test {xs ys : List Int} (hx : ∀ z ∈ xs, 0 ≤ z ∧ z ≤ 255) (hy : ∀ z ∈ ys, 0 ≤ z ∧ z ≤ 255) : ((strOfNums xs).toList == (strOfNums ys).toList) = (xs == ys) := by
  by_cases h : xs = ys
  · subst h
    simp
  · rw [str_ne (fun e => h (by rw [← nums_str xs hx, ← nums_str ys hy, e]))]
    exact (beq_eq_false_iff_ne.2 h).symm
theorem Box.later {w wr : World} {g : Nat} {t : T} {A : Option Addr} {n c : Nat} {K : Option Addr} {m d : Nat} (h : Box w wr g t A n c K m d) : ∀ W, Ext wr.drew W → W.cell? ⟨g, 2, none⟩ = some (.slice K m d) :=
  fun _ hW => (hW.cell (p := ⟨g, 2, none⟩) h.blk.lt).trans (h.blk.cell 2)
theorem Box.wider {w wr : World} {o : Obj} {t : T} {A : Option Addr} {n c : Nat} {K : Option Addr} {m d : Nat} (h : Box (w.alloc o) wr (w.alloc o).heap.size t A n c K m d) : Box w wr (w.heap.size + 1) t A n c K m d := by
  have e : (w.alloc o).heap.size = w.heap.size + 1 := by simp
  exact ⟨by omega, e ▸ h.blk, (((Below.refl _ _).alloc (Nat.le_refl _) o : Below w.heap.size w (w.alloc o))).trans (h.below.mono (by omega)), h.has⟩
set_option maxHeartbeats 4000000 in
theorem same_any (x : T) : ∀ (y : T) (u v : Value) (w : World), x.In w u → y.In w v →
    Calls Tryz.prog 13 #[u, v] w fun e w' => e = .returned (.bool (sameT x y)) ∧ Below w.heap.size w w' := by
  refine T.each (p := fun x => ∀ (y : T) (u v : Value) (w : World), x.In w u → y.In w v → Calls Tryz.prog 13 #[u, v] w fun e w' => e = .returned (.bool (sameT x y)) ∧ Below w.heap.size w w') ?_ x
  clear x
  intro x ih y u v w hx hy
  obtain ⟨A, n, c, K, m, d, rfl, wx, rx, hn, hc, hm, hm', hks⟩ := hx.open
  obtain ⟨A2, n2, c2, K2, m2, d2, rfl, wy, ry, hn2, hc2, hk2, hm2, hks2⟩ := hy.open
  have IH := Lib.hid ih
  have BX := Lib.hid ((Box.start hx).go ((Below.refl _ _).alloc (Nat.le_refl _) (.cells #[.int .i64 y.tag, .slice A2 n2 c2, .slice K2 m2 d2] 29)))
  have BY := Lib.hid (Box.start (w := w.alloc (.cells #[.int .i64 x.tag, .slice A n c, .slice K m d] 29)) (T.In.below ((Below.refl _ _).alloc (Nat.le_refl _) _) y hy))
  have B2 : Hid (Below w.heap.size w ((w.alloc (.cells #[.int .i64 x.tag, .slice A n c, .slice K m d] 29)).alloc (.cells #[.int .i64 y.tag, .slice A2 n2 c2, .slice K2 m2 d2] 29))) := ((Below.refl _ _).alloc (Nat.le_refl _) _).alloc (by simp) _
  have SE := Lib.hid (sameT_eq x y)
  have HM := Lib.hid hm
  have HM2 := Lib.hid hk2
  unfold maxLen at hm' hm2 hn hn2
  clear hks hks2 hc hc2 ih
  by_cases e1 : x.tag = y.tag
  rotate_left
  · have t1 : (x.tag != y.tag) = true := by simpa using e1
    have F : Hid (sameT x y = false) := by rw [SE.out]; simp [e1, Hid]
    clear hm hk2 e1
    go_enter Tryz.func13, Tryz.ntmps13
    go_wp2_with fail
    go_ret
    exact ⟨ret_bool F.out.symm, B2.out⟩
  have E1 := Lib.hid e1
  have t1 : (x.tag != y.tag) = false := by simpa using e1
  have kx := conv_at c ((rx.below (w' := w.alloc (.cells #[.int .i64 x.tag, .slice A n c, .slice K m d] 29)) ((Below.refl _ _).alloc (Nat.le_refl _) _)).below ((Below.refl _ _).alloc (Nat.le_refl _) (.cells #[.int .i64 y.tag, .slice A2 n2 c2, .slice K2 m2 d2] 29)))
  have ky := conv_at c2 ((ry.below (w' := w.alloc (.cells #[.int .i64 x.tag, .slice A n c, .slice K m d] 29)) ((Below.refl _ _).alloc (Nat.le_refl _) _)).below ((Below.refl _ _).alloc (Nat.le_refl _) (.cells #[.int .i64 y.tag, .slice A2 n2 c2, .slice K2 m2 d2] 29)))
  have ts := strs_test rx.2.1 ry.2.1
  by_cases e2 : x.body = y.body
  rotate_left
  · have F : Hid (sameT x y = false) := by rw [SE.out]; simp [e2, Hid]
    have t2 : (x.body == y.body) = false := by simpa using e2
    rw [t2] at ts
    clear hm hk2 e1 e2 t2
    go_enter Tryz.func13, Tryz.ntmps13
    go_wp2_with fail
    go_ret
    exact ⟨ret_bool F.out.symm, B2.out⟩
  have E2 := Lib.hid e2
  have t2 : (x.body == y.body) = true := by simpa using e2
  rw [t2] at ts
  clear t2 e1 e2
  by_cases e3 : m = m2
  rotate_left
  · have F : Hid (sameT x y = false) := by rw [SE.out]; simp [HM.out, HM2.out, e3, Hid]
    have t3 : ((m : Int) != (m2 : Int)) = true := by simp; omega
    clear hm hk2 e3
    go_enter Tryz.func13, Tryz.ntmps13
    go_wp2_with fail
    go_ret
    exact ⟨ret_bool F.out.symm, B2.out⟩
  subst e3
  have SA : Hid (sameT x y = sameAll x.kids y.kids) := by rw [SE.out]; simp [HM.out, HM2.out, E1.out, E2.out, Hid]
  clear hm hk2 SE E1 E2
  go_enter Tryz.func13, Tryz.ntmps13
  go_wp2_with fail
  clear kx ky ts
  go_loopw [5] (fun i wr => ∃ k : Nat, k ≤ m ∧ i = .int .i64 (k : Int) ∧ sameT x y = sameAll (x.kids.drop k) (y.kids.drop k) ∧ Box w wr w.heap.size x A n c K m d ∧ Box w wr (w.heap.size + 1) y A2 n2 c2 K2 m d2) (fun i _ => m - (intOf i).toNat)
  case atStart => exact ⟨0, by omega, rfl, SA.out, BX.out, Box.wider BY.out⟩
  case round =>
    obtain ⟨k, hk, rfl, hs, hbx, hby⟩ := hrel
    have HS := Lib.hid hs
    have HX := Lib.hid hbx
    have HY := Lib.hid hby
    have gx := hbx.cells.2.2
    have gy := hby.cells.2.2
    clear hs hbx hby SA BX BY B2
    by_cases hlt : k < m
    · obtain ⟨p, b, off, z, A', n', c', K', m', d', hp, rfl, p0, p1, p2, hpin⟩ := HX.out.kid k hlt
      obtain ⟨q, b2, off2, z2, A2', n2', c2', K2', m2', d2', hq, rfl, q0, q1, q2, hqin⟩ := HY.out.kid k hlt
      have ST := Lib.hid (HS.out.trans (same_drop hp hq))
      have lx := HX.out.later
      have ly := HY.out.later
      have l0 := cell_later p0
      have l1 := cell_later p1
      have l2 := cell_later p2
      have r0 := cell_later q0
      have r1 := cell_later q1
      have r2 := cell_later q2
      have CI := Lib.hid (fun W (hW : Ext wr.drew W) => IH.out p (List.mem_of_getElem? hp) q _ _ W (T.In.below (Ext.of_drew hW) p hpin) (T.In.below (Ext.of_drew hW) q hqin))
      clear HS hp hq hpin hqin p0 p1 p2 q0 q1 q2 IH
      go_wp2_with fail
      clear gx gy
      refine wp_region_ord Ext Ext.refl (fun _ _ _ => Ext.trans) ((0, false) :: (1, false) :: (2, false) :: (3, false) :: (4, false) :: (5, false) :: (6, false) :: (7, false) :: (8, false) :: (9, false) :: (10, true) :: (11, false) :: []) (by kernel_rfl) (by kernel_rfl) rfl (by kernel_rfl) (fun _ _ _ _ _ h => h) ?_
      repeat (refine ord_take _ rfl (by rfl) (fun W hW => by go_simp; first | done | rfl) ?_; simp only [Act.put, List.setIfInBounds_toArray, List.set_cons_zero, List.set_cons_succ])
      clear lx ly l0 l1 l2 r0 r1 r2
      refine ord_sole rfl (by rfl) (fun K1 hK1 => ?_)
      go_simp
      refine (CI.out _ (Ext.refl _)).mono ?_
      rintro e v1 ⟨rfl, hb1⟩
      refine hK1 _ _ hb1 ?_
      clear hK1 K1
      have B1 := Lib.hid (Ext.of_drew hb1)
      clear hb1 CI
      cases hsame : sameT p q
      · have F : Hid (sameT x y = false) := by rw [ST.out, hsame]; rfl
        have BB := Lib.hid (Below.step HX.out.below B1.out)
        clear hsame ST HX HY
        repeat (refine ord_take _ rfl (by rfl) (fun W hW => by go_simp; first | done | rfl) ?_; simp only [Act.put, List.setIfInBounds_toArray, List.set_cons_zero, List.set_cons_succ])
        refine ord_end ?_
        go_wp2_with fail
        go_ret
        exact ⟨ret_bool F.out.symm, BB.out⟩
      · have N : Hid (sameT x y = sameAll (x.kids.drop (k + 1)) (y.kids.drop (k + 1))) := by rw [ST.out, hsame]; simp [Hid]
        clear hsame ST
        have HX2 := Lib.hid (HX.out.go B1.out)
        have HY2 := Lib.hid (HY.out.go B1.out)
        clear HX HY B1
        repeat (refine ord_take _ rfl (by rfl) (fun W hW => by go_simp; first | done | rfl) ?_; simp only [Act.put, List.setIfInBounds_toArray, List.set_cons_zero, List.set_cons_succ])
        refine ord_end ?_
        go_wp2_with fail
        go_roundw
        case rel => exact ⟨k + 1, by omega, by go_num, N.out, HX2.out, HY2.out⟩
        case measure => simp [intOf]; omega
    · have F : Hid (sameT x y = true) := by rw [HS.out, same_end (by rw [HM.out]; omega)]; exact Lib.hid rfl
      clear HS
      go_wp2_with fail
      go_ret
      exact ⟨ret_bool F.out.symm, HX.out.below⟩
end Go.Proofs.YtlmndmfebgaidaaGreatDoor
namespace Go.Proofs.YtlmndmfebgaidaaGreatDoor
open Go.RowKit
def B56 : Int := 72057594037927936
def numZ : Int → List Int → Int × Bool
  | n, [] => (n, true)
  | n, x :: xs => if B56 ≤ n then (0, false) else numZ (n * 256 + x) xs
theorem numZ_drop {zs : List Int} {k : Nat} (s : Int) (h : k < zs.length) : numZ s (zs.drop k) = if B56 ≤ s then (0, false) else numZ (s * 256 + zs[k]?.getD 0) (zs.drop (k + 1)) := by
  rw [List.drop_eq_getElem_cons h, numZ]
  simp [List.getElem?_eq_getElem h]
theorem num_step {zs : List Int} {k : Nat} {s x : Int} (h : k < zs.length) (hx : x = zs[k]?.getD 0) (he : numZ s (zs.drop k) = numZ 0 zs) :
    (B56 ≤ s → numZ 0 zs = (0, false)) ∧ (s < B56 → numZ (s * 256 + x) (zs.drop (k + 1)) = numZ 0 zs) := by
  rw [numZ_drop s h, ← hx] at he
  refine ⟨fun hs => ?_, fun hs => ?_⟩
  · rw [← he, if_pos hs]
  · rw [if_neg (by omega)] at he
    exact he
theorem num_end {zs : List Int} {k : Nat} {s : Int} (h : zs.length ≤ k) (he : numZ s (zs.drop k) = numZ 0 zs) : numZ 0 zs = (s, true) := by
  rw [← he, List.drop_of_length_le h, numZ]
theorem top_set {s : Int} (h : (s / 72057594037927936 != 0) = true) (h0 : 0 ≤ s) : B56 ≤ s := by
  simp at h
  unfold B56
  omega
theorem top_clear {s : Int} (h : (s / 72057594037927936 != 0) = false) : s < B56 := by
  simp at h
  unfold B56
  omega
theorem or8 {s x : Int} (h0 : 0 ≤ s) (h : s < B56) (x0 : 0 ≤ x) (x1 : x ≤ 255) : bits .or .u64 (IntKind.u64.wrap (s * 256)) x = s * 256 + x := by
  unfold B56 at h
  have hw : ∀ n : Int, 0 ≤ n → n < 2 ^ 64 → IntKind.u64.wrap n = n := by
    intro n h0 h1
    rw [IntKind.wrap_u64]
    omega
  rw [hw _ (by omega) (by omega)]
  exact bits_join .u64 64 (by decide) hw 8 _ _ (by omega) (by omega) (by omega) x0 (by omega) (by omega)
theorem ret_num {zs : List Int} {n : Int} {b : Bool} (h : numZ 0 zs = (n, b)) : Ending.returned (.tuple #[.int .u64 n, .bool b]) = .returned (.tuple #[.int .u64 (numZ 0 zs).1, .bool (numZ 0 zs).2]) := by rw [h]
set_option maxHeartbeats 400000 in
theorem num_any (a : Option Addr) (n ca : Nat) (zs : List Int) (w : World) (hx : Row w a n zs) (hn : n ≤ 1000000) :
    Calls Tryz.prog 119 #[.slice a n ca] w fun e w' => e = .returned (.tuple #[.int .u64 (numZ 0 zs).1, .bool (numZ 0 zs).2]) ∧ w' = w := by
  have HX := Lib.hid hx
  clear hx
  go_enter Tryz.func119, Tryz.ntmps119
  go_wp2
  go_loop [4, 8] (fun t i => ∃ k : Nat, ∃ s : Int, k ≤ n ∧ 0 ≤ s ∧ s ≤ 18446744073709551615 ∧ i = .int .i64 k ∧ t = .int .u64 s ∧ numZ s (zs.drop k) = numZ 0 zs) (fun _ i => n - (intOf i).toNat)
  case atStart => exact ⟨0, 0, Nat.zero_le _, by omega, by omega, rfl, rfl, rfl⟩
  case round =>
    obtain ⟨k, s, hk, hs0, hs1, rfl, rfl, he⟩ := hrel
    have HE := Lib.hid he
    clear he
    by_cases hlt : k < n
    · obtain ⟨b1, o1, rfl, hb1, hc1⟩ := HX.out.2.2 (by omega)
      have c1 := hc1 k hlt
      clear hc1
      have bx := HX.out.byte k
      have ST := Lib.hid (num_step (by rw [HX.out.1]; exact hlt) rfl HE.out)
      generalize zs[k]?.getD 0 = x at c1 bx ST
      go_wp2
      · go_ret2
        exact ⟨ret_num (ST.out.1 (top_set (by assumption) hs0)), rfl⟩
      · have ht : s < B56 := top_clear (by assumption)
        go_round
        case rel => exact ⟨k + 1, _, by omega, by omega, by unfold B56 at ht; omega, by go_num, by rw [or8 hs0 ht bx.1 bx.2], ST.out.2 ht⟩
        case measure => simp [intOf]; omega
    · go_wp2
      go_ret2
      exact ⟨ret_num (num_end (by rw [HX.out.1]; omega) HE.out), rfl⟩
set_option maxHeartbeats 400000 in
theorem rnum_any (a : Option Addr) (n ca : Nat) (zs : List Int) (w : World) (hx : Row w a n zs) (hn : n ≤ 1000000) :
    Calls Tryz.prog 64 #[.slice a n ca] w fun e w' => e = .returned (.tuple #[.int .u64 (numZ 0 zs).1, .bool (numZ 0 zs).2]) ∧ w' = w := by
  have HX := Lib.hid hx
  clear hx
  go_enter Tryz.func64, Tryz.ntmps64
  go_wp2
  go_loop [4, 5] (fun t i => ∃ k : Nat, ∃ s : Int, k ≤ n ∧ 0 ≤ s ∧ s ≤ 18446744073709551615 ∧ i = .int .i64 k ∧ t = .int .u64 s ∧ numZ s (zs.drop k) = numZ 0 zs) (fun _ i => n - (intOf i).toNat)
  case atStart => exact ⟨0, 0, Nat.zero_le _, by omega, by omega, rfl, rfl, rfl⟩
  case round =>
    obtain ⟨k, s, hk, hs0, hs1, rfl, rfl, he⟩ := hrel
    have HE := Lib.hid he
    clear he
    by_cases hlt : k < n
    · obtain ⟨b1, o1, rfl, hb1, hc1⟩ := HX.out.2.2 (by omega)
      have c1 := hc1 k hlt
      clear hc1
      have bx := HX.out.byte k
      have ST := Lib.hid (num_step (by rw [HX.out.1]; exact hlt) rfl HE.out)
      generalize zs[k]?.getD 0 = x at c1 bx ST
      go_wp2
      · go_ret2
        exact ⟨ret_num (ST.out.1 (by unfold B56; assumption)), rfl⟩
      · have ht : s < B56 := by unfold B56; assumption
        go_round
        case rel => exact ⟨k + 1, _, by omega, by omega, by unfold B56 at ht; omega, by go_num, rfl, ST.out.2 ht⟩
        case measure => simp [intOf]; omega
    · go_wp2
      go_ret2
      exact ⟨ret_num (num_end (by rw [HX.out.1]; omega) HE.out), rfl⟩
end Go.Proofs.YtlmndmfebgaidaaGreatDoor
namespace Go.Proofs.YtlmndmfebgaidaaGreatDoor
open Go.RowKit
def beZ : Nat → Int → List Int
  | 0, _ => []
  | k + 1, n => n / 256 ^ k % 256 :: beZ k n
theorem beZ_length (k : Nat) (n : Int) : (beZ k n).length = k := by
  induction k with
  | zero => rfl
  | succ k ih => simp [beZ, ih]
theorem beZ_byte (k : Nat) (n : Int) : ∀ x ∈ beZ k n, 0 ≤ x ∧ x ≤ 255 := by
  induction k with
  | zero => simp [beZ]
  | succ k ih =>
    intro x hx
    simp only [beZ, List.mem_cons] at hx
    rcases hx with rfl | hx
    · omega
    · exact ih x hx
def layZ (m k : Nat) (n : Int) : List Int := List.replicate (m - k) 0 ++ beZ k n
theorem layZ_length {m k : Nat} (n : Int) (h : k ≤ m) : (layZ m k n).length = m := by
  simp [layZ, beZ_length]; omega
theorem layZ_set {m k : Nat} {n : Int} (h : k < m) : (layZ m k n).set (m - 1 - k) (n / 256 ^ k % 256) = layZ m (k + 1) n := by
  unfold layZ
  have e1 : m - k = (m - 1 - k) + 1 := by omega
  have e2 : m - (k + 1) = m - 1 - k := by omega
  rw [e1, e2, List.replicate_succ', List.append_assoc, List.set_append_right _ _ (by simp)]
  simp [beZ]
theorem lay_vals {m k : Nat} {n u : Int} (h : k < m) (hu : u = n / 256 ^ k % 256) :
    ((layZ m k n).map (Value.int .u8)).set (m - 1 - k) (.int .u8 u) = (layZ m (k + 1) n).map (Value.int .u8) := by
  rw [← layZ_set h, List.map_set, hu]
theorem div_step (n : Int) (k : Nat) : n / 256 ^ k / 256 = n / 256 ^ (k + 1) := by
  rw [Int.ediv_ediv_of_nonneg (Int.le_of_lt (Int.pow_pos (by decide))), Int.pow_succ]
theorem Tryz.info5 : (Tryz.prog.info? 5).map (fun i => (i.zero, i.size, i.bytes)) = some (some (.int .u8 0), 1, 1) := by kernel_rfl
def bytesZ (n many : Int) : List Int × Bool :=
  if 0 ≤ many ∧ many ≤ 64 then (if n / 256 ^ many.toNat = 0 then (beZ many.toNat n, true) else ([], false)) else ([], false)
def GivesBytes (w : World) (zs : List Int) (ok : Bool) (e : Ending) (w' : World) : Prop :=
  ∃ a c, e = .returned (.tuple #[.slice a zs.length c, .bool ok]) ∧ Row w' a zs.length zs ∧ Below w.heap.size w w' ∧ zs.length ≤ c
def Laid (w : World) (m k : Nat) (n s : Int) (wr : World) : Prop :=
  wr.ownsRow w.heap.size 5 1 (.slice (some ⟨w.heap.size, 0, none⟩) m m) m ((layZ m k n).map (Value.int .u8)) ∧ Below w.heap.size w wr ∧ s = n / 256 ^ k
theorem bytes_start {w w1 : World} {m : Nat} {n : Int} (hown : w1.ownsRow w.heap.size 5 1 (.slice (some ⟨w.heap.size, 0, none⟩) m m) m (madeCells #[Value.int .u8 0] m).toList) (hg : w.grownBy w1 none) :
    Laid w m 0 n n w1 := by
  refine ⟨?_, (Below.refl _ _).grown hg (Nat.le_refl _) (fun k h => by cases h), by simp⟩
  have e : (madeCells #[Value.int .u8 0] m).toList = (layZ m 0 n).map (Value.int .u8) := by
    rw [toList_madeCells_one]
    simp [layZ, beZ]
  rw [← e]
  exact hown
theorem Laid.step {w wr : World} {m k : Nat} {n s : Int} (h : Laid w m k n s wr) (hk : k < m) :
    (∃ v, wr.cell? ⟨w.heap.size, m - 1 - k, none⟩ = some v) ∧ wr.frozen? ⟨w.heap.size, m - 1 - k, none⟩ = false ∧
    ∀ u, u = s % 256 → Laid w m (k + 1) n (s / 256) (wr.setCell ⟨w.heap.size, m - 1 - k, none⟩ (.int .u8 u)) := by
  obtain ⟨ho, hb, rfl⟩ := h
  have hl := layZ_length (m := m) (k := k) n (by omega)
  refine ⟨⟨_, (ho.cellAt (m - 1 - k) (by omega)).trans (List.getElem?_eq_getElem (by simp [hl]; omega))⟩, ho.frozenAt _, fun u hu => ⟨?_, hb.setCell (Nat.le_refl _) _, div_step n k⟩⟩
  have := (ho.stored (m - 1 - k) (.int .u8 u)).1
  rw [lay_vals hk hu] at this
  exact this
theorem bytesZ_in (n : Int) (m : Nat) (hm : m ≤ 64) : bytesZ n m = if n / 256 ^ m = 0 then (beZ m n, true) else ([], false) := by
  rw [bytesZ, if_pos (by omega), Int.toNat_natCast]
theorem bytes_end {w wr : World} {m k : Nat} {n : Int} (hm : m ≤ 64) (hk : k = m) (h : Laid w m k n 0 wr) :
    GivesBytes w (bytesZ n m).1 (bytesZ n m).2 (.returned (.tuple #[.slice (some ⟨w.heap.size, 0, none⟩) m m, .bool true])) wr := by
  subst hk
  obtain ⟨ho, hb, hs⟩ := h
  rw [bytesZ_in n k hm, if_pos hs.symm]
  have e : layZ k k n = beZ k n := by simp [layZ]
  rw [e] at ho
  refine ⟨some ⟨w.heap.size, 0, none⟩, k, ?_, ?_, hb, ?_⟩
  · rw [beZ_length]
  · rw [beZ_length]
    exact Row.of_own ho (beZ_byte k n)
  · rw [beZ_length]
    exact Nat.le_refl _
theorem bytes_none {w wr : World} {m k : Nat} {n s : Int} (hm : m ≤ 64) (hk : k = m) (hs : ¬ s = 0) (h : Laid w m k n s wr) :
    GivesBytes w (bytesZ n m).1 (bytesZ n m).2 (.returned (.tuple #[.slice none 0 0, .bool false])) wr := by
  subst hk
  obtain ⟨_, hb, rfl⟩ := h
  rw [bytesZ_in n k hm, if_neg hs]
  exact ⟨none, 0, rfl, Row.nil _ _, hb, Nat.le_refl _⟩
set_option maxHeartbeats 400000 in
theorem bytes_in (n : Int) (m : Nat) (w : World) (h0 : 0 ≤ n) (h1 : n ≤ 18446744073709551615) (hm : m ≤ 64) :
    Calls Tryz.prog 108 #[.int .u64 n, .int .i64 (m : Int)] w (GivesBytes w (bytesZ n m).1 (bytesZ n m).2) := by
  obtain ⟨i0, hi, hz0, hz1, hz2⟩ := info_parts Tryz.info5
  have d1 : decide ((m : Int) < 0) = false := by simp
  have d2 : decide (64 < (m : Int)) = false := by simp; omega
  go_enter Tryz.func108, Tryz.ntmps108
  go_wp2_with (at_make; refine wpList_make_full _ rfl _ _ 26 rfl w.heap.size 5 i0 (.int .u8 0) 1 Tryz.underlying26 hi hz0 hz1 _ _ _ _ m rfl rfl rfl rfl ?b1 ?b2 ?b3 ?_)
  case b1 => rw [hz2]; omega
  case b2 => unfold maxLen; omega
  case b3 => exact Nat.le_refl _
  intro w1 hown0 hgrow
  have HB := Lib.hid (bytes_start (n := n) hown0 hgrow)
  clear hown0 hgrow hz2 hz1 hz0 hi
  go_wp2
  go_loopw [0, 17] (fun t i wr => ∃ k : Nat, ∃ s : Int, k ≤ m ∧ 0 ≤ s ∧ s ≤ 18446744073709551615 ∧ i = .int .i64 k ∧ t = .int .u64 s ∧ Laid w m k n s wr) (fun _ i _ => m - (intOf i).toNat)
  case atStart => exact ⟨0, n, Nat.zero_le _, h0, h1, rfl, rfl, by simpa using HB.out⟩
  case round =>
    obtain ⟨k, s, hk, hs0, hs1, rfl, rfl, hl⟩ := hrel
    by_cases hlt : k < m
    · obtain ⟨⟨v, hc⟩, hf, hnext⟩ := hl.step hlt
      have HN := Lib.hid hnext
      clear hl hnext
      go_wp2
      go_roundw
      case rel => exact ⟨k + 1, _, by omega, by omega, by omega, by go_num, rfl, HN.out _ (by omega)⟩
      case measure => simp [intOf]; omega
    · have HL := Lib.hid hl
      clear hl
      by_cases hs : s = 0
      · subst hs
        go_wp2
        go_ret2
        exact bytes_end hm (by omega) HL.out
      · have hs' : (s != 0) = true := by simpa using hs
        go_wp2
        go_ret2
        exact bytes_none hm (by omega) hs HL.out
set_option maxHeartbeats 400000 in
theorem rbytes_in (n : Int) (m : Nat) (w : World) (h0 : 0 ≤ n) (h1 : n ≤ 18446744073709551615) (hm : m ≤ 64) :
    Calls Tryz.prog 87 #[.int .u64 n, .int .i64 (m : Int)] w (GivesBytes w (bytesZ n m).1 (bytesZ n m).2) := by
  obtain ⟨i0, hi, hz0, hz1, hz2⟩ := info_parts Tryz.info5
  have d1 : decide ((m : Int) < 0) = false := by simp
  have d2 : decide (64 < (m : Int)) = false := by simp; omega
  go_enter Tryz.func87, Tryz.ntmps87
  go_wp2_with (at_make; refine wpList_make_full _ rfl _ _ 26 rfl w.heap.size 5 i0 (.int .u8 0) 1 Tryz.underlying26 hi hz0 hz1 _ _ _ _ m rfl rfl rfl rfl ?b1 ?b2 ?b3 ?_)
  case b1 => rw [hz2]; omega
  case b2 => unfold maxLen; omega
  case b3 => exact Nat.le_refl _
  intro w1 hown0 hgrow
  have HB := Lib.hid (bytes_start (n := n) hown0 hgrow)
  clear hown0 hgrow hz2 hz1 hz0 hi
  go_wp2
  go_loopw [0, 7] (fun t i wr => ∃ k : Nat, ∃ s : Int, k ≤ m ∧ 0 ≤ s ∧ s ≤ 18446744073709551615 ∧ i = .int .i64 ((m : Int) - 1 - k) ∧ t = .int .u64 s ∧ Laid w m k n s wr) (fun _ i _ => (intOf i + 1).toNat)
  case atStart => exact ⟨0, n, Nat.zero_le _, h0, h1, by simp, rfl, by simpa using HB.out⟩
  case round =>
    obtain ⟨k, s, hk, hs0, hs1, rfl, rfl, hl⟩ := hrel
    by_cases hlt : k < m
    · obtain ⟨⟨v, hc⟩, hf, hnext⟩ := hl.step hlt
      have HN := Lib.hid hnext
      clear hl hnext
      have t1 : (0 : Int) ≤ (m : Int) - 1 - k := by omega
      go_wp2
      go_roundw
      case rel => exact ⟨k + 1, _, by omega, by omega, by omega, by go_num, rfl, HN.out _ (by omega)⟩
      case measure => simp [intOf]; omega
    · have HL := Lib.hid hl
      clear hl
      have t1 : ¬ (0 : Int) ≤ (m : Int) - 1 - k := by omega
      by_cases hs : s = 0
      · subst hs
        go_wp2
        go_ret2
        exact bytes_end hm (by omega) HL.out
      · have hs' : 0 < s := by omega
        go_wp2
        go_ret2
        exact bytes_none hm (by omega) hs HL.out
theorem bytesZ_out {n many : Int} (h : many < 0 ∨ 64 < many) : bytesZ n many = ([], false) := by
  rw [bytesZ, if_neg (by omega)]
set_option maxHeartbeats 400000 in
theorem bytes_out (n many : Int) (w : World) (h : many < 0 ∨ 64 < many) :
    Calls Tryz.prog 108 #[.int .u64 n, .int .i64 many] w (GivesBytes w (bytesZ n many).1 (bytesZ n many).2) := by
  rw [bytesZ_out h]
  rcases h with h | h
  · go_enter Tryz.func108, Tryz.ntmps108
    go_wp2
    go_ret2
    exact ⟨none, 0, rfl, Row.nil _ _, Below.refl _ _, Nat.le_refl _⟩
  · have h' : ¬ many < 0 := by omega
    go_enter Tryz.func108, Tryz.ntmps108
    go_wp2
    go_ret2
    exact ⟨none, 0, rfl, Row.nil _ _, Below.refl _ _, Nat.le_refl _⟩
set_option maxHeartbeats 400000 in
theorem rbytes_out (n many : Int) (w : World) (h : many < 0 ∨ 64 < many) :
    Calls Tryz.prog 87 #[.int .u64 n, .int .i64 many] w (GivesBytes w (bytesZ n many).1 (bytesZ n many).2) := by
  rw [bytesZ_out h]
  rcases h with h | h
  · go_enter Tryz.func87, Tryz.ntmps87
    go_wp2
    go_ret2
    exact ⟨none, 0, rfl, Row.nil _ _, Below.refl _ _, Nat.le_refl _⟩
  · have h' : ¬ many < 0 := by omega
    go_enter Tryz.func87, Tryz.ntmps87
    go_wp2
    go_ret2
    exact ⟨none, 0, rfl, Row.nil _ _, Below.refl _ _, Nat.le_refl _⟩
theorem bytes_any (n many : Int) (w : World) (h0 : 0 ≤ n) (h1 : n ≤ 18446744073709551615) :
    Calls Tryz.prog 108 #[.int .u64 n, .int .i64 many] w (GivesBytes w (bytesZ n many).1 (bytesZ n many).2) := by
  by_cases h : many < 0 ∨ 64 < many
  · exact bytes_out n many w h
  · obtain ⟨m, rfl⟩ := Int.eq_ofNat_of_zero_le (show 0 ≤ many by omega)
    exact bytes_in n m w h0 h1 (by omega)
theorem rbytes_any (n many : Int) (w : World) (h0 : 0 ≤ n) (h1 : n ≤ 18446744073709551615) :
    Calls Tryz.prog 87 #[.int .u64 n, .int .i64 many] w (GivesBytes w (bytesZ n many).1 (bytesZ n many).2) := by
  by_cases h : many < 0 ∨ 64 < many
  · exact rbytes_out n many w h
  · obtain ⟨m, rfl⟩ := Int.eq_ofNat_of_zero_le (show 0 ≤ many by omega)
    exact rbytes_in n m w h0 h1 (by omega)
end Go.Proofs.YtlmndmfebgaidaaGreatDoor
namespace Go.Proofs.YtlmndmfebgaidaaGreatDoor
open Go.RowKit
def GivesM (w : World) (m : Nat) (zs : List Int) (e : Ending) (w' : World) : Prop :=
  ∃ a c, e = .returned (.tuple #[.slice a m c, .bool true]) ∧ Row w' a m zs ∧ Below w.heap.size w w' ∧ m ≤ c
def GivesNone (w : World) (e : Ending) (w' : World) : Prop :=
  ∃ a c, e = .returned (.tuple #[.slice a 0 c, .bool false]) ∧ Row w' a 0 [] ∧ Below w.heap.size w w'
theorem gives_ok {w w' : World} {n : Int} {m : Nat} {e : Ending} (hm : m ≤ 64) (hz : n / 256 ^ m = 0) (h : GivesBytes w (bytesZ n m).1 (bytesZ n m).2 e w') : GivesM w m (beZ m n) e w' := by
  rw [bytesZ_in n m hm, if_pos hz] at h
  obtain ⟨a, c, he, hr, hb, hc⟩ := h
  rw [beZ_length] at he hr hc
  exact ⟨a, c, he, hr, hb, hc⟩
theorem gives_no {w w' : World} {n : Int} {m : Nat} {e : Ending} (hm : m ≤ 64) (hz : ¬ n / 256 ^ m = 0) (h : GivesBytes w (bytesZ n m).1 (bytesZ n m).2 e w') : GivesNone w e w' := by
  rw [bytesZ_in n m hm, if_neg hz] at h
  obtain ⟨a, c, he, hr, hb, _⟩ := h
  exact ⟨a, c, he, hr, hb⟩
theorem bytes_ok (n many : Int) (m : Nat) (w : World) (hmany : many = m) (h0 : 0 ≤ n) (h1 : n ≤ 18446744073709551615) (hm : m ≤ 64) (hz : n / 256 ^ m = 0) :
    Calls Tryz.prog 108 #[.int .u64 n, .int .i64 many] w (GivesM w m (beZ m n)) := by
  subst hmany
  exact (bytes_any n m w h0 h1).mono fun _ _ h => gives_ok hm hz h
theorem rbytes_ok (n many : Int) (m : Nat) (w : World) (hmany : many = m) (h0 : 0 ≤ n) (h1 : n ≤ 18446744073709551615) (hm : m ≤ 64) (hz : n / 256 ^ m = 0) :
    Calls Tryz.prog 87 #[.int .u64 n, .int .i64 many] w (GivesM w m (beZ m n)) := by
  subst hmany
  exact (rbytes_any n m w h0 h1).mono fun _ _ h => gives_ok hm hz h
theorem rbytes_no (n many : Int) (m : Nat) (w : World) (hmany : many = m) (h0 : 0 ≤ n) (h1 : n ≤ 18446744073709551615) (hm : m ≤ 64) (hz : ¬ n / 256 ^ m = 0) :
    Calls Tryz.prog 87 #[.int .u64 n, .int .i64 many] w (GivesNone w) := by
  subst hmany
  exact (rbytes_any n m w h0 h1).mono fun _ _ h => gives_no hm hz h
def IsLeast (n : Int) (m : Nat) : Prop := 1 ≤ m ∧ m ≤ 8 ∧ n / 256 ^ m = 0 ∧ (m = 1 ∨ ¬ n / 256 ^ (m - 1) = 0)
theorem div_mono {n : Int} {i j : Nat} (h0 : 0 ≤ n) (hij : i ≤ j) (h : n / 256 ^ i = 0) : n / 256 ^ j = 0 := by
  have hi : (0 : Int) < 256 ^ i := Int.pow_pos (by decide)
  have hlt : n < 256 ^ i := by
    rcases Int.lt_or_le n (256 ^ i) with hl | hl
    · exact hl
    · have := (Int.le_ediv_iff_mul_le hi (a := 1) (b := n)).2 (by omega)
      omega
  have hle : (256 : Int) ^ i ≤ 256 ^ j := by
    have := Nat.pow_le_pow_right (n := 256) (by decide) hij
    rw [show (256 : Int) = ((256 : Nat) : Int) from rfl, ← Int.natCast_pow, ← Int.natCast_pow]
    exact Int.ofNat_le.2 this
  exact Int.ediv_eq_zero_of_lt h0 (by omega)
theorem div_eight {n : Int} {j : Nat} (h0 : 0 ≤ n) (h1 : n ≤ 18446744073709551615) (hj : 8 ≤ j) : n / 256 ^ j = 0 :=
  div_mono h0 hj (Int.ediv_eq_zero_of_lt h0 (by omega))
theorem IsLeast.eq {n : Int} {m k : Nat} (h0 : 0 ≤ n) (h : IsLeast n m) (h' : IsLeast n k) : m = k := by
  obtain ⟨a1, _, a3, a4⟩ := h
  obtain ⟨b1, _, b3, b4⟩ := h'
  rcases Nat.lt_trichotomy m k with hl | hl | hl
  · rcases b4 with b4 | b4
    · omega
    · exact absurd (div_mono h0 (show m ≤ k - 1 by omega) a3) b4
  · exact hl
  · rcases a4 with a4 | a4
    · omega
    · exact absurd (div_mono h0 (show k ≤ m - 1 by omega) b3) a4
def GivesLeast (w : World) (n : Int) (e : Ending) (w' : World) : Prop :=
  ∃ m a c, IsLeast n m ∧ e = .returned (.slice a m c) ∧ Row w' a m (beZ m n) ∧ Below w.heap.size w w' ∧ m ≤ c
set_option maxHeartbeats 400000 in
theorem least_any (n : Int) (w : World) (h0 : 0 ≤ n) (h1 : n ≤ 18446744073709551615) :
    Calls Tryz.prog 85 #[.int .u64 n] w (GivesLeast w n) := by
  go_enter Tryz.func85, Tryz.ntmps85
  go_wp2
  go_loop [3, 4] (fun i t => ∃ k : Nat, ∃ s : Int, k ≤ 7 ∧ 0 ≤ s ∧ s ≤ 18446744073709551615 ∧ i = .int .i64 ((k : Int) + 1) ∧ t = .int .u64 s ∧ s = n / 256 ^ (k + 1) ∧ (k = 0 ∨ ¬ n / 256 ^ k = 0)) (fun _ t => (intOf t).toNat)
  case atStart => exact ⟨0, n / 256, by omega, by omega, by omega, rfl, rfl, by simp, Or.inl rfl⟩
  case round =>
    obtain ⟨k, s, hk, hs0, hs1, rfl, rfl, hs, hl⟩ := hrel
    have HS := Lib.hid hs
    have HL := Lib.hid hl
    clear hs hl
    by_cases hz : s = 0
    · subst hz
      have HLe : Hid (IsLeast n (k + 1)) := ⟨by omega, by omega, HS.out.symm, by rcases HL.out with h | h; exact Or.inl (by omega); exact Or.inr h⟩
      go_wp2_with (go_at_call 108; refine (bytes_ok n _ (k + 1) _ (by omega) h0 h1 (by omega) HS.out.symm).mono ?_; rintro e w' ⟨a, c, rfl, hrow, hbel, hcap⟩)
      go_ret
      exact ⟨k + 1, a, c, HLe.out, rfl, hrow, hbel, hcap⟩
    · have hz' : (s != 0) = true := by simpa using hz
      have hk7 : k + 1 ≤ 7 := by
        rcases Nat.lt_or_ge (k + 1) 8 with h | h
        · omega
        · exact absurd (HS.out.trans (div_eight h0 h1 h)) hz
      go_wp2
      go_round
      case rel => exact ⟨k + 1, s / 256, hk7, by omega, by omega, by go_num, rfl, by rw [HS.out]; exact div_step n (k + 1), Or.inr (by rw [← HS.out]; exact hz)⟩
      case measure => simp [intOf]; omega
set_option maxHeartbeats 400000 in
theorem rleast_any (n : Int) (w : World) (h0 : 0 ≤ n) (h1 : n ≤ 18446744073709551615) :
    Calls Tryz.prog 56 #[.int .u64 n] w (GivesLeast w n) := by
  go_enter Tryz.func56, Tryz.ntmps56
  go_wp2
  go_loopw [3] (fun i wr => ∃ k : Nat, k ≤ 7 ∧ i = .int .i64 ((k : Int) + 1) ∧ Below w.heap.size w wr ∧ (k = 0 ∨ ¬ n / 256 ^ k = 0)) (fun i _ => 8 - (intOf i).toNat)
  case atStart => exact ⟨0, by omega, rfl, Below.refl _ _, Or.inl rfl⟩
  case round =>
    obtain ⟨k, hk, rfl, hb, hl⟩ := hrel
    have HL := Lib.hid hl
    clear hl
    by_cases h7 : k = 7
    · subst h7
      have hz := div_eight h0 h1 (Nat.le_refl 8)
      have HLe : Hid (IsLeast n 8) := ⟨by omega, by omega, hz, by rcases HL.out with h | h; omega; exact Or.inr h⟩
      have HZ := Lib.hid hz
      clear hz
      go_wp2_with (go_at_call 87; refine (rbytes_ok n _ 8 _ (by omega) h0 h1 (by omega) HZ.out).mono ?_; rintro e w' ⟨a, c, rfl, hrow, hbel, hcap⟩)
      go_ret
      exact ⟨8, a, c, HLe.out, rfl, hrow, hb.trans (hbel.mono hb.size), hcap⟩
    · by_cases hz : n / 256 ^ (k + 1) = 0
      · have HLe : Hid (IsLeast n (k + 1)) := ⟨by omega, by omega, hz, by rcases HL.out with h | h; exact Or.inl (by omega); exact Or.inr h⟩
        have HZ := Lib.hid hz
        clear hz
        go_wp2_with (go_at_call 87; refine (rbytes_ok n _ (k + 1) _ (by omega) h0 h1 (by omega) HZ.out).mono ?_; rintro e w' ⟨a, c, rfl, hrow, hbel, hcap⟩)
        go_ret
        exact ⟨k + 1, a, c, HLe.out, rfl, hrow, hb.trans (hbel.mono hb.size), hcap⟩
      · have HZ := Lib.hid hz
        clear hz
        go_wp2_with (go_at_call 87; refine (rbytes_no n _ (k + 1) _ (by omega) h0 h1 (by omega) HZ.out).mono ?_; rintro e w' ⟨a, c, rfl, hrow, hbel⟩)
        go_roundw
        case rel => exact ⟨k + 1, by omega, by go_num, hb.trans (hbel.mono hb.size), Or.inr HZ.out⟩
        case measure => simp [intOf]; omega
end Go.Proofs.YtlmndmfebgaidaaGreatDoor
namespace Go.Proofs.YtlmndmfebgaidaaGreatDoor
open Go.RowKit
set_option linter.unusedVariables false
theorem Blk.six {w : World} {g : Nat} {t : TypeId} {a b c : Value} (h : Blk w g t #[a, b, c]) : w.cell? ⟨g, 0, none⟩ = some a ∧ w.cell? ⟨g, 1, none⟩ = some b ∧ w.cell? ⟨g, 2, none⟩ = some c ∧ w.frozen? ⟨g, 0, none⟩ = false ∧ w.frozen? ⟨g, 1, none⟩ = false ∧ w.frozen? ⟨g, 2, none⟩ = false :=
  ⟨h.cell 0, h.cell 1, h.cell 2, h.free 0, h.free 1, h.free 2⟩
theorem Tryz.sizeNode3 : (Tryz.prog.info? 29).map (·.size) = some 3 := by kernel_rfl
def zeroT : T := .node 0 [] []
def GivesNode (t : T) (w : World) (e : Ending) (w' : World) : Prop :=
  ∃ (A : Option Addr) (n c : Nat) (K : Option Addr) (m d : Nat), e = .returned (.agg #[.int .i64 t.tag, .slice A n c, .slice K m d]) ∧ t.InP (w.heap.size ≤ ·) w' (.agg #[.int .i64 t.tag, .slice A n c, .slice K m d]) ∧ Below w.heap.size w w'
theorem leaf_inP {P : Nat → Prop} {w : World} {z : Int} {zs : List Int} {a : Option Addr} {c : Nat} (hz : (Lit.int .i64 z).wf = true) (hr : Row w a zs.length zs) (hn : zs.length ≤ 1000000) (hnil : a = none → c = 0) (hp : 0 < zs.length → ∃ b off, a = some ⟨b, off, none⟩ ∧ P b) : (T.node z zs []).InP P w (.agg #[.int .i64 z, .slice a zs.length c, .slice none 0 0]) := by
  unfold T.InP
  exact ⟨a, zs.length, c, none, 0, 0, rfl, hz, hr, by unfold maxLen; omega, hnil, rfl, Nat.zero_le _, hp, fun h => absurd h (by omega)⟩
structure RB (w W : World) : Prop where
  box : Blk W w.heap.size 29 #[.int .i64 0, .slice none 0 0, .slice none 0 0]
  below : Below w.heap.size w W
theorem RB.start (w : World) : RB w (w.alloc (.cells #[.int .i64 0, .slice none 0 0, .slice none 0 0] 29)) := ⟨Blk.new _ _ _, (Below.refl _ _).alloc (Nat.le_refl _) _⟩
theorem RB.go {w W W' : World} (h : RB w W) (hb : Below W.heap.size W W') : RB w W' := ⟨h.box.below hb h.box.lt, Below.step h.below hb⟩
def boxed (w W : World) (a b c : Value) : World := ((W.setCell ⟨w.heap.size, 0, none⟩ a).setCell ⟨w.heap.size, 1, none⟩ b).setCell ⟨w.heap.size, 2, none⟩ c
theorem RB.boxed {w W : World} (h : RB w W) (a b c : Value) : Blk (boxed w W a b c) w.heap.size 29 #[a, b, c] ∧ Below w.heap.size w (boxed w W a b c) :=
  ⟨((h.box.set 0 a).set 1 b).set 2 c, ((h.below.setCell (Nat.le_refl _) _).setCell (Nat.le_refl _) _).setCell (Nat.le_refl _) _⟩
theorem boxed_row {w W : World} {a : Option Addr} {n : Nat} {zs : List Int} (h : Row W a n zs) (hne : 0 < n → ∃ b off, a = some ⟨b, off, none⟩ ∧ b ≠ w.heap.size) (x y z : Value) : Row (boxed w W x y z) a n zs := by
  refine ((h.set w.heap.size 0 x hne).set w.heap.size 1 y hne).set w.heap.size 2 z hne
theorem out_off {w W : World} {a : Option Addr} {n c : Nat} {L : List Int} (h : Out w W (.slice a n c) L) (hw : 0 < L.length) : ∃ b off, a = some ⟨b, off, none⟩ ∧ w.heap.size ≤ b := by
  obtain ⟨g, cap, e, hg⟩ := h.form hw
  injection e with e1 e2 e3
  exact ⟨g, 0, e1, hg⟩
theorem boxed_in {w W W0 : World} {t : T} {v : Value} (h : t.InP (W0.heap.size ≤ ·) W v) (hW : w.heap.size < W0.heap.size) (a b c : Value) : t.InP (w.heap.size ≤ ·) (boxed w W a b c) v :=
  T.InP.keep (fun x _ hp => ⟨by have hp' : W0.heap.size ≤ x := hp; show w.heap.size ≤ x; omega, by
    have hp' : W0.heap.size ≤ x := hp
    have hx : x ≠ w.heap.size := by omega
    unfold boxed
    rw [heap_setCell_other _ ⟨w.heap.size, 2, none⟩ x c hx, heap_setCell_other _ ⟨w.heap.size, 1, none⟩ x b hx, heap_setCell_other _ ⟨w.heap.size, 0, none⟩ x a hx]⟩) (by simp [boxed]) _ h
theorem gives_leaf {w W W0 : World} {tmps : Array Value} {fn : Func} {p : Tmp} {z : Int} {zs : List Int} {a : Option Addr} {c : Nat} (hf : fn.results = #[.cell p 29]) (hp : tmps.getD p undef = .pointer (some ⟨w.heap.size, 0, none⟩)) (hrb : RB w W) (ho : Out W0 W (.slice a zs.length c) zs) (hW : w.heap.size < W0.heap.size) (hz : (Lit.int .i64 z).wf = true) (hb : ∀ x ∈ zs, 0 ≤ x ∧ x ≤ 255) (hn : zs.length ≤ 1000000) :
    bodyPost Tryz.prog fn (GivesNode (.node z zs []) w) .ret { tmps := tmps, defers := [] } (boxed w W (.int .i64 z) (.slice a zs.length c) (.slice none 0 0)) := by
  obtain ⟨h1, h2⟩ := hrb.boxed (.int .i64 z) (.slice a zs.length c) (.slice none 0 0)
  refine bodyPost_ret (results_cell_row hf _ _ w.heap.size 29 #[.int .i64 z, .slice a zs.length c, .slice none 0 0] (0, 0) _ hp h1 Tryz.underlying29 rfl Tryz.sizeNode3) rfl ⟨a, zs.length, c, none, 0, 0, rfl, leaf_inP hz ?_ hn ho.nilc (fun h0 => by
    obtain ⟨b, off, e, hb⟩ := out_off ho h0
    exact ⟨b, off, e, by omega⟩), h2⟩
  obtain ⟨a', c', e, hr⟩ := ho.row hb
  injection e with e1 e2 e3
  subst e1
  exact boxed_row hr (fun h0 => by
    obtain ⟨b, off, e, hb⟩ := out_off ho h0
    exact ⟨b, off, e, by omega⟩) _ _ _
theorem gives_copy {w W W0 : World} {tmps : Array Value} {fn : Func} {p : Tmp} {t : T} {A : Option Addr} {n c : Nat} {K : Option Addr} {m d : Nat} (hf : fn.results = #[.cell p 29]) (hp : tmps.getD p undef = .pointer (some ⟨w.heap.size, 0, none⟩)) (hrb : RB w W) (hin : t.InP (W0.heap.size ≤ ·) W (.agg #[.int .i64 t.tag, .slice A n c, .slice K m d])) (hW : w.heap.size < W0.heap.size) :
    bodyPost Tryz.prog fn (GivesNode t w) .ret { tmps := tmps, defers := [] } (boxed w W (.int .i64 t.tag) (.slice A n c) (.slice K m d)) := by
  obtain ⟨h1, h2⟩ := hrb.boxed (.int .i64 t.tag) (.slice A n c) (.slice K m d)
  refine bodyPost_ret (results_cell_row hf _ _ w.heap.size 29 #[.int .i64 t.tag, .slice A n c, .slice K m d] (0, 0) _ hp h1 Tryz.underlying29 rfl Tryz.sizeNode3) rfl ⟨A, n, c, K, m, d, rfl, boxed_in hin hW _ _ _, h2⟩
def bigZ (zs : List Int) : List Int := if bareZ zs = [] ∨ 128 ≤ (bareZ zs)[(0 : Nat)]?.getD 0 then 0 :: bareZ zs else bareZ zs
def bigT (zs : List Int) : T := .node 2 (bigZ zs) []
theorem big_byte {zs : List Int} (h : ∀ x ∈ zs, 0 ≤ x ∧ x ≤ 255) : ∀ x ∈ bigZ zs, 0 ≤ x ∧ x ≤ 255 := by
  intro x hx
  unfold bigZ at hx
  split at hx
  · rcases List.mem_cons.1 hx with rfl | hx
    · omega
    · exact h x (bare_mem hx)
  · exact h x (bare_mem hx)
theorem big_le (zs : List Int) : (bigZ zs).length ≤ zs.length + 1 := by
  have := bare_le zs
  unfold bigZ
  split
  · rw [List.length_cons]; omega
  · omega
set_option maxHeartbeats 1000000 in
theorem rbig_any (a : Option Addr) (n ca : Nat) (zs : List Int) (w : World) (hr : Row w a n zs) (hnc : n ≤ ca) (hn : n ≤ 100000) (hnil : a = none → ca = 0) : Calls Tryz.prog 55 #[.slice a n ca] w (GivesNode (bigT zs) w) := by
  have hby := hr.2.1
  have hbb : ∀ x ∈ bareZ zs, 0 ≤ x ∧ x ≤ 255 := fun x hx => hby x (bare_mem hx)
  have hle := bare_le zs
  have hl := hr.1
  have S0 := Lib.hid (RB.start w)
  have CI := Lib.hid (rbare_any a n ca zs _ (hr.below S0.out.below) hnc hn hnil)
  have GB := Lib.hid (big_byte hby)
  have GL := Lib.hid (big_le zs)
  clear hr hnil hby
  go_enter Tryz.func55, Tryz.ntmps55
  go_wp2_with fail
  refine CI.out.mono ?_
  rintro e w2 ⟨V, rfl, ho⟩
  have S2 := Lib.hid (S0.out.go ho.2)
  obtain ⟨b2, c2, rfl, hr2⟩ := ho.row hbb
  have O2 := Lib.hid ho
  have R2 := Lib.hid hr2
  have N2 := Lib.hid ho.nilc
  have hW : w.heap.size < (w.alloc (.cells #[.int .i64 0, .slice none 0 0, .slice none 0 0] 29)).heap.size := by simp
  clear ho hr2 CI S0
  by_cases h0 : bareZ zs = []
  · have F : Hid (bigZ zs = [0] ++ bareZ zs) := if_pos (.inl h0)
    have L0 : Hid ((bareZ zs).length = 0) := by rw [h0]; exact Lib.hid rfl
    have t0 : (((bareZ zs).length : Int) == 0) = true := by rw [L0.out]; rfl
    have O3 := Lib.hid (out_one w2 0)
    have R3 := Lib.hid (R2.out.below ((Below.refl w2.heap.size w2).alloc (Nat.le_refl _) (.cells #[.int .u8 0] 5)))
    have S3 := Lib.hid (S2.out.go ((Below.refl w2.heap.size w2).alloc (Nat.le_refl _) (.cells #[.int .u8 0] 5)))
    have W2 : Hid (w.heap.size < w2.heap.size) := Nat.lt_of_lt_of_le hW O2.out.2.size
    clear h0 O2
    generalize bareZ zs = bz at *
    go_wp2_with (at_builtin; go_must (refine out_append (W0 := w2) (L := [0]) (zs := bz) rfl _ _ rfl rfl O3.out rfl R3.out N2.out (by simp; omega) ?_; intro V4 w4 ho4; have O4 := Lib.hid ho4; have S4 := Lib.hid (S2.out.go ho4.2); obtain ⟨p0, p1, p2, f0, f1, f2⟩ := S4.out.box.six; rw [← F.out] at ho4 O4; obtain ⟨b4, c4, rfl, hr4⟩ := ho4.row GB.out; clear ho4))
    exact gives_leaf rfl rfl S4.out O4.out W2.out rfl GB.out (by have := GL.out; omega)
  · have L0 : Hid (0 < (bareZ zs).length) := List.length_pos_iff.2 h0
    have t0 : (((bareZ zs).length : Int) == 0) = false := by simp; exact h0
    obtain ⟨b, off, rfl, hbl, hc⟩ := R2.out.2.2 L0.out
    have c0 := hc 0 L0.out
    rw [Nat.add_zero] at c0
    have z0 := R2.out.byte 0
    clear hc
    by_cases h8 : 128 ≤ (bareZ zs)[(0 : Nat)]?.getD 0
    · have F : Hid (bigZ zs = [0] ++ bareZ zs) := if_pos (.inr h8)
      have O3 := Lib.hid (out_one w2 0)
      have R3 := Lib.hid (R2.out.below ((Below.refl w2.heap.size w2).alloc (Nat.le_refl _) (.cells #[.int .u8 0] 5)))
      have W2 : Hid (w.heap.size < w2.heap.size) := Nat.lt_of_lt_of_le hW O2.out.2.size
      clear h0 O2
      generalize (bareZ zs)[(0 : Nat)]?.getD 0 = x0 at c0 z0 h8
      generalize bareZ zs = bz at *
      go_wp2_with (at_builtin; go_must (refine out_append (W0 := w2) (L := [0]) (zs := bz) rfl _ _ rfl rfl O3.out rfl R3.out N2.out (by simp; omega) ?_; intro V4 w4 ho4; have O4 := Lib.hid ho4; have S4 := Lib.hid (S2.out.go ho4.2); obtain ⟨p0, p1, p2, f0, f1, f2⟩ := S4.out.box.six; rw [← F.out] at ho4 O4; obtain ⟨b4, c4, rfl, hr4⟩ := ho4.row GB.out; clear ho4))
      exact gives_leaf rfl rfl S4.out O4.out W2.out rfl GB.out (by have := GL.out; omega)
    · have F : Hid (bigZ zs = bareZ zs) := if_neg (by rintro (h | h); exact h0 h; exact h8 h)
      obtain ⟨p0, p1, p2, f0, f1, f2⟩ := S2.out.box.six
      have HW := Lib.hid hW
      generalize (bareZ zs)[(0 : Nat)]?.getD 0 = x0 at c0 z0 h8
      rw [← F.out] at O2 R2 L0 t0 ⊢
      clear h0
      go_wp2_with fail
      exact gives_leaf rfl rfl S2.out O2.out HW.out rfl GB.out (by have := GL.out; omega)
end Go.Proofs.YtlmndmfebgaidaaGreatDoor
namespace Go.Proofs.YtlmndmfebgaidaaGreatDoor
open Go.RowKit
set_option linter.unusedVariables false
def leastM (n : Int) : Nat := if n / 256 ^ 1 = 0 then 1 else if n / 256 ^ 2 = 0 then 2 else if n / 256 ^ 3 = 0 then 3 else if n / 256 ^ 4 = 0 then 4 else if n / 256 ^ 5 = 0 then 5 else if n / 256 ^ 6 = 0 then 6 else if n / 256 ^ 7 = 0 then 7 else 8
theorem leastM_is {n : Int} (h0 : 0 ≤ n) (h1 : n ≤ 18446744073709551615) : IsLeast n (leastM n) := by
  have h8 := div_eight h0 h1 (Nat.le_refl 8)
  unfold leastM IsLeast
  by_cases c1 : n / 256 ^ 1 = 0
  · rw [if_pos c1]; exact ⟨by omega, by omega, c1, .inl rfl⟩
  rw [if_neg c1]
  by_cases c2 : n / 256 ^ 2 = 0
  · rw [if_pos c2]; exact ⟨by omega, by omega, c2, .inr c1⟩
  rw [if_neg c2]
  by_cases c3 : n / 256 ^ 3 = 0
  · rw [if_pos c3]; exact ⟨by omega, by omega, c3, .inr c2⟩
  rw [if_neg c3]
  by_cases c4 : n / 256 ^ 4 = 0
  · rw [if_pos c4]; exact ⟨by omega, by omega, c4, .inr c3⟩
  rw [if_neg c4]
  by_cases c5 : n / 256 ^ 5 = 0
  · rw [if_pos c5]; exact ⟨by omega, by omega, c5, .inr c4⟩
  rw [if_neg c5]
  by_cases c6 : n / 256 ^ 6 = 0
  · rw [if_pos c6]; exact ⟨by omega, by omega, c6, .inr c5⟩
  rw [if_neg c6]
  by_cases c7 : n / 256 ^ 7 = 0
  · rw [if_pos c7]; exact ⟨by omega, by omega, c7, .inr c6⟩
  rw [if_neg c7]
  exact ⟨by omega, by omega, h8, .inr c7⟩
def leastZ (n : Int) : List Int := beZ (leastM n) n
theorem GivesLeast.is {w w' : World} {n : Int} {e : Ending} (h0 : 0 ≤ n) (h1 : n ≤ 18446744073709551615) (h : GivesLeast w n e w') : ∃ b off c, e = .returned (.slice (some ⟨b, off, none⟩) (leastM n) c) ∧ Row w' (some ⟨b, off, none⟩) (leastM n) (leastZ n) ∧ Below w.heap.size w w' ∧ leastM n ≤ c := by
  obtain ⟨m, a, c, hm, rfl, hr, hb, hc⟩ := h
  obtain rfl := IsLeast.eq h0 hm (leastM_is h0 h1)
  obtain ⟨b, off, rfl, _⟩ := hr.2.2 (by have := hm.1; omega)
  exact ⟨b, off, c, rfl, hr, hb, hc⟩
theorem leastM_le (n : Int) : leastM n ≤ 8 := by
  unfold leastM
  repeat (first | omega | split)
def intT (n : Int) : T := bigT (leastZ n)
set_option maxHeartbeats 1000000 in
theorem rint_any (n : Int) (w : World) (h0 : 0 ≤ n) (h1 : n ≤ 18446744073709551615) : Calls Tryz.prog 32 #[.int .u64 n] w (GivesNode (intT n) w) := by
  have S0 := Lib.hid (RB.start w)
  have hml := leastM_le n
  go_enter Tryz.func32, Tryz.ntmps32
  go_wp2_with fail
  refine (rleast_any n _ h0 h1).mono ?_
  intro e w2 h2
  obtain ⟨b, off, c, rfl, hr, hb, hc⟩ := h2.is h0 h1
  have S2 := Lib.hid (S0.out.go hb)
  have CI := Lib.hid (rbig_any (some ⟨b, off, none⟩) (leastM n) c (leastZ n) w2 hr hc (by omega) (fun e => by cases e))
  clear h2 hr hb S0
  generalize leastM n = m at CI hc hml
  go_wp2_with fail
  refine CI.out.mono ?_
  rintro e w3 ⟨A, n3, c3, K, m3, d3, rfl, hin, hb3⟩
  have S3 := Lib.hid (S2.out.go hb3)
  have IN := Lib.hid hin
  have W2 : Hid (w.heap.size < w2.heap.size) := S2.out.box.lt
  obtain ⟨p0, p1, p2, f0, f1, f2⟩ := S3.out.box.six
  clear hin hb3 CI S2
  go_wp2_with fail
  exact gives_copy rfl rfl S3.out IN.out W2.out
end Go.Proofs.YtlmndmfebgaidaaGreatDoor
namespace Go.Proofs.YtlmndmfebgaidaaGreatDoor
open Go.RowKit Go.Deep Go.ChangeShapes Go.WideShapes
section
variable {H : Type} {enc : TypeId × Value → H}
theorem trod_three {P : Program} {w : World} {base : Nat} {spare : Nat → Bool} {held : Bool} {t : TypeId} {f0 f1 f2 : Field} {fuel : Nat} {cs : List Value} {x : DataW H × List MemPlace} (hs : P.underlying t = some (.struct #[f0, f1, f2])) (hone : oneCellFields P #[f0, f1, f2] = true) (hC : P.cellsOf t = 3)
    (h : DataW.trod enc P w base spare held fuel t cs = some x) :
    ∃ (n : Nat) (v0 v1 v2 : Value) (y0 y1 y2 : DataW H × List MemPlace), fuel = n + 1 ∧ cs = [v0, v1, v2] ∧
      DataW.trod enc P w base spare held n f0.type [v0] = some y0 ∧ DataW.trod enc P w base spare held n f1.type [v1] = some y1 ∧ DataW.trod enc P w base spare held n f2.type [v2] = some y2 := by
  obtain ⟨xs, n, hfu, _, hl, hlen, hf⟩ := DataW.trod_struct hs h
  rw [hC] at hl
  obtain ⟨o0, k0⟩ := hone_of hone 0 f0 rfl
  obtain ⟨o1, k1⟩ := hone_of hone 1 f1 rfl
  obtain ⟨o2, k2⟩ := hone_of hone 2 f2 rfl
  match cs, hl, xs, hlen with
  | [v0, v1, v2], _, [y0, y1, y2], _ =>
    exact ⟨n, v0, v1, v2, y0, y1, y2, hfu, rfl, by simpa [o0, k0] using hf 0 f0 rfl, by simpa [o1, k1] using hf 1 f1 rfl, by simpa [o2, k2] using hf 2 f2 rfl⟩
theorem listed {p : Nat → T → Prop} {len : Nat} (h : ∀ i, i < len → ∃ t, p i t) : ∃ ts : List T, ts.length = len ∧ ∀ (i : Nat) (hi : i < ts.length), p i ts[i] := by
  have h' : ∀ i, ∃ t, i < len → p i t := fun i => by
    by_cases hi : i < len
    · obtain ⟨t, ht⟩ := h i hi
      exact ⟨t, fun _ => ht⟩
    · exact ⟨.node 0 [] [], fun hl => absurd hl hi⟩
  obtain ⟨f, hf⟩ := Classical.axiomOfChoice h'
  refine ⟨(List.range len).map f, by simp, fun i hi => ?_⟩
  have hi' : i < len := by simpa using hi
  simpa using hf i hi'
theorem cells_node : Tryz.prog.cellsOf 29 = 3 := by kernel_rfl
theorem cells_byte : Tryz.prog.cellsOf 5 = 1 := by kernel_rfl
theorem open_node {w : World} {spare : Nat → Bool} {held : Bool} (hsp : ∀ b, spare b = true) (fuel : Nat) : ∀ (cs : List Value) (x : DataW H × List MemPlace), DataW.trod enc Tryz.prog w 0 spare held fuel 29 cs = some x →
    ∃ (v0 v1 v2 : Value) (t : T), cs = [v0, v1, v2] ∧ t.In w (.agg #[v0, v1, v2]) := by
  induction fuel using Nat.strongRecOn with
  | ind fuel ih =>
    intro cs x h
    obtain ⟨n, v0, v1, v2, y0, y1, y2, hfu, rfl, h0, h1, h2⟩ := trod_three Tryz.underlying29 (by kernel_rfl) cells_node h
    obtain ⟨tag, e0, _, hw⟩ := DataW.trod_int Tryz.underlying3 h0
    injection e0 with e0 _
    subst e0
    obtain ⟨A, m, c, body, e1, hr, hm, hnil⟩ : ∃ (A : Option Addr) (m c : Nat) (body : List Int), v1 = .slice A m c ∧ Row w A m body ∧ m ≤ maxLen ∧ (A = none → c = 0) := by
      rcases open_ints Tryz.underlying26 Tryz.underlying5 cells_byte h1 with ⟨hcs, _⟩ | ⟨a, len, cap, zs, hcs, _, hl, hm, hz, _, hcell, hwz⟩
      · injection hcs with e _
        exact ⟨none, 0, 0, [], e, Row.nil _ _, Nat.zero_le _, fun _ => rfl⟩
      · injection hcs with e _
        rw [hsp, if_pos rfl] at hz
        obtain ⟨r1, r2⟩ := row_of (w := w) (a := some a) (len := len) (cap := cap) (zs := zs) (.inr ⟨a, rfl, hl, hm, hz, hcell, hwz⟩)
        exact ⟨some a, len, cap, zs.take len, e, r1, r2, fun h => by cases h⟩
    subst e1
    obtain ⟨K, k, d, kids, e2, hk, hkm, hall⟩ : ∃ (K : Option Addr) (k d : Nat) (kids : List T), v2 = .slice K k d ∧ kids.length = k ∧ k ≤ maxLen ∧ (0 < k → ∃ b off, K = some ⟨b, off, none⟩ ∧ b < w.heap.size ∧ T.InAll w kids b off) := by
      rcases DataW.trod_slice Tryz.underlying27 h2 with ⟨hcs, _⟩ | ⟨a, len, cap, elems, rest, n', hn', hcs, _, _, hl, hm, hlen, hel, _, _⟩
      · injection hcs with e _
        exact ⟨none, 0, 0, [], e, rfl, Nat.zero_le _, fun h => absurd h (by omega)⟩
      · injection hcs with e _
        rw [cells_node] at hel
        obtain ⟨ts, hts, hp⟩ := listed (p := fun i t => ∃ v0 v1 v2 : Value, w.cell? ((a.add (i * 3)).add 0) = some v0 ∧ w.cell? ((a.add (i * 3)).add 1) = some v1 ∧ w.cell? ((a.add (i * 3)).add 2) = some v2 ∧ t.In w (.agg #[v0, v1, v2])) (len := len) (fun i hi => by
          have he := hel i hi
          rw [List.getElem?_eq_getElem (by omega)] at he
          obtain ⟨ci, hci, hti⟩ := Option.bind_eq_some_iff.1 he
          obtain ⟨u0, u1, u2, t, rfl, hin⟩ := ih n' (by omega) ci _ hti
          obtain ⟨_, _, hc⟩ := World.cells?_some hci
          exact ⟨t, u0, u1, u2, by simpa using hc 0 (by omega), by simpa using hc 1 (by omega), by simpa using hc 2 (by omega), hin⟩)
        refine ⟨some a, len, cap, ts, e, hts, by omega, fun hpos => ?_⟩
        obtain ⟨b, off, spot⟩ := a
        obtain ⟨u0, _, _, hc0, _, _, _⟩ := hp 0 (by omega)
        have hspot : spot = none := by simpa [Addr.add] using World.cell?_spot hc0
        subst hspot
        refine ⟨b, off, rfl, by have := cell_block hc0; simpa [Addr.add] using this, T.InAll.of fun i hi => ?_⟩
        obtain ⟨u0, u1, u2, g0, g1, g2, g3⟩ := hp i hi
        rw [Addr.add_lit] at g0 g1 g2
        rw [Addr.add_lit] at g0 g1 g2
        exact ⟨u0, u1, u2, g0, g1, g2, g3⟩
    subst e2
    refine ⟨_, _, _, .node tag body kids, rfl, ?_⟩
    unfold T.In
    exact ⟨A, m, c, K, k, d, rfl, hw, hr, hm, hnil, hk, hkm, hall⟩
set_option maxRecDepth 100000 in
theorem open_arg {w : World} {r : Reach} {b0 : Nat} {held : Bool} {v : Value} {d : DataW H} {p : List MemPlace} (hv : Value.okWide Tryz.prog w r b0 29 v) (h : DataW.Trod enc Tryz.prog w 0 (fun _ => true) held 29 v d p) : ∃ t : T, t.In w v := by
  obtain ⟨cs, rfl, _⟩ := okWide_struct Tryz.underlying29 hv
  obtain ⟨fuel, hf⟩ := h
  obtain ⟨v0, v1, v2, t, hcs, hin⟩ := open_node (fun _ => rfl) fuel _ _ hf
  have e : cs = #[v0, v1, v2] := by
    obtain ⟨l⟩ := cs
    have hl : l = [v0, v1, v2] := hcs
    rw [hl]
  subst e
  exact ⟨t, hin⟩
end
end Go.Proofs.YtlmndmfebgaidaaGreatDoor
namespace Go.Proofs.YtlmndmfebgaidaaGreatDoor
open Go.RowKit Go.Deep Go.ChangeShapes Go.WideShapes
def Capped (v : Value) : Prop := ∀ z A n c y, v = .agg #[z, .slice A n c, y] → n ≤ c
theorem Capped.is {z : Value} {A : Option Addr} {n c : Nat} {y : Value} (h : Capped (.agg #[z, .slice A n c, y])) : n ≤ c := h _ _ _ _ _ rfl
section
variable {H : Type} {enc : TypeId × Value → H}
end
end Go.Proofs.YtlmndmfebgaidaaGreatDoor
namespace Go.Proofs.YtlmndmfebgaidaaGreatDoor
open Go.RowKit
set_option linter.unusedVariables false
theorem Box.laters {w wr : World} {g : Nat} {t : T} {A : Option Addr} {n c : Nat} {K : Option Addr} {m d : Nat} (h : Box w wr g t A n c K m d) : (∀ W, Ext wr.drew W → W.cell? ⟨g, 0, none⟩ = some (.int .i64 t.tag)) ∧ (∀ W, Ext wr.drew W → W.cell? ⟨g, 1, none⟩ = some (.slice A n c)) ∧ (∀ W, Ext wr.drew W → W.cell? ⟨g, 2, none⟩ = some (.slice K m d)) :=
  ⟨cell_later h.cells.1, cell_later h.cells.2.1, cell_later h.cells.2.2⟩
end Go.Proofs.YtlmndmfebgaidaaGreatDoor
namespace Go.Proofs.YtlmndmfebgaidaaGreatDoor
open Go.RowKit
set_option linter.unusedVariables false
def GivesTruth (x : Bool × Int) (w : World) (e : Ending) (w' : World) : Prop := e = .returned (.tuple #[.bool x.1, .int .i64 x.2]) ∧ Below w.heap.size w w'
theorem GivesTruth.of {x : Bool × Int} {b : Bool} {n : Int} {w w' : World} (h : x = (b, n)) (hb : Below w.heap.size w w') : GivesTruth x w (.returned (.tuple #[.bool b, .int .i64 n])) w' := by subst h; exact ⟨rfl, hb⟩
end Go.Proofs.YtlmndmfebgaidaaGreatDoor
namespace Go.Proofs.YtlmndmfebgaidaaGreatDoor
open Go.RowKit
set_option linter.unusedVariables false
def SevB (l n : Nat) : Prop := (l ≤ 1 ∨ n < 2 ^ 57) ∧ (l ≤ 2 ∨ n < 2 ^ 50) ∧ (l ≤ 3 ∨ n < 2 ^ 43) ∧ (l ≤ 4 ∨ n < 2 ^ 36) ∧ (l ≤ 5 ∨ n < 2 ^ 29) ∧ (l ≤ 6 ∨ n < 2 ^ 22) ∧ (l ≤ 7 ∨ n < 2 ^ 15) ∧ (l ≤ 8 ∨ n < 2 ^ 8) ∧ (l ≤ 9 ∨ n < 2 ^ 1) ∧ l ≤ 10 ∧ n < 2 ^ 64
theorem SevB.step {l n : Nat} (h : SevB l n) (hn : 128 ≤ n) : SevB (l + 1) (n / 128) := by
  unfold SevB at h ⊢
  omega
theorem numZ_range (zs : List Int) (hb : ∀ x ∈ zs, 0 ≤ x ∧ x ≤ 255) : ∀ n : Int, 0 ≤ n → n ≤ 18446744073709551615 → 0 ≤ (numZ n zs).1 ∧ (numZ n zs).1 ≤ 18446744073709551615 := by
  induction zs with
  | nil => intro n h0 h1; exact ⟨h0, h1⟩
  | cons x xs ih =>
    intro n h0 h1
    rw [numZ]
    split
    · exact ⟨by simp, by simp⟩
    · rename_i hc
      have hx := hb x (List.mem_cons_self ..)
      unfold B56 at hc
      exact ih (fun y hy => hb y (List.mem_cons_of_mem _ hy)) _ (by omega) (by omega)
def uintZ (t : T) : Int × Int := if (numZ 0 t.body).2 = true ∧ sameT t (intT (numZ 0 t.body).1) = true then ((numZ 0 t.body).1, 0) else (0, 2)
def GivesUint (x : Int × Int) (w : World) (e : Ending) (w' : World) : Prop := e = .returned (.tuple #[.int .u64 x.1, .int .i64 x.2]) ∧ Below w.heap.size w w'
theorem GivesUint.of {x : Int × Int} {b : Int} {n : Int} {w w' : World} (h : x = (b, n)) (hb : Below w.heap.size w w') : GivesUint x w (.returned (.tuple #[.int .u64 b, .int .i64 n])) w' := by subst h; exact ⟨rfl, hb⟩
set_option maxHeartbeats 2000000 in
set_option maxRecDepth 100000 in
theorem ruint_any (t : T) (v : Value) (w : World) (hin : t.In w v) (hwt : t.body.length ≤ 1000000) : Calls Tryz.prog 36 #[v] w (GivesUint (uintZ t) w) := by
  obtain ⟨A, n, c, K, m, d, rfl, hw, hr, hn, hc, hm, hm', hks⟩ := hin.open
  have B2 := Lib.hid (Box.start hin)
  have GZ : Hid (uintZ t = if (numZ 0 t.body).2 = true ∧ sameT t (intT (numZ 0 t.body).1) = true then ((numZ 0 t.body).1, 0) else (0, 2)) := rfl
  have NR := numZ_range t.body hr.2.1 0 (by omega) (by omega)
  have hl := hr.1
  have CN := Lib.hid (rnum_any A n c t.body _ (hr.below B2.out.below) (by omega))
  obtain ⟨g0, g1, g2⟩ := B2.out.cells
  clear hr hks hc hin hm hm' hw hn hl
  generalize (numZ 0 t.body).1 = x at *
  generalize hz : (numZ 0 t.body).2 = is at *
  clear hz
  go_enter Tryz.func36, Tryz.ntmps36
  generalize hw2 : w.alloc (.cells #[.int .i64 t.tag, .slice A n c, .slice K m d] 29) = w2 at *
  go_wp2_with fail
  refine CN.out.mono ?_
  rintro e w3 ⟨rfl, rfl⟩
  clear hw2 CN
  go_wp2_with fail
  clear g0 g1 g2
  obtain ⟨l0, l1, l2⟩ := B2.out.laters
  have CB := Lib.hid (fun W => rint_any x W NR.1 NR.2)
  have CS := Lib.hid (fun W (hW : Ext w3 W) u (y : T) (hy : y.In W u) => same_any t y _ u W (T.In.below hW t B2.out.has) hy)
  refine wp_region_ord Ext Ext.refl (fun _ _ _ => Ext.trans) ((0, false) :: (1, false) :: (2, false) :: (3, false) :: (4, false) :: (5, true) :: (6, true) :: (7, false) :: (8, false) :: []) (by kernel_rfl) (by kernel_rfl) rfl (by kernel_rfl) (fun _ _ _ _ _ h => h) ?_
  cases is
  · have F : Hid (uintZ t = (0, 2)) := by rw [GZ.out]; simp [Hid]
    clear GZ CB CS
    repeat (first | (refine ord_take _ rfl (by rfl) (fun W hW => by go_simp; first | done | rfl) ?_; simp only [Act.put, List.setIfInBounds_toArray, List.set_cons_zero, List.set_cons_succ]) | (refine ord_skip rfl (by rfl) ?_; simp only [Act.put, List.setIfInBounds_toArray, List.set_cons_zero, List.set_cons_succ]))
    refine ord_end ?_
    go_wp2_with fail
    go_ret2
    exact GivesUint.of F.out (Ext.drew B2.out.below)
  have GX : Hid (uintZ t = if sameT t (intT x) = true then (x, 0) else (0, 2)) := by rw [GZ.out]; simp [Hid]
  clear GZ
  repeat (refine ord_take _ rfl (by rfl) (fun W hW => by go_simp; first | done | rfl) ?_; simp only [Act.put, List.setIfInBounds_toArray, List.set_cons_zero, List.set_cons_succ])
  clear l0 l1 l2
  refine ord_sole rfl (by rfl) (fun K1 hK1 => ?_)
  go_simp
  refine (CB.out _).mono ?_
  rintro e w4 ⟨A3, n3, c3, K3, m3, d3, rfl, hin3, hb3⟩
  have E3 : Hid (Ext w3 w4) := Ext.of_drew hb3
  have H3 := Lib.hid (T.InP.in _ hin3)
  refine hK1 _ _ hb3 ?_
  clear hK1 K1 CB hb3 hin3
  refine ord_sole rfl (by rfl) (fun K1 hK1 => ?_)
  go_simp
  refine (CS.out _ E3.out _ _ H3.out).mono ?_
  rintro e w5 ⟨rfl, hb4⟩
  have E4 : Hid (Ext w3 w5) := Ext.trans E3.out hb4
  refine hK1 _ _ hb4 ?_
  clear hK1 K1 CS hb4 H3 E3
  have B4 := Lib.hid (Below.step B2.out.below E4.out)
  clear B2 E4
  cases hs : sameT t (intT x)
  · have F : Hid (uintZ t = (0, 2)) := by rw [GX.out, hs]; rfl
    repeat (refine ord_take _ rfl (by rfl) (fun W hW => by go_simp; first | done | rfl) ?_; simp only [Act.put, List.setIfInBounds_toArray, List.set_cons_zero, List.set_cons_succ])
    refine ord_end ?_
    go_wp2_with fail
    go_ret2
    exact GivesUint.of F.out B4.out
  · have F : Hid (uintZ t = (x, 0)) := by rw [GX.out, hs]; rfl
    repeat (refine ord_take _ rfl (by rfl) (fun W hW => by go_simp; first | done | rfl) ?_; simp only [Act.put, List.setIfInBounds_toArray, List.set_cons_zero, List.set_cons_succ])
    refine ord_end ?_
    go_wp2_with fail
    go_ret2
    exact GivesUint.of F.out B4.out
end Go.Proofs.YtlmndmfebgaidaaGreatDoor
namespace Go.Proofs.YtlmndmfebgaidaaGreatDoor
open Go.RowKit
set_option linter.unusedVariables false
theorem numZ_nought (l : List Int) : numZ 0 (0 :: l) = numZ 0 l := by
  rw [numZ, if_neg (by unfold B56; omega)]
  rfl
theorem numZ_bare (l : List Int) : numZ 0 (bareZ l) = numZ 0 l := by
  induction l with
  | nil => rfl
  | cons z r ih =>
    rw [bareZ]
    split
    · rename_i h
      rw [ih, h, numZ_nought]
    · rfl
theorem numZ_big (l : List Int) : numZ 0 (bigZ l) = numZ 0 l := by
  unfold bigZ
  split
  · rw [numZ_nought, numZ_bare]
  · rw [numZ_bare]
end Go.Proofs.YtlmndmfebgaidaaGreatDoor
namespace Go.Proofs.YtlmndmfebgaidaaGreatDoor
open Go.RowKit
set_option linter.unusedVariables false
theorem mod_step (a : Int) {q : Int} (hq : 0 < q) : a % (q * 256) = q * (a / q % 256) + a % q := by
  have h1 := Int.mul_ediv_add_emod a q
  have h2 := Int.mul_ediv_add_emod (a / q) 256
  have hr0 := Int.emod_nonneg a (Int.ne_of_gt hq)
  have hr1 := Int.emod_lt_of_pos a hq
  have ht0 := Int.emod_nonneg (a / q) (show (256 : Int) ≠ 0 by decide)
  have ht1 := Int.emod_lt_of_pos (a / q) (show (0 : Int) < 256 by decide)
  generalize a / q % 256 = t at h2 ht0 ht1 ⊢
  generalize a % q = r at h1 hr0 hr1 ⊢
  generalize a / q / 256 = u at h2
  have e : a = (q * t + r) + q * 256 * u := by
    rw [← h1, ← h2, Int.mul_add, Int.mul_assoc]
    omega
  have hlo : 0 ≤ q * t + r := Int.add_nonneg (Int.mul_nonneg (Int.le_of_lt hq) ht0) hr0
  have hhi : q * t + r < q * 256 := by
    have : q * t ≤ q * 255 := Int.mul_le_mul_of_nonneg_left (by omega) (Int.le_of_lt hq)
    omega
  rw [e, Int.add_mul_emod_self_left, Int.emod_eq_of_lt hlo hhi]
theorem mod_of_div {a : Int} {m : Nat} (h : a / 256 ^ m = 0) : a % 256 ^ m = a := by
  have := Int.mul_ediv_add_emod a (256 ^ m)
  rw [h] at this
  omega
theorem numZ_beZ : ∀ (m : Nat) (n s : Int), 0 ≤ s → s * 256 ^ m + n % 256 ^ m ≤ 18446744073709551615 → numZ s (beZ m n) = (s * 256 ^ m + n % 256 ^ m, true)
  | 0, n, s, _, _ => by
    simp only [beZ, numZ, Int.pow_zero, Int.mul_one, Int.emod_one, Int.add_zero]
  | k + 1, n, s, hs, hb => by
    have hq : (0 : Int) < 256 ^ k := Int.pow_pos (by decide)
    rw [Int.pow_succ, mod_step n hq] at hb ⊢
    have hd0 : 0 ≤ n / 256 ^ k % 256 := Int.emod_nonneg _ (by decide)
    have hr0 : 0 ≤ n % 256 ^ k := Int.emod_nonneg _ (Int.ne_of_gt hq)
    have ih := numZ_beZ k n (s * 256 + n / 256 ^ k % 256) (by omega)
    rw [beZ, numZ]
    generalize n / 256 ^ k % 256 = d at hb hd0 ih ⊢
    generalize n % 256 ^ k = r at hb hr0 ih ⊢
    generalize (256 : Int) ^ k = q at hq hb ih ⊢
    have key : (s * 256 + d) * q + r = s * (q * 256) + (q * d + r) := by
      rw [Int.add_mul, Int.mul_assoc, Int.mul_comm 256 q, Int.mul_comm d q, Int.add_assoc]
    have h1 : 0 ≤ q * d := Int.mul_nonneg (Int.le_of_lt hq) hd0
    have h2 : s * 256 ≤ s * (q * 256) := Int.mul_le_mul_of_nonneg_left (by omega) hs
    rw [if_neg (by unfold B56; omega), ih (by rw [key]; exact hb), key]
theorem num_back {m : Nat} {n : Int} (h1 : n ≤ 18446744073709551615) (hz : n / 256 ^ m = 0) : numZ 0 (beZ m n) = (n, true) := by
  have e := mod_of_div hz
  have := numZ_beZ m n 0 (Int.le_refl 0) (by rw [e]; omega)
  rw [this, e]
  simp
theorem uint_int (x : Int) (h0 : 0 ≤ x) (h1 : x ≤ 18446744073709551615) : uintZ (intT x) = (x, 0) := by
  have e : numZ 0 (intT x).body = (x, true) := by
    show numZ 0 (bigZ (leastZ x)) = (x, true)
    rw [numZ_big]
    exact num_back h1 (leastM_is h0 h1).2.2.1
  unfold uintZ
  rw [e, if_pos ⟨rfl, same_refl _⟩]
end Go.Proofs.YtlmndmfebgaidaaGreatDoor
namespace Go.Proofs.YtlmndmfebgaidaaGreatDoor
set_option linter.unusedVariables false
structure ResZ where
  inh : Bool
  sp : List SpanZ
  ns : List (Nat × Nat)
def zeroRes : ResZ := ⟨false, [], []⟩
def ResOk (r : ResZ) : Prop := SpansZ r.sp ∧ Under 4294967296 r.ns
def rightR (r : ResZ) : Bool :=
  if r.inh = true then decide (r.sp.length = 0) && decide (r.ns.length = 0)
  else if r.sp.length + r.ns.length = 0 ∨ 400 < r.sp.length ∨ 400 < r.ns.length then false
  else eqLS (joinS r.sp) r.sp && eqLR (joinZ r.ns) r.ns
def famW (v : Bool) : Nat := if v then 16 else 4
def addrT (v : Bool) (A : List Int) : T := .node 4 (A.take (famW v)) []
def spanT (s : SpanZ) : List T := [addrT s.v s.lo, addrT s.v s.hi]
def rangeT (p : Nat × Nat) : List T := [intT (p.1 : Int), intT (p.2 : Int)]
def famT (v : Bool) (l : List SpanZ) : List T := (l.filter fun s => s.v == v).flatMap spanT
def resT (r : ResZ) : T :=
  if r.inh = true then .node 5 [] [] else .node 48 [] [.node 48 [] (famT false r.sp), .node 48 [] (famT true r.sp), .node 48 [] (r.ns.flatMap rangeT)]
theorem resT_own {r : ResZ} (hi : r.inh = false) : resT r = .node 48 [] [.node 48 [] (famT false r.sp), .node 48 [] (famT true r.sp), .node 48 [] (r.ns.flatMap rangeT)] := by
  unfold resT
  rw [if_neg (by rw [hi]; decide)]
def nodeR (r : ResZ) : T × Int := if rightR r = true then (resT r, 0) else (zeroT, 1)
def fullA (l : List Int) : List Int := l.take 16 ++ List.replicate (16 - l.length) 0
def pairsOf {α : Type} (f : T → T → α) : List T → List α
  | a :: b :: r => f a b :: pairsOf f r
  | _ => []
def spanOf (v : Bool) (a b : T) : SpanZ := ⟨v, fullA a.body, fullA b.body⟩
def spansOf (v : Bool) (l : List T) : List SpanZ := pairsOf (spanOf v) l
def rangeOk (a b : T) : Bool := decide ((uintZ a).2 = 0) && decide ((uintZ b).2 = 0)
def rangeOf (a b : T) : Nat × Nat := (((uintZ a).1 % 4294967296).toNat, ((uintZ b).1 % 4294967296).toNat)
def rangesOf (l : List T) : Option (List (Nat × Nat)) := if (pairsOf rangeOk l).all id = true then some (pairsOf rangeOf l) else none
def kidT (t : T) (k : Nat) : List T := (t.kids[k]?.getD zeroT).kids
def takeR (t : T) : Option ResZ :=
  if t.kids.length = 3 then (rangesOf (kidT t 2)).map fun l => ⟨false, spansOf false (kidT t 0) ++ spansOf true (kidT t 1), l⟩ else some ⟨true, [], []⟩
def readR (t : T) : ResZ × Int :=
  match takeR t with
  | none => (zeroRes, 2)
  | some r => if (nodeR r).2 = 0 ∧ sameT (nodeR r).1 t = true then (r, 0) else (zeroRes, 2)
theorem right_parts {r : ResZ} (hi : r.inh = false) (h : rightR r = true) : r.sp.length + r.ns.length ≠ 0 ∧ r.sp.length ≤ 400 ∧ r.ns.length ≤ 400 ∧ joinS r.sp = r.sp ∧ joinZ r.ns = r.ns := by
  unfold rightR at h
  rw [hi, if_neg (by decide)] at h
  split at h
  · cases h
  · rename_i c
    rw [Bool.and_eq_true] at h
    exact ⟨fun e => c (.inl e), by omega, by omega, eqLS_is.1 h.1, of_decide_eq_true h.2⟩
theorem right_len {r : ResZ} (h : rightR r = true) : r.sp.length ≤ 400 ∧ r.ns.length ≤ 400 := by
  cases hi : r.inh with
  | true =>
    unfold rightR at h
    rw [hi, if_pos rfl, Bool.and_eq_true, decide_eq_true_iff, decide_eq_true_iff] at h
    omega
  | false =>
    have := right_parts hi h
    omega
theorem right_inh {r : ResZ} (hi : r.inh = true) (h : rightR r = true) : r = ⟨true, [], []⟩ := by
  unfold rightR at h
  rw [hi, if_pos rfl, Bool.and_eq_true, decide_eq_true_iff, decide_eq_true_iff] at h
  obtain ⟨a, b, c⟩ := r
  have h1 : b = [] := List.eq_nil_of_length_eq_zero h.1
  have h2 : c = [] := List.eq_nil_of_length_eq_zero h.2
  have h3 : a = true := hi
  rw [h1, h2, h3]
theorem node_ok (r : ResZ) : (nodeR r).2 = 0 ↔ rightR r = true := by
  unfold nodeR
  split
  · exact ⟨fun _ => by assumption, fun _ => rfl⟩
  · rename_i c
    exact ⟨fun h => absurd h (by decide), fun h => absurd h c⟩
theorem read_ways (t : T) : ((readR t).2 = 0 ∧ nodeR (readR t).1 = (t, 0)) ∨ (readR t = (zeroRes, 2)) := by
  unfold readR
  split
  · exact .inr rfl
  · rename_i r _
    split
    · rename_i c
      refine .inl ⟨rfl, ?_⟩
      show nodeR r = (t, 0)
      have e1 : (nodeR r).1 = t := same_is _ _ c.2
      rw [← e1, ← c.1]
    · exact .inr rfl
theorem full_len (l : List Int) : (fullA l).length = 16 := by
  unfold fullA
  rw [List.length_append, List.length_take, List.length_replicate]
  omega
theorem full_six {l : List Int} (h : ∀ x ∈ l, 0 ≤ x ∧ x ≤ 255) : Sixteen (fullA l) := ⟨full_len l, fun x hx => by
  unfold fullA at hx
  rcases List.mem_append.1 hx with hx | hx
  · exact h x (List.mem_of_mem_take hx)
  · rw [(List.mem_replicate.1 hx).2]
    omega⟩
theorem full_addr {v : Bool} {A : List Int} (hA : Sixteen A) (h : v = false → aN A % 2 ^ 96 = 0) : fullA (A.take (famW v)) = A := by
  cases v with
  | true =>
    unfold fullA famW
    rw [if_pos rfl, List.take_take, List.length_take, hA.1]
    simp only [Nat.min_self, Nat.sub_self, List.replicate_zero, List.append_nil]
    exact List.take_of_length_le (by rw [hA.1]; exact Nat.le_refl _)
  | false =>
    have hz := (tail_zero hA).2 (h rfl)
    apply List.ext_getElem?
    intro i
    unfold fullA famW
    simp only [Bool.false_eq_true, if_false]
    rw [List.take_take, List.length_take, hA.1]
    simp only [show min 16 4 = 4 from rfl, show min 4 16 = 4 from rfl]
    rcases Nat.lt_or_ge i 4 with h4 | h4
    · rw [List.getElem?_append_left (by rw [List.length_take, hA.1]; omega), List.getElem?_take, if_pos h4]
    · rw [List.getElem?_append_right (by rw [List.length_take, hA.1]; omega), List.length_take, hA.1]
      rcases Nat.lt_or_ge i 16 with h16 | h16
      · rw [List.getElem?_replicate, if_pos (by omega)]
        have := hz i h4 h16
        rw [List.getElem?_eq_getElem (by rw [hA.1]; exact h16)] at this ⊢
        rw [Option.getD_some] at this
        rw [this]
      · rw [List.getElem?_replicate, if_neg (by omega), List.getElem?_eq_none (by rw [hA.1]; exact h16)]
theorem span_back {s : SpanZ} (h : SpanOk s) : spanOf s.v (addrT s.v s.lo) (addrT s.v s.hi) = s := by
  obtain ⟨h1, h2, _⟩ := ok_parts h
  obtain ⟨v, lo, hi⟩ := s
  unfold spanOf addrT
  simp only [T.body]
  rw [full_addr h.1 h1, full_addr h.2.1 h2]
theorem spans_back (v : Bool) : ∀ {l : List SpanZ}, (∀ s ∈ l, SpanOk s) → spansOf v (famT v l) = l.filter fun s => s.v == v
  | [], _ => rfl
  | s :: r, h => by
    have ih := spans_back v (l := r) (fun x hx => h x (by simp [hx]))
    unfold famT at ih ⊢
    cases hv : (s.v == v) with
    | true =>
      rw [List.filter_cons_of_pos (by simpa using hv), List.flatMap_cons]
      have e : s.v = v := by simpa using hv
      unfold spansOf spanT at ih ⊢
      simp only [List.cons_append, List.nil_append, pairsOf]
      rw [ih, ← e, span_back (h s (by simp))]
    | false =>
      rw [List.filter_cons_of_neg (by rw [hv]; decide)]
      exact ih
theorem fam_split : ∀ {l : List SpanZ}, (∀ s ∈ l, SpanOk s) → NormZ (l.map lineS) → (l.filter fun s => s.v == false) ++ (l.filter fun s => s.v == true) = l
  | [], _, _ => rfl
  | s :: r, h, hn => by
    have ih := fam_split (l := r) (fun x hx => h x (by simp [hx])) hn.2.2
    cases hv : s.v with
    | false =>
      rw [List.filter_cons_of_pos (by rw [hv]; rfl), List.filter_cons_of_neg (by rw [hv]; decide), List.cons_append, ih]
    | true =>
      have all : ∀ x ∈ r, x.v = true := fun x hx => by
        cases hx2 : x.v with
        | true => rfl
        | false =>
          have h1 := hn.2.1 (lineS x) (List.mem_map.2 ⟨x, hx, rfl⟩)
          have h2 : (lineS x).1 = lineZ false x.lo := by unfold lineS; rw [hx2]
          have h3 := line_four (h x (by simp [hx])).1
          have h4 : (lineS s).2 = 2 ^ 40 + aN s.hi := by unfold lineS; rw [hv]; rfl
          omega
      have e0 : (r.filter fun s => s.v == false) = [] := List.filter_eq_nil_iff.2 (fun x hx => by rw [all x hx]; decide)
      have e1 : (r.filter fun s => s.v == true) = r := List.filter_eq_self.2 (fun x hx => by rw [all x hx]; rfl)
      rw [List.filter_cons_of_neg (by rw [hv]; decide), List.filter_cons_of_pos (by rw [hv]; rfl), e0, e1, List.nil_append]
theorem uint_nat {x : Nat} (h : x < 4294967296) : uintZ (intT (x : Int)) = ((x : Int), 0) := uint_int (x : Int) (by omega) (by omega)
theorem ranges_back : ∀ {l : List (Nat × Nat)}, Under 4294967296 l → rangesOf (l.flatMap rangeT) = some l
  | [], _ => rfl
  | p :: r, h => by
    have ih := ranges_back (l := r) (fun x hx => h x (by simp [hx]))
    obtain ⟨h1, h2⟩ := h p (by simp)
    have e1 := uint_nat h1
    have e2 := uint_nat h2
    have eo : rangeOk (intT (p.1 : Int)) (intT (p.2 : Int)) = true := by unfold rangeOk; rw [e1, e2]; rfl
    have er : rangeOf (intT (p.1 : Int)) (intT (p.2 : Int)) = p := by
      unfold rangeOf
      rw [e1, e2]
      obtain ⟨a, b⟩ := p
      simp only at h1 h2 ⊢
      congr 1 <;> omega
    unfold rangesOf at ih ⊢
    rw [List.flatMap_cons]
    unfold rangeT at ih ⊢
    simp only [List.cons_append, List.nil_append, pairsOf, eo, er, List.all_cons, id, Bool.true_and]
    split at ih
    · rename_i c
      rw [if_pos c]
      injection ih with ih
      rw [ih]
    · cases ih
theorem take_back {r : ResZ} (hr : ResOk r) (h : rightR r = true) : takeR (resT r) = some r := by
  cases hi : r.inh with
  | true =>
    have e := right_inh hi h
    subst e
    rfl
  | false =>
    obtain ⟨_, _, _, hs, ha⟩ := right_parts hi h
    have ok : ∀ s ∈ r.sp, SpanOk s := by rw [← hs]; exact join_ok hr.1
    have nm : NormZ (r.sp.map lineS) := by
      have := join_norm' hr.1
      rw [hs, onL_ok ok] at this
      exact this
    rw [resT_own hi]
    unfold takeR
    simp only [T.kids, List.length_cons, List.length_nil, if_true, kidT, List.getElem?_cons_zero, List.getElem?_cons_succ, Option.getD_some]
    rw [ranges_back hr.2, spans_back false ok, spans_back true ok, fam_split ok nm]
    simp only [Option.map_some]
    rw [← hi]
theorem read_back {r : ResZ} (hr : ResOk r) (h : rightR r = true) : readR (resT r) = (r, 0) := by
  have e : nodeR r = (resT r, 0) := by unfold nodeR; rw [if_pos h]
  unfold readR
  rw [take_back hr h]
  simp only
  rw [e, if_pos ⟨rfl, same_refl _⟩]
theorem read_node {r : ResZ} (hr : ResOk r) (h : rightR r = true) : readR (nodeR r).1 = (r, 0) := by
  have e : nodeR r = (resT r, 0) := by unfold nodeR; rw [if_pos h]
  rw [e]
  exact read_back hr h
end Go.Proofs.YtlmndmfebgaidaaGreatDoor
