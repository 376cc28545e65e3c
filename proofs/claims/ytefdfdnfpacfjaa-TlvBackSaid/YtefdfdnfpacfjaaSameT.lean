/-
  What the reference's Same answers, for stage 4 (tlv).
-/
import Derived.Test.YtefdfdnfpacfjaaWeigh
import Derived.Test.YtefdfdnfpacfjaaOut
import Derived.Test.YtefdfdnfpacfjaaOrd
import Derived.Lib.Strings
namespace Go.Proofs.Ytefdfdnfpacfjaa
open Go.RowKit

mutual
def sameT : T → T → Bool
  | .node t b ks, y => (t == y.tag) && ((b == y.body) && ((ks.length == y.kids.length) && sameAll ks y.kids))
def sameAll : List T → List T → Bool
  | [], _ => true
  | _ :: _, [] => true
  | x :: r, y :: q => sameT x y && sameAll r q
end
theorem sameT_eq (x y : T) : sameT x y = ((x.tag == y.tag) && ((x.body == y.body) && ((x.kids.length == y.kids.length) && sameAll x.kids y.kids))) := by
  obtain ⟨t, b, ks⟩ := x
  rw [sameT]
  rfl
theorem same_refl (x : T) : sameT x x = true := by
  refine T.each (p := fun x => sameT x x = true) ?_ x
  intro x ih
  have key : ∀ ks : List T, (∀ k ∈ ks, sameT k k = true) → sameAll ks ks = true := by
    intro ks
    induction ks with
    | nil => intro _; rw [sameAll]
    | cons k r ihr =>
      intro h
      rw [sameAll, h k (by simp), ihr (fun x hx => h x (by simp [hx]))]
      rfl
  rw [sameT_eq, key x.kids ih]
  simp
theorem same_is (x : T) : ∀ y, sameT x y = true → x = y := by
  refine T.each (p := fun x => ∀ y, sameT x y = true → x = y) ?_ x
  intro x ih y h
  have key : ∀ ks ys : List T, (∀ k ∈ ks, ∀ y, sameT k y = true → k = y) → ks.length = ys.length → sameAll ks ys = true → ks = ys := by
    intro ks
    induction ks with
    | nil => intro ys _ hl _; exact (List.eq_nil_of_length_eq_zero (by simpa using hl.symm)).symm
    | cons k r ihr =>
      intro ys hk hl h
      cases ys with
      | nil => simp at hl
      | cons y q =>
        rw [sameAll, Bool.and_eq_true] at h
        rw [hk k (by simp) y h.1, ihr q (fun x hx => hk x (by simp [hx])) (by simpa using hl) h.2]
  rw [sameT_eq, Bool.and_eq_true, Bool.and_eq_true, Bool.and_eq_true] at h
  obtain ⟨h1, h2, h3, h4⟩ := h
  have h5 := key x.kids y.kids ih (by simpa using h3) h4
  obtain ⟨t, b, ks⟩ := x
  obtain ⟨t', b', ks'⟩ := y
  simp only [T.tag, T.body, T.kids, beq_iff_eq] at h1 h2 h5
  rw [h1, h2, h5]
theorem same_drop {xs ys : List T} {i : Nat} {x y : T} (hx : xs[i]? = some x) (hy : ys[i]? = some y) : sameAll (xs.drop i) (ys.drop i) = (sameT x y && sameAll (xs.drop (i + 1)) (ys.drop (i + 1))) := by
  obtain ⟨h1, rfl⟩ := List.getElem?_eq_some_iff.1 hx
  obtain ⟨h2, rfl⟩ := List.getElem?_eq_some_iff.1 hy
  rw [List.drop_eq_getElem_cons h1, List.drop_eq_getElem_cons h2, sameAll]
theorem same_end {xs : List T} {i : Nat} (h : xs.length ≤ i) (ys : List T) : sameAll (xs.drop i) ys = true := by
  rw [List.drop_of_length_le h, sameAll]

theorem str_ne {x y : ByteArray} (h : ¬ x = y) : (x.toList == y.toList) = false := by
  rw [beq_eq_false_iff_ne]
  intro e
  rw [Lib.toList_data, Lib.toList_data] at e
  obtain ⟨⟨x⟩⟩ := x
  obtain ⟨⟨y⟩⟩ := y
  exact h (by rw [show x = y from e])
theorem strs_test {xs ys : List Int} (hx : ∀ z ∈ xs, 0 ≤ z ∧ z ≤ 255) (hy : ∀ z ∈ ys, 0 ≤ z ∧ z ≤ 255) : ((strOfNums xs).toList == (strOfNums ys).toList) = (xs == ys) := by
  by_cases h : xs = ys
  · subst h
    simp
  · rw [str_ne (fun e => h (by rw [← nums_str xs hx, ← nums_str ys hy, e]))]
    exact (beq_eq_false_iff_ne.2 h).symm

theorem Box.later {w wr : World} {g : Nat} {t : T} {A : Option Addr} {n c : Nat} {K : Option Addr} {m d : Nat} (h : Box w wr g t A n c K m d) : ∀ W, Ext wr.drew W → W.cell? ⟨g, 2, none⟩ = some (.slice K m d) :=
  fun _ hW => (hW.cell (p := ⟨g, 2, none⟩) h.blk.lt).trans (h.blk.cell 2)
theorem cell_later {wr : World} {b o : Nat} {v : Value} (h : wr.cell? ⟨b, o, none⟩ = some v) : ∀ W, Ext wr.drew W → W.cell? ⟨b, o, none⟩ = some v := by
  intro W hW
  have hb : b < wr.heap.size := by
    rcases Nat.lt_or_ge b wr.heap.size with h' | h'
    · exact h'
    · simp [World.cell?, Array.getElem?_eq_none h'] at h
  exact (hW.cell (p := ⟨b, o, none⟩) hb).trans h

theorem Box.wider {w wr : World} {o : Obj} {t : T} {A : Option Addr} {n c : Nat} {K : Option Addr} {m d : Nat} (h : Box (w.alloc o) wr (w.alloc o).heap.size t A n c K m d) : Box w wr (w.heap.size + 1) t A n c K m d := by
  have e : (w.alloc o).heap.size = w.heap.size + 1 := by simp
  exact ⟨by omega, e ▸ h.blk, (((Below.refl _ _).alloc (Nat.le_refl _) o : Below w.heap.size w (w.alloc o))).trans (h.below.mono (by omega)), h.has⟩

set_option maxHeartbeats 4000000 in
theorem same_any (x : T) : ∀ (y : T) (u v : Value) (w : World), x.In w u → y.In w v →
    Calls Try.prog 12 #[u, v] w fun e w' => e = .returned (.bool (sameT x y)) ∧ Below w.heap.size w w' := by
  refine T.each (p := fun x => ∀ (y : T) (u v : Value) (w : World), x.In w u → y.In w v → Calls Try.prog 12 #[u, v] w fun e w' => e = .returned (.bool (sameT x y)) ∧ Below w.heap.size w w') ?_ x
  clear x
  intro x ih y u v w hx hy
  obtain ⟨A, n, c, K, m, d, rfl, wx, rx, hn, hc, hm, hm', hks⟩ := hx.open
  obtain ⟨A2, n2, c2, K2, m2, d2, rfl, wy, ry, hn2, hc2, hk2, hm2, hks2⟩ := hy.open
  have IH := Lib.hid ih
  have BX := Lib.hid ((Box.start hx).go ((Below.refl _ _).alloc (Nat.le_refl _) (.cells #[.int .i64 y.tag, .slice A2 n2 c2, .slice K2 m2 d2] 26)))
  have BY := Lib.hid (Box.start (w := w.alloc (.cells #[.int .i64 x.tag, .slice A n c, .slice K m d] 26)) (T.In.below ((Below.refl _ _).alloc (Nat.le_refl _) _) y hy))
  have B2 : Hid (Below w.heap.size w ((w.alloc (.cells #[.int .i64 x.tag, .slice A n c, .slice K m d] 26)).alloc (.cells #[.int .i64 y.tag, .slice A2 n2 c2, .slice K2 m2 d2] 26))) := ((Below.refl _ _).alloc (Nat.le_refl _) _).alloc (by simp) _
  have SE := Lib.hid (sameT_eq x y)
  have HM := Lib.hid hm
  have HM2 := Lib.hid hk2
  unfold maxLen at hm' hm2 hn hn2
  clear hks hks2 hc hc2 ih
  by_cases e1 : x.tag = y.tag
  rotate_left
  · have t1 : (x.tag != y.tag) = true := by simpa using e1
    have F : Hid (sameT x y = false) := by rw [SE.out]; simp [e1, Hid]
    clear hm hk2 e1
    go_enter Try.func12, Try.ntmps12
    go_wp2_with fail
    go_ret
    exact ⟨ret_bool F.out.symm, B2.out⟩
  have E1 := Lib.hid e1
  have t1 : (x.tag != y.tag) = false := by simpa using e1
  have kx := conv_at c ((rx.below (w' := w.alloc (.cells #[.int .i64 x.tag, .slice A n c, .slice K m d] 26)) ((Below.refl _ _).alloc (Nat.le_refl _) _)).below ((Below.refl _ _).alloc (Nat.le_refl _) (.cells #[.int .i64 y.tag, .slice A2 n2 c2, .slice K2 m2 d2] 26)))
  have ky := conv_at c2 ((ry.below (w' := w.alloc (.cells #[.int .i64 x.tag, .slice A n c, .slice K m d] 26)) ((Below.refl _ _).alloc (Nat.le_refl _) _)).below ((Below.refl _ _).alloc (Nat.le_refl _) (.cells #[.int .i64 y.tag, .slice A2 n2 c2, .slice K2 m2 d2] 26)))
  have ts := strs_test rx.2.1 ry.2.1
  by_cases e2 : x.body = y.body
  rotate_left
  · have F : Hid (sameT x y = false) := by rw [SE.out]; simp [e2, Hid]
    have t2 : (x.body == y.body) = false := by simpa using e2
    rw [t2] at ts
    clear hm hk2 e1 e2 t2
    go_enter Try.func12, Try.ntmps12
    go_wp2_with fail
    go_ret
    exact ⟨ret_bool F.out.symm, B2.out⟩
  have E2 := Lib.hid e2
  have t2 : (x.body == y.body) = true := by simpa using e2
  rw [t2] at ts
  clear t2 e1 e2
  by_cases e3 : m = m2
  rotate_left
  · have F : Hid (sameT x y = false) := by rw [SE.out]; simp [HM.out, HM2.out, e3, Hid]
    have t3 : ((m : Int) != (m2 : Int)) = true := by simp; omega
    clear hm hk2 e3
    go_enter Try.func12, Try.ntmps12
    go_wp2_with fail
    go_ret
    exact ⟨ret_bool F.out.symm, B2.out⟩
  subst e3
  have SA : Hid (sameT x y = sameAll x.kids y.kids) := by rw [SE.out]; simp [HM.out, HM2.out, E1.out, E2.out, Hid]
  clear hm hk2 SE E1 E2
  go_enter Try.func12, Try.ntmps12
  go_wp2_with fail
  clear kx ky ts
  go_loopw [5] (fun i wr => ∃ k : Nat, k ≤ m ∧ i = .int .i64 (k : Int) ∧ sameT x y = sameAll (x.kids.drop k) (y.kids.drop k) ∧ Box w wr w.heap.size x A n c K m d ∧ Box w wr (w.heap.size + 1) y A2 n2 c2 K2 m d2) (fun i _ => m - (intOf i).toNat)
  case atStart => exact ⟨0, by omega, rfl, SA.out, BX.out, Box.wider BY.out⟩
  case round =>
    obtain ⟨k, hk, rfl, hs, hbx, hby⟩ := hrel
    have HS := Lib.hid hs
    have HX := Lib.hid hbx
    have HY := Lib.hid hby
    have gx := hbx.cells.2.2
    have gy := hby.cells.2.2
    clear hs hbx hby SA BX BY B2
    by_cases hlt : k < m
    · obtain ⟨p, b, off, z, A', n', c', K', m', d', hp, rfl, p0, p1, p2, hpin⟩ := HX.out.kid k hlt
      obtain ⟨q, b2, off2, z2, A2', n2', c2', K2', m2', d2', hq, rfl, q0, q1, q2, hqin⟩ := HY.out.kid k hlt
      have ST := Lib.hid (HS.out.trans (same_drop hp hq))
      have lx := HX.out.later
      have ly := HY.out.later
      have l0 := cell_later p0
      have l1 := cell_later p1
      have l2 := cell_later p2
      have r0 := cell_later q0
      have r1 := cell_later q1
      have r2 := cell_later q2
      have CI := Lib.hid (fun W (hW : Ext wr.drew W) => IH.out p (List.mem_of_getElem? hp) q _ _ W (T.In.below (Ext.of_drew hW) p hpin) (T.In.below (Ext.of_drew hW) q hqin))
      clear HS hp hq hpin hqin p0 p1 p2 q0 q1 q2 IH
      go_wp2_with fail
      clear gx gy
      refine wp_region_ord Ext Ext.refl (fun _ _ _ => Ext.trans) ((0, false) :: (1, false) :: (2, false) :: (3, false) :: (4, false) :: (5, false) :: (6, false) :: (7, false) :: (8, false) :: (9, false) :: (10, true) :: (11, false) :: []) (by kernel_rfl) (by kernel_rfl) rfl (by kernel_rfl) (fun _ _ _ _ _ h => h) ?_
      repeat (refine ord_take _ rfl (by rfl) (fun W hW => by go_simp; first | done | rfl) ?_; simp only [Act.put, List.setIfInBounds_toArray, List.set_cons_zero, List.set_cons_succ])
      clear lx ly l0 l1 l2 r0 r1 r2
      refine ord_sole rfl (by rfl) (fun K1 hK1 => ?_)
      go_simp
      refine (CI.out _ (Ext.refl _)).mono ?_
      rintro e v1 ⟨rfl, hb1⟩
      refine hK1 _ _ hb1 ?_
      clear hK1 K1
      have B1 := Lib.hid (Ext.of_drew hb1)
      clear hb1 CI
      cases hsame : sameT p q
      · have F : Hid (sameT x y = false) := by rw [ST.out, hsame]; rfl
        have BB := Lib.hid (Below.step HX.out.below B1.out)
        clear hsame ST HX HY
        repeat (refine ord_take _ rfl (by rfl) (fun W hW => by go_simp; first | done | rfl) ?_; simp only [Act.put, List.setIfInBounds_toArray, List.set_cons_zero, List.set_cons_succ])
        refine ord_end ?_
        go_wp2_with fail
        go_ret
        exact ⟨ret_bool F.out.symm, BB.out⟩
      · have N : Hid (sameT x y = sameAll (x.kids.drop (k + 1)) (y.kids.drop (k + 1))) := by rw [ST.out, hsame]; simp [Hid]
        clear hsame ST
        have HX2 := Lib.hid (HX.out.go B1.out)
        have HY2 := Lib.hid (HY.out.go B1.out)
        clear HX HY B1
        repeat (refine ord_take _ rfl (by rfl) (fun W hW => by go_simp; first | done | rfl) ?_; simp only [Act.put, List.setIfInBounds_toArray, List.set_cons_zero, List.set_cons_succ])
        refine ord_end ?_
        go_wp2_with fail
        go_roundw
        case rel => exact ⟨k + 1, by omega, by go_num, N.out, HX2.out, HY2.out⟩
        case measure => simp [intOf]; omega
    · have F : Hid (sameT x y = true) := by rw [HS.out, same_end (by rw [HM.out]; omega)]; exact Lib.hid rfl
      clear HS
      go_wp2_with fail
      go_ret
      exact ⟨ret_bool F.out.symm, HX.out.below⟩

end Go.Proofs.Ytefdfdnfpacfjaa
