/-
  What the reference's within, Tag, length and Size answer, for stage 4 (tlv).
-/
import Derived.Test.YtefdfdnfpacfjaaPlain
import Derived.Test.YtefdfdnfpacfjaaOut
import Derived.Test.YtefdfdnfpacfjaaOpen
namespace Go.Proofs.Ytefdfdnfpacfjaa
open Go.RowKit

set_option maxHeartbeats 400000 in
theorem within_any (z : Int) (w : World) (hz : (Lit.int .i64 z).wf = true) : Calls Try.prog 27 #[.int .i64 z] w fun e w' => e = .returned (.bool (withinB z)) ∧ w = w' := by
  have hb := bounds_i64 hz
  go_enter Try.func27, Try.ntmps27
  go_wp2_with fail
  go_ret
  exact ⟨rfl, rfl⟩

set_option maxHeartbeats 400000 in
theorem tag_any (z : Int) (w : World) (hz : (Lit.int .i64 z).wf = true) : Calls Try.prog 35 #[.int .i64 z] w fun e w' => e = .returned (.bool (tagB z)) ∧ w = w' := by
  have hb := bounds_i64 hz
  by_cases h0 : 0 ≤ z
  · by_cases h1 : z < 256
    · have F : Hid (tagB z = (z % 32 != 31)) := by simp [tagB, h0, h1, Hid]
      go_enter Try.func35, Try.ntmps35
      go_wp2_with fail
      go_ret
      exact ⟨ret_bool F.out.symm, rfl⟩
    · have F : Hid (tagB z = false) := by simp [tagB, h1, Hid]
      go_enter Try.func35, Try.ntmps35
      go_wp2_with fail
      go_ret
      exact ⟨ret_bool F.out.symm, rfl⟩
  · have F : Hid (tagB z = false) := by simp [tagB, h0, Hid]
    go_enter Try.func35, Try.ntmps35
    go_wp2_with fail
    go_ret
    exact ⟨ret_bool F.out.symm, rfl⟩

def GivesLen (z : Int) (w : World) (e : Ending) (w' : World) : Prop :=
  ∃ a c, e = .returned (.slice (some a) (lenB z).length c) ∧ Row w' (some a) (lenB z).length (lenB z) ∧ Below w.heap.size w w'
theorem gives_len {z : Int} {w : World} {zs : List Int} {n : Nat} (hz : lenB z = zs) (h0 : 0 ≤ z) (hn : n = zs.length) : GivesLen z w (.returned (.slice (some ⟨w.heap.size, 0, none⟩) n n)) (w.alloc (.cells (zs.map (Value.int .u8)).toArray 5 (0, 0))) := by
  subst hz
  subst hn
  exact ⟨_, _, rfl, row_const w (lenB z) (0, 0) (lenB_byte h0), (Below.refl _ _).alloc (Nat.le_refl _) _⟩
set_option maxHeartbeats 400000 in
theorem length_any (z : Int) (w : World) (h0 : 0 ≤ z) (h1 : z ≤ 1000000) : Calls Try.prog 28 #[.int .i64 z] w (GivesLen z w) := by
  by_cases c1 : z < 128
  · go_enter Try.func28, Try.ntmps28
    go_wp2_with fail
    go_ret
    exact gives_len (zs := [z]) (by simp [lenB, c1]) h0 rfl
  by_cases c2 : z < 256
  · go_enter Try.func28, Try.ntmps28
    go_wp2_with fail
    go_ret
    exact gives_len (zs := [129, z]) (by rw [lenB, if_neg (by omega), if_pos c2]) h0 rfl
  · have F : Hid (lenB z = [130, z / 256 % 256, z % 256]) := by simp [lenB, c1, c2, Hid]
    go_enter Try.func28, Try.ntmps28
    go_wp2_with fail
    go_ret
    exact gives_len (zs := [130, z / 256 % 256, z % 256]) F.out h0 rfl

def GivesSize (t : T) (w : World) (e : Ending) (w' : World) : Prop :=
  e = .returned (.tuple #[.int .i64 (bytesT t), .int .i64 (manyT t), .int .i64 (deepT t)]) ∧ Below w.heap.size w w'
theorem size_kid {ks : List T} {i : Nat} {k : T} (h : ks[i]? = some k) : bytesAll (ks.drop i) = bytesT k + bytesAll (ks.drop (i + 1)) ∧ manyAll (ks.drop i) = manyT k + manyAll (ks.drop (i + 1)) := by
  obtain ⟨hi, rfl⟩ := List.getElem?_eq_some_iff.1 h
  rw [List.drop_eq_getElem_cons hi, bytesAll, manyAll]
  exact ⟨rfl, rfl⟩
theorem deep_kid {ks : List T} {i : Nat} {k : T} (h : ks[i]? = some k) : deepAll (ks.drop i) = if deepAll (ks.drop (i + 1)) < deepT k then deepT k else deepAll (ks.drop (i + 1)) := by
  obtain ⟨hi, rfl⟩ := List.getElem?_eq_some_iff.1 h
  rw [List.drop_eq_getElem_cons hi, deepAll]
theorem size_end {ks : List T} {i : Nat} (h : ks.length ≤ i) : bytesAll (ks.drop i) = 0 ∧ manyAll (ks.drop i) = 0 ∧ deepAll (ks.drop i) = 0 := by
  rw [List.drop_of_length_le h, bytesAll, manyAll, deepAll]
  exact ⟨rfl, rfl, rfl⟩
/-- Where the loop over the elements within one stands. -/
def SizeRel (t : T) (k : Nat) (a b z : Int) : Prop :=
  a + bytesAll (t.kids.drop k) = bytesAll t.kids ∧ b + manyAll (t.kids.drop k) = 1 + manyAll t.kids ∧ 0 ≤ a ∧ 0 ≤ b ∧ 0 ≤ z ∧
  (deepAll (t.kids.drop k) ≤ z → deepAll t.kids = z) ∧ (z ≤ deepAll (t.kids.drop k) → deepAll t.kids = deepAll (t.kids.drop k))
theorem sr_start (t : T) : SizeRel t 0 0 1 0 := by
  have := dpAll_ge t.kids
  have h := bytesAll_range t.kids
  unfold SizeRel
  rw [List.drop_zero]
  omega
theorem drop_range (t : T) (k : Nat) : 0 ≤ bytesAll (t.kids.drop k) ∧ 0 ≤ manyAll (t.kids.drop k) ∧ 0 ≤ deepAll (t.kids.drop k) := by
  have h := bytesAll_range (t.kids.drop k)
  omega
theorem sr_step {t x : T} {k : Nat} {a b z z' : Int} (h : SizeRel t k a b z) (hx : t.kids[k]? = some x) (hz : (z' = z ∧ deepT x ≤ z) ∨ (z' = deepT x ∧ z ≤ deepT x)) : SizeRel t (k + 1) (a + bytesT x) (b + manyT x) z' := by
  obtain ⟨h1, h2, h3, h4, h5, h6, h7⟩ := h
  obtain ⟨e1, e2⟩ := size_kid hx
  have e3 := deep_kid hx
  have hr := drop_range t (k + 1)
  have hx := size_le x
  rw [e1] at h1
  rw [e2] at h2
  rw [e3] at h6 h7
  unfold SizeRel
  refine ⟨by omega, by omega, by omega, by omega, by omega, ?_, ?_⟩
  · intro h
    split at h6
    · split at h7 <;> omega
    · split at h7 <;> omega
  · intro h
    split at h6
    · split at h7 <;> omega
    · split at h7 <;> omega
theorem sr_end {t : T} {k : Nat} {a b z : Int} (h : SizeRel t k a b z) (hk : t.kids.length ≤ k) : a = bytesAll t.kids ∧ b = 1 + manyAll t.kids ∧ z = deepAll t.kids := by
  obtain ⟨h1, h2, h3, h4, h5, h6, h7⟩ := h
  obtain ⟨e1, e2, e3⟩ := size_end hk
  omega
theorem sr_bound {t : T} {k : Nat} {a b z : Int} (h : SizeRel t k a b z) (hw : wt t < 30000) : a ≤ 150000 ∧ b ≤ 30000 ∧ z ≤ 30000 ∧ 0 ≤ a ∧ 0 ≤ b ∧ 0 ≤ z := by
  obtain ⟨h1, h2, h3, h4, h5, h6, h7⟩ := h
  have hr := drop_range t k
  have h8 := bytesAll_range t.kids
  have := wt_eq t
  omega
theorem wt_kid {t x : T} (hx : x ∈ t.kids) : wt x < wt t := by
  have := wtAll_mem hx
  have := wt_eq t
  omega

theorem lenB_three (c : Int) : (lenB c).length ≤ 3 := by
  have := lenB_length c
  have := lenLen_range c
  omega
theorem gives_size {t : T} {w w' : World} {a b z : Int} (h1 : a = bytesT t) (h2 : b = manyT t) (h3 : z = deepT t) (hb : Below w.heap.size w w') : GivesSize t w (.returned (.tuple #[.int .i64 a, .int .i64 b, .int .i64 z])) w' := by
  subst h1
  subst h2
  subst h3
  exact ⟨rfl, hb⟩

set_option maxHeartbeats 4000000 in
theorem size_any (t : T) : ∀ (v : Value) (w : World), t.In w v → wt t < 30000 → Calls Try.prog 17 #[v] w (GivesSize t w) := by
  refine T.each (p := fun t => ∀ (v : Value) (w : World), t.In w v → wt t < 30000 → Calls Try.prog 17 #[v] w (GivesSize t w)) ?_ t
  clear t
  intro t ih v w hin hwt
  obtain ⟨A, n, c, K, m, d, rfl, hw, hr, hn, hc, hm, hm', hks⟩ := hin.open
  have BX := Lib.hid (Box.start hin)
  have IH := Lib.hid ih
  have HM := Lib.hid hm
  have BL := Lib.hid hr.1
  have EB := Lib.hid (bytesT_eq t)
  have EM := Lib.hid (manyT_eq t)
  have ED := Lib.hid (deepT_eq t)
  have hir := inT_range t
  clear hin ih hr hc hm hks
  unfold maxLen at hn hm'
  cases hwi : withinB t.tag
  · have HI : Hid (inT t = n) := by rw [inT, hwi, BL.out]; simp [Hid]
    rw [HI.out] at hir EB
    rw [hwi] at EM ED
    have WI := Lib.hid hwi
    clear hwi
    go_enter Try.func17, Try.ntmps17
    go_wp2_with fail
    refine (within_any t.tag _ hw).mono ?_
    rintro e w2 ⟨rfl, rfl⟩
    rw [WI.out]
    go_wp2_with fail
    refine (length_any _ _ (by omega) (by omega)).mono ?_
    rintro e w2 ⟨a2, cc2, rfl, hrow, hb2⟩
    have B2 := Lib.hid (Below.step BX.out.below hb2)
    have LL := Lib.hid (lenB_length (n : Int))
    have hl3 := lenB_three (n : Int)
    clear hrow hb2
    generalize (lenB (n : Int)).length = L at LL hl3
    go_wp2_with fail
    go_ret3
    exact gives_size (by rw [EB.out, LL.out]) (by rw [EM.out]; rfl) (by rw [ED.out]; rfl) B2.out
  · have HI : Hid (inT t = bytesAll t.kids) := by rw [inT, hwi]; simp [Hid]
    rw [HI.out] at hir EB
    rw [hwi] at EM ED
    have WI := Lib.hid hwi
    clear hwi
    go_enter Try.func17, Try.ntmps17
    go_wp2_with fail
    refine (within_any t.tag _ hw).mono ?_
    rintro e w2 ⟨rfl, rfl⟩
    rw [WI.out]
    go_wp2_with fail
    go_loopw [5, 6, 7, 8] (fun a b z i wr => ∃ (k : Nat) (a' b' z' : Int), k ≤ m ∧ i = .int .i64 (k : Int) ∧ a = .int .i64 a' ∧ b = .int .i64 b' ∧ z = .int .i64 z' ∧ SizeRel t k a' b' z' ∧ Box w wr w.heap.size t A n c K m d) (fun _ _ _ i _ => m - (intOf i).toNat)
    case atStart => exact ⟨0, _, _, _, by omega, rfl, rfl, rfl, rfl, sr_start t, BX.out⟩
    case round =>
      obtain ⟨k, a, b, z, hk, rfl, rfl, rfl, rfl, hsr, hbox⟩ := hrel
      have SR := Lib.hid hsr
      have HB := Lib.hid hbox
      have hbd := sr_bound hsr hwt
      obtain ⟨g0, g1, g2⟩ := hbox.cells
      clear hsr hbox BX
      by_cases hlt : k < m
      · obtain ⟨x, bb, off, zz, A', n', c', K', m', d', hx, rfl, c0, c1, c2, hxin⟩ := HB.out.kid k hlt
        have hxm := List.mem_of_getElem? hx
        have hwx := wt_kid hxm
        have hsx := size_le x
        have ST := Lib.hid (fun z' hz' => sr_step (z' := z') SR.out hx hz')
        have CI := Lib.hid (IH.out x hxm _ wr hxin (by omega))
        clear hx hxin hxm
        go_wp2_with fail
        refine CI.out.mono ?_
        rintro e w2 ⟨rfl, hb2⟩
        have HB2 := Lib.hid (HB.out.go hb2)
        clear hb2
        go_wp2_with fail
        all_goals
          go_roundw
          case rel => exact ⟨k + 1, _, _, _, by omega, by go_num, rfl, rfl, rfl, ST.out _ (by omega), HB2.out⟩
          case measure => simp [intOf]; omega
      · have SE := Lib.hid (sr_end SR.out (by rw [HM.out]; omega))
        have hle := SE.out
        obtain ⟨rfl, rfl, rfl⟩ := hle
        clear SR SE
        go_wp2_with fail
        refine (length_any _ _ (by omega) (by omega)).mono ?_
        rintro e w2 ⟨a2, cc2, rfl, hrow, hb2⟩
        have B2 := Lib.hid (Below.step HB.out.below hb2)
        have LL := Lib.hid (lenB_length (bytesAll t.kids))
        have hl3 := lenB_three (bytesAll t.kids)
        clear hrow hb2
        generalize (lenB (bytesAll t.kids)).length = L at LL hl3
        go_wp2_with fail
        go_ret3
        exact gives_size (by rw [EB.out, LL.out]) (by rw [EM.out]; rfl) (by rw [ED.out]; rfl) B2.out

end Go.Proofs.Ytefdfdnfpacfjaa
