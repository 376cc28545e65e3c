/-
  What the package's Size answers, for stage 4 (tlv).
-/
import Derived.Test.YtefdfdnfpacfjaaSmall
namespace Go.Proofs.Ytefdfdnfpacfjaa
open Go.RowKit

/-- A box that a round lays: an element that was read. -/
def boxW (w : World) (z : Int) (A : Option Addr) (n c : Nat) (K : Option Addr) (m d : Nat) : World := w.alloc (.cells #[.int .i64 z, .slice A n c, .slice K m d] 26)
theorem boxW_below (w : World) (z : Int) (A : Option Addr) (n c : Nat) (K : Option Addr) (m d : Nat) : Below w.heap.size w (boxW w z A n c K m d) := (Below.refl _ _).alloc (Nat.le_refl _) _

theorem sr_big {t : T} {k : Nat} {a b z : Int} (h : SizeRel t k a b z) (hw : wt t < 1000000) : a ≤ 5000000 ∧ b ≤ 1000000 ∧ z ≤ 1000000 ∧ 0 ≤ a ∧ 0 ≤ b ∧ 0 ≤ z := by
  obtain ⟨h1, h2, h3, h4, h5, h6, h7⟩ := h
  have hr := drop_range t k
  have h8 := bytesAll_range t.kids
  have := wt_eq t
  omega

set_option maxHeartbeats 4000000 in
theorem tsize_big (t : T) : ∀ (v : Value) (w : World), t.In w v → wt t < 1000000 → Calls Try.prog 16 #[v] w (GivesSize t w) := by
  refine T.each (p := fun t => ∀ (v : Value) (w : World), t.In w v → wt t < 1000000 → Calls Try.prog 16 #[v] w (GivesSize t w)) ?_ t
  clear t
  intro t ih v w hin hwt
  obtain ⟨A, n, c, K, m, d, rfl, hw, hr, hn, hc, hm, hm', hks⟩ := hin.open
  have BX := Lib.hid (Box.start hin)
  have IH := Lib.hid ih
  have HM := Lib.hid hm
  have BL := Lib.hid hr.1
  have EB := Lib.hid (bytesT_eq t)
  have EM := Lib.hid (manyT_eq t)
  have ED := Lib.hid (deepT_eq t)
  have hir := inT_range t
  clear hin ih hr hc hm hks
  unfold maxLen at hn hm'
  cases hwi : withinB t.tag
  · have HI : Hid (inT t = n) := by rw [inT, hwi, BL.out]; simp [Hid]
    rw [HI.out] at hir EB
    rw [hwi] at EM ED
    have WI := Lib.hid hwi
    clear hwi
    go_enter Try.func16, Try.ntmps16
    go_wp2_with fail
    refine (twithin_any t.tag _ hw).mono ?_
    rintro e w2 ⟨rfl, rfl⟩
    rw [WI.out]
    go_wp2_with fail
    refine (tsizeWith_any _ _ (by omega) (by omega)).mono ?_
    rintro e w2 ⟨rfl, hb2⟩
    have B2 := Lib.hid (Below.step BX.out.below hb2)
    clear hb2
    go_wp2_with fail
    go_ret3
    exact gives_size (by rw [EB.out]) (by rw [EM.out]; rfl) (by rw [ED.out]; rfl) B2.out
  · have HI : Hid (inT t = bytesAll t.kids) := by rw [inT, hwi]; simp [Hid]
    rw [HI.out] at hir EB
    rw [hwi] at EM ED
    have WI := Lib.hid hwi
    clear hwi
    go_enter Try.func16, Try.ntmps16
    go_wp2_with fail
    refine (twithin_any t.tag _ hw).mono ?_
    rintro e w2 ⟨rfl, rfl⟩
    rw [WI.out]
    go_wp2_with fail
    go_loopw [3, 4, 5, 22] (fun b z a i wr => ∃ (k : Nat) (a' b' z' : Int), k ≤ m ∧ i = .int .i64 (k : Int) ∧ a = .int .i64 a' ∧ b = .int .i64 b' ∧ z = .int .i64 z' ∧ SizeRel t k a' (b' + 1) z' ∧ Box w wr w.heap.size t A n c K m d) (fun _ _ _ i _ => m - (intOf i).toNat)
    case atStart => exact ⟨0, _, _, _, by omega, rfl, rfl, rfl, rfl, sr_start t, BX.out⟩
    case round =>
      obtain ⟨k, a, b, z, hk, rfl, rfl, rfl, rfl, hsr, hbox⟩ := hrel
      have SR := Lib.hid hsr
      have HB := Lib.hid hbox
      have hbd := sr_big hsr hwt
      have hb0 : 0 ≤ b := by
        have h := hsr.2.1
        have h2 := (drop_range t k).2.1
        have h3 := bytesAll_range (t.kids.take k)
        have h4 : manyAll (t.kids.drop k) ≤ manyAll t.kids := by
          have : ∀ (l : List T) (j : Nat), manyAll (l.drop j) ≤ manyAll l := by
            intro l
            induction l with
            | nil => intro j; simp
            | cons x r ih =>
              intro j
              cases j with
              | zero => exact Int.le_refl _
              | succ j =>
                rw [List.drop_succ_cons]
                have h1 := ih j
                have h2 := size_le x
                rw [manyAll]
                omega
          exact this _ _
        omega
      obtain ⟨g0, g1, g2⟩ := hbox.cells
      clear hsr hbox BX
      by_cases hlt : k < m
      · obtain ⟨x, bb, off, zz, A', n', c', K', m', d', hx, rfl, c0, c1, c2, hxin⟩ := HB.out.kid k hlt
        have hxm := List.mem_of_getElem? hx
        have hwx := wt_kid hxm
        have hsx := size_le x
        have ST : Hid (∀ z', ((z' = z ∧ deepT x ≤ z) ∨ (z' = deepT x ∧ z ≤ deepT x)) → SizeRel t (k + 1) (a + bytesT x) (b + manyT x + 1) z') := by
          intro z' hz'
          have h := sr_step SR.out hx hz'
          rw [show b + 1 + manyT x = b + manyT x + 1 by omega] at h
          exact h
        have HB1 := Lib.hid (HB.out.go (boxW_below wr zz A' n' c' K' m' d'))
        have CI := Lib.hid (IH.out x hxm _ (boxW wr zz A' n' c' K' m' d') (T.In.below (boxW_below wr zz A' n' c' K' m' d') _ hxin) (by omega))
        unfold boxW at HB1 CI
        clear hx hxin hxm
        go_wp2_with fail
        refine CI.out.mono ?_
        rintro e w2 ⟨rfl, hb2⟩
        have HB2 := Lib.hid (HB1.out.go hb2)
        clear hb2
        go_wp2_with fail
        all_goals
          go_roundw
          case rel => exact ⟨k + 1, _, _, _, by omega, by go_num, rfl, rfl, rfl, ST.out _ (by omega), HB2.out⟩
          case measure => simp [intOf]; omega
      · have SE := Lib.hid (sr_end SR.out (by rw [HM.out]; omega))
        have hle := SE.out
        obtain ⟨rfl, hbm, rfl⟩ := hle
        obtain rfl : b = manyAll t.kids := by omega
        clear SR SE hbm
        go_wp2_with fail
        refine (tsizeWith_any _ _ (by omega) (by omega)).mono ?_
        rintro e w2 ⟨rfl, hb2⟩
        have B2 := Lib.hid (Below.step HB.out.below hb2)
        clear hb2
        go_wp2_with fail
        go_ret3
        exact gives_size (by rw [EB.out]) (by have h := EM.out; simp only [if_true] at h; omega) (by rw [ED.out]; rfl) B2.out

theorem tsize_any (t : T) (v : Value) (w : World) (hin : t.In w v) (hwt : wt t < 30000) : Calls Try.prog 16 #[v] w (GivesSize t w) := tsize_big t v w hin (by omega)

end Go.Proofs.Ytefdfdnfpacfjaa
