/-
  The walk of the law TlvDeep.
-/
import Derived.Test.YtefdfdnfpacfjaaBackWalk
namespace Go.Proofs.Ytefdfdnfpacfjaa
open Go.RowKit
set_option linter.unusedVariables false

/-- Where the loop that lays elements within one another stands. -/
structure DMid (w wr : World) (g k : Nat) (K : Option Addr) (m d : Nat) : Prop where
  blk : Blk wr g 26 #[.int .i64 (nest k).tag, .slice none 0 0, .slice K m d]
  has : (nest k).InP (g < ·) wr (.agg #[.int .i64 (nest k).tag, .slice none 0 0, .slice K m d])
  below : Below w.heap.size w wr
  hg : w.heap.size ≤ g
theorem DMid.start {w w2 : World} (hb : Below w.heap.size w w2) : DMid w (w2.alloc (.cells #[.int .i64 5, .slice none 0 0, .slice none 0 0] 26)) w2.heap.size 0 none 0 0 := by
  refine ⟨Blk.new _ _ _, ?_, Below.step hb ((Below.refl _ _).alloc (Nat.le_refl _) _), hb.size⟩
  show (T.node 5 [] []).InP _ _ _
  unfold T.InP
  exact ⟨none, 0, 0, none, 0, 0, rfl, rfl, Row.nil _ _, Nat.zero_le _, fun _ => rfl, rfl, Nat.zero_le _, fun h => absurd h (by omega), fun h => absurd h (by omega)⟩
/-- One round. -/
def deepW (wr : World) (g : Nat) (z : Int) (K : Option Addr) (m d : Nat) : World :=
  (((wr.alloc (.cells #[.int .i64 z, .slice none 0 0, .slice K m d] 26)).setCell ⟨g, 0, none⟩ (.int .i64 48)).setCell ⟨g, 1, none⟩ (.slice none 0 0)).setCell ⟨g, 2, none⟩ (.slice (some ⟨wr.heap.size, 0, none⟩) 1 1)
theorem DMid.next {w wr : World} {g k : Nat} {K : Option Addr} {m d : Nat} (h : DMid w wr g k K m d) : DMid w (deepW wr g (nest k).tag K m d) g (k + 1) (some ⟨wr.heap.size, 0, none⟩) 1 1 := by
  have hlt := h.blk.lt
  have hne : wr.heap.size ≠ g := by omega
  have hnew : Blk (deepW wr g (nest k).tag K m d) wr.heap.size 26 #[.int .i64 (nest k).tag, .slice none 0 0, .slice K m d] :=
    (((Blk.new wr _ _).far hne 0 _).far hne 1 _).far hne 2 _
  refine ⟨(((h.blk.alloc _).set 0 _).set 1 _).set 2 _, ?_, ?_, h.hg⟩
  · show (T.node 48 [] [nest k]).InP _ _ _
    unfold T.InP
    refine ⟨none, 0, 0, some ⟨wr.heap.size, 0, none⟩, 1, 1, rfl, rfl, Row.nil _ _, Nat.zero_le _, fun _ => rfl, rfl, by unfold maxLen; omega, fun h => absurd h (by omega), fun _ => ⟨wr.heap.size, 0, rfl, hnew.lt, by omega, T.InPAll.of fun i hi => ?_⟩⟩
    obtain rfl : i = 0 := by simp at hi; exact hi
    refine ⟨_, _, _, hnew.cell 0, hnew.cell 1, hnew.cell 2, T.InP.keep (w := wr) (fun b hb hp => ⟨hp, ?_⟩) (by simp [deepW]) _ h.has⟩
    have hp' : g < b := hp
    have hx : b ≠ g := by omega
    unfold deepW
    rw [heap_setCell_other _ ⟨g, 2, none⟩ b _ hx, heap_setCell_other _ ⟨g, 1, none⟩ b _ hx, heap_setCell_other _ ⟨g, 0, none⟩ b _ hx]
    exact Below.heap_alloc wr _ b hb
  · exact (((h.below.alloc h.below.size _).setCell h.hg _).setCell h.hg _).setCell h.hg _

set_option maxHeartbeats 4000000 in
set_option maxRecDepth 100000 in
theorem deep_walk (a0 : Int) (w : World) (hw0 : (Lit.int .i64 a0).wf = true) :
    Calls Try.prog 7 #[.int .i64 a0] w fun e w' => e = .returned (.bool true) ∧ Below w.heap.size w w' := by
  have hb0 := bounds_i64 hw0
  have RD := Lib.hid tread_any
  by_cases h0 : a0 < 0
  · go_enter Try.func7, Try.ntmps7
    go_wp2_with fail
    refine (awake_any _).mono ?_
    rintro e w2 ⟨rfl, hb2⟩
    have B2 := Lib.hid hb2
    clear hb2
    go_wp2
    go_ret
    exact ⟨rfl, B2.out⟩
  by_cases h5 : 50 < a0
  · have t0 : decide (a0 < 0) = false := by simp; omega
    go_enter Try.func7, Try.ntmps7
    go_wp2_with fail
    refine (awake_any _).mono ?_
    rintro e w2 ⟨rfl, hb2⟩
    have B2 := Lib.hid hb2
    clear hb2
    go_wp2
    go_ret
    exact ⟨rfl, B2.out⟩
  obtain ⟨n, rfl⟩ := Int.eq_ofNat_of_zero_le (show 0 ≤ a0 by omega)
  have hn : n ≤ 50 := by omega
  clear h0 h5 hb0
  go_enter Try.func7, Try.ntmps7
  go_wp2_with fail
  refine (awake_any _).mono ?_
  rintro e w2 ⟨rfl, hb2⟩
  have M0 := Lib.hid (DMid.start hb2)
  clear hb2
  go_wp2_with fail
  go_loopw [5] (fun i wr => ∃ (k : Nat) (K : Option Addr) (m d : Nat), k ≤ n ∧ i = .int .i64 (k : Int) ∧ DMid w wr w2.heap.size k K m d) (fun i _ => n - (intOf i).toNat)
  case atStart => exact ⟨0, _, _, _, by omega, rfl, M0.out⟩
  case round =>
    obtain ⟨k, K, m, d, hk, rfl, hmid⟩ := hrel
    have MD := Lib.hid hmid
    obtain ⟨p0, p1, p2, f0, f1, f2⟩ := hmid.blk.facts
    clear hmid M0
    by_cases hlt : k < n
    · have MN := Lib.hid MD.out.next
      unfold deepW at MN
      obtain ⟨q0, q1, q2, g0, g1, g2⟩ := (MD.out.blk.alloc (.cells #[.int .i64 (nest k).tag, .slice none 0 0, .slice K m d] 26)).facts
      generalize (nest k).tag = tg at p0 MN q0 q1 q2 g0 g1 g2
      clear MD
      go_wp2_with fail
      go_roundw
      case rel => exact ⟨k + 1, _, _, _, by omega, by go_num, MN.out⟩
      case measure => simp [intOf]; omega
    · obtain rfl : k = n := by omega
      have I0 := Lib.hid (T.InP.in _ MD.out.has)
      have B0 := Lib.hid MD.out.below
      have K0 := Lib.hid MD.out.blk
      have WT : Hid (wt (nest k) < 30000) := by rw [nest_wt]; exact Lib.hid (by omega)
      have DP : Hid (deepT (nest k) = (k : Int) + 1) := nest_deep k
      have WTE : Hid (wt (nest k) = (k : Int) + 1) := nest_wt k
      have SR := Lib.hid (same_refl (nest k))
      have WO : Hid (k ≤ 31 → writeZ (nest k) = (layT (nest k), 0)) := fun h => nest_write h
      have WD : Hid (31 < k → writeZ (nest k) = ([], 4)) := fun h => nest_write_deep h
      generalize nest k = t at I0 K0 WT DP SR WO WD WTE p0
      clear MD
      by_cases h31 : 31 < k
      · have X := Lib.hid (WD.out h31)
        clear WO WD
        go_wp2_with fail
        refine (twrite_any t _ _ I0.out WT.out).mono ?_
        intro e w4 h4
        rw [X.out] at h4
        obtain ⟨a4, c4, rfl, hr4, hn4, hb4, hlc4⟩ := h4
        have B4 := Lib.hid (Below.step B0.out hb4)
        have K4 := Lib.hid (K0.out.below hb4 K0.out.lt)
        have I4 := Lib.hid (T.In.below hb4 _ I0.out)
        clear p0 p1 p2 f0 f1 f2 hr4 hn4 hb4 hlc4 B0 K0 I0
        obtain ⟨p0, p1, p2, f0, f1, f2⟩ := K4.out.facts
        go_wp2_with fail
        refine (tsize_any t _ _ I4.out WT.out).mono ?_
        rintro e w5 ⟨rfl, hb5⟩
        have B5 := Lib.hid (Below.step B4.out hb5)
        clear p0 p1 p2 f0 f1 f2 hb5 B4 K4 I4
        rw [DP.out]
        go_wp2
        go_ret
        exact ⟨by simp, B5.out⟩
      · have X := Lib.hid (WO.out (by omega))
        have RW : Hid (readZ (layT t) = .ok t) := by
          have h := read_write (t := t) (by rw [X.out])
          rw [X.out] at h
          exact h
        have LL : Hid ((layT t).length ≤ 30000) := by
          have h := lay_le t
          have h2 := WT.out
          have h3 : wt t = (k : Int) + 1 := WTE.out
          exact Lib.hid (by omega)
        clear WO WD
        go_wp2_with fail
        refine (twrite_any t _ _ I0.out WT.out).mono ?_
        intro e w4 h4
        rw [X.out] at h4
        obtain ⟨a4, c4, rfl, hr4, hn4, hb4, hlc4⟩ := h4
        simp only at hr4 hb4 hlc4 ⊢
        have B4 := Lib.hid (Below.step B0.out hb4)
        have K4 := Lib.hid (K0.out.below hb4 K0.out.lt)
        have I4 := Lib.hid (T.In.below hb4 _ I0.out)
        have R4 := Lib.hid hr4
        have N4 := Lib.hid hn4
        have LC := Lib.hid hlc4
        clear p0 p1 p2 f0 f1 f2 hr4 hn4 hb4 hlc4 B0 K0 I0 X
        generalize layT t = xb at R4 LC RW LL
        obtain ⟨p0, p1, p2, f0, f1, f2⟩ := K4.out.facts
        go_wp2_with fail
        refine (tsize_any t _ _ I4.out WT.out).mono ?_
        rintro e w5 ⟨rfl, hb5⟩
        have B5 := Lib.hid (Below.step B4.out hb5)
        have K5 := Lib.hid (K4.out.below hb5 K4.out.lt)
        have I5 := Lib.hid (T.In.below hb5 _ I4.out)
        have R5 := Lib.hid (R4.out.below hb5)
        clear p0 p1 p2 f0 f1 f2 hb5 B4 K4 I4 R4
        rw [DP.out]
        go_wp2_with fail
        refine (RD.out _ _ _ _ _ R5.out LC.out LL.out N4.out).mono ?_
        intro e w6 h6
        obtain ⟨hb6, A6, n6, c6, K6, m6, d6, rfl, hin6⟩ := read_one h6
        rw [RW.out] at hin6 ⊢
        simp only [errOf, treeOf] at hin6 ⊢
        have hbb : Below w5.heap.size w5 (w6.alloc (.cells #[.int .i64 t.tag, .slice A6 n6 c6, .slice K6 m6 d6] 26)) := Below.step hb6 ((Below.refl _ _).alloc (Nat.le_refl _) _)
        have J6 := Lib.hid (T.In.below ((Below.refl _ _).alloc (Nat.le_refl _) (.cells #[.int .i64 t.tag, .slice A6 n6 c6, .slice K6 m6 d6] 26)) _ hin6)
        have B6 := Lib.hid (Below.step B5.out hbb)
        have K6' := Lib.hid (K5.out.below hbb K5.out.lt)
        have I6 := Lib.hid (T.In.below hbb _ I5.out)
        have L6 := Lib.hid (Blk.new w6 26 #[.int .i64 t.tag, .slice A6 n6 c6, .slice K6 m6 d6])
        obtain ⟨p0, p1, p2, _, _, _⟩ := K6'.out.facts
        obtain ⟨q0, q1, q2, _, _, _⟩ := L6.out.facts
        clear h6 hb6 hin6 hbb B5 K5 I5 R5 RW LL LC N4
        go_wp2_with fail
        refine (same_any t t _ _ _ I6.out J6.out).mono ?_
        rintro e w7 ⟨rfl, hb7⟩
        rw [SR.out]
        have B7 := Lib.hid (Below.step B6.out hb7)
        clear hb7 p0 p1 p2 q0 q1 q2 B6 K6' I6 J6 L6 SR
        go_wp2
        go_ret
        exact ⟨by simp, B7.out⟩

end Go.Proofs.Ytefdfdnfpacfjaa
