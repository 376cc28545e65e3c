/-
  What clock.dateOfDays answers, for stage 3 (clock).
-/
import Derived.Test.YtebefamnmmbdnaaSecsWalk
import Derived.Laws.CopyOwn
namespace Go.Proofs.Ytebefamnmmbdnaa
open Go.RowKit

/-- The day that has n days from the beginning of 1950 on ahead of it. -/
def IsDay (n y m d : Int) : Prop := 1950 ≤ y ∧ y ≤ 2199 ∧ 1 ≤ m ∧ m ≤ 12 ∧ 1 ≤ d ∧ d ≤ ml y m ∧ dby y - 711857 + cum y m + (d - 1) = n

def d6c (y m d h i s : Int) : Array Value := #[.int .i64 y, .int .i64 m, .int .i64 d, .int .i64 h, .int .i64 i, .int .i64 s]
theorem d6c_size (y m d h i s : Int) : (d6c y m d h i s).size = 6 := rfl

/-- Block g holds just these cells. -/
def Blk (w : World) (g : Nat) (t : TypeId) (cs : Array Value) : Prop := w.heap[g]? = some (.cells cs t (0, 0))
theorem Blk.lt {w : World} {g : Nat} {t : TypeId} {cs : Array Value} (h : Blk w g t cs) : g < w.heap.size := (Array.getElem?_eq_some_iff.1 h).1
theorem Blk.cell {w : World} {g : Nat} {t : TypeId} {cs : Array Value} (h : Blk w g t cs) (j : Nat) : w.cell? ⟨g, j, none⟩ = cs[j]? := by
  unfold Blk at h
  simp only [World.cell?, h]
  rfl
theorem Blk.free {w : World} {g : Nat} {t : TypeId} {cs : Array Value} (h : Blk w g t cs) (j : Nat) : w.frozen? ⟨g, j, none⟩ = false := by
  unfold Blk at h
  simp [World.frozen?, h]
theorem Blk.new (w : World) (t : TypeId) (cs : Array Value) : Blk (w.alloc (.cells cs t)) w.heap.size t cs := heap_alloc_new w _
theorem Blk.below {w w' : World} {g B : Nat} {t : TypeId} {cs : Array Value} (h : Blk w g t cs) (hb : Below B w w') (hg : g < B) : Blk w' g t cs := (hb.block g hg).trans h
theorem Blk.alloc {w : World} {g : Nat} {t : TypeId} {cs : Array Value} (h : Blk w g t cs) (o : Obj) : Blk (w.alloc o) g t cs := (Below.heap_alloc w o g h.lt).trans h
theorem Blk.set {w : World} {g : Nat} {t : TypeId} {cs : Array Value} (h : Blk w g t cs) (j : Nat) (v : Value) : Blk (w.setCell ⟨g, j, none⟩ v) g t (cs.setIfInBounds j v) := heap_setCell_same w g j cs t v h
theorem Blk.far {w : World} {g g' : Nat} {t : TypeId} {cs : Array Value} (h : Blk w g t cs) (hne : g ≠ g') (j : Nat) (v : Value) : Blk (w.setCell ⟨g', j, none⟩ v) g t cs := (heap_setCell_other w ⟨g', j, none⟩ g v hne).trans h
theorem Blk.drewN {w : World} {g : Nat} {t : TypeId} {cs : Array Value} (h : Blk w g t cs) (n : Nat) : Blk (w.drewN n) g t cs := h

theorem Try.size22 (y m d h i s : Int) : (Try.prog.info? 22).map (·.size) = some (d6c y m d h i s).size := by rw [d6c_size]; kernel_rfl
theorem d6c_one (y m d h i s : Int) : (d6c y m d h i s).all (·.oneCell') = true := by simp [d6c, Value.oneCell']

/-- Where the second loop stands. -/
def Mon (w wr : World) (b1 bl : Nat) (y m : Int) : Prop :=
  Blk wr w.heap.size 22 (d6c 0 0 0 0 0 0) ∧ Blk wr b1 22 (d6c y m 1 0 0 0) ∧ Blk wr bl 37 (mlCells (28 + lp y)) ∧ Below w.heap.size w wr

theorem Mon.next {w wr : World} {b1 bl : Nat} {y m : Int} (h : Mon w wr b1 bl y m) (h1 : w.heap.size < b1) (h2 : b1 ≠ bl) : Mon w (wr.setCell ⟨b1, 1, none⟩ (.int .i64 (m + 1))) b1 bl y (m + 1) :=
  ⟨h.1.far (by omega) _ _, h.2.1.set 1 _, h.2.2.1.far (fun e => h2 e.symm) _ _, h.2.2.2.setCell (by show w.heap.size ≤ b1; omega) _⟩

set_option maxRecDepth 100000 in
set_option maxHeartbeats 2000000 in
theorem days_any (n : Int) (w : World) (h0 : 0 ≤ n) (h1 : n ≤ 91310) : Calls Try.prog 26 #[.int .i64 n] w fun e w' => ∃ y m d : Int, e = .returned (.agg (d6c y m d 0 0 0)) ∧ IsDay n y m d ∧ Below w.heap.size w w' := by
  go_enter Try.func26, Try.ntmps26
  go_wp2
  go_loopw [0] (fun t wr => ∃ y : Int, 1950 ≤ y ∧ y ≤ 2199 ∧ dby y - 711857 ≤ n ∧ t = .int .i64 (n - (dby y - 711857)) ∧ wr = (w.alloc (.cells #[.int .i64 0, .int .i64 0, .int .i64 0, .int .i64 0, .int .i64 0, .int .i64 0] 22)).alloc (.cells #[.int .i64 y, .int .i64 1, .int .i64 1, .int .i64 0, .int .i64 0, .int .i64 0] 22)) (fun t _ => (intOf t).toNat)
  case atStart => exact ⟨1950, by omega, by omega, by rw [dby_1950]; omega, by rw [dby_1950]; simp, rfl⟩
  case round =>
    obtain ⟨y, hy1, hy2, hy3, rfl, rfl⟩ := hrel
    have dm := dby_mono hy1
    rw [dby_1950] at dm
    have DS := Lib.hid (dby_succ y)
    have dl := lp_01 y
    by_cases hge : 365 + lp y ≤ n - (dby y - 711857)
    · have hy' : y + 1 ≤ 2199 := by
        rcases (show y < 2199 ∨ 2199 ≤ y by omega) with h | h
        · omega
        · have := dby_mono (show 2200 ≤ y + 1 by omega)
          rw [dby_2200, DS.out] at this
          omega
      go_wp2_with (go_at_call 37; refine (ylen_any y _ (by omega) (by omega)).mono ?_; rintro e w' ⟨rfl, rfl⟩)
      go_roundw
      case rel => exact ⟨y + 1, by omega, hy', by rw [DS.out]; omega, by rw [DS.out]; go_num, rfl⟩
      case measure => simp [intOf]; omega
    · have dm2 : n - (dby y - 711857) < 365 + lp y := by omega
      go_wp2_with (go_at_call 37; refine (ylen_any y _ (by omega) (by omega)).mono ?_; rintro e w' ⟨rfl, rfl⟩)
      have K0 := Lib.hid (((Blk.new w 22 (d6c 0 0 0 0 0 0)).alloc (.cells (d6c y 1 1 0 0 0) 22)))
      have K1 := Lib.hid (Blk.new (w.alloc (.cells (d6c 0 0 0 0 0 0) 22)) 22 (d6c y 1 1 0 0 0))
      have KB := Lib.hid (((Below.refl w.heap.size w).alloc (Nat.le_refl _) (.cells (d6c 0 0 0 0 0 0) 22)).alloc (by simp) (.cells (d6c y 1 1 0 0 0) 22))
      rw [show (w.alloc (.cells (d6c 0 0 0 0 0 0) 22)).heap.size = w.heap.size + 1 by simp] at K1
      simp only [d6c] at K0 K1 KB
      refine (months_any y _ (by omega) (by omega)).mono ?_
      rintro e w4 ⟨rfl, hb4⟩
      have hs4 : w.heap.size + 2 ≤ w4.heap.size := by have := hb4.size; simp at this; omega
      have HM : Hid (Mon w (w4.alloc (.cells (mlCells (28 + lp y)) 37)) (w.heap.size + 1) w4.heap.size y 1) :=
        ⟨(K0.out.below hb4 (by simp; omega)).alloc _, (K1.out.below hb4 (by simp)).alloc _, Blk.new _ _ _, (Below.step KB.out hb4).alloc (by omega) _⟩
      clear hb4 K0 K1 KB
      simp only [mlCells] at HM ⊢
      go_wp2
      have hbl : w.heap.size + 1 ≠ w4.heap.size := by omega
      generalize w4.alloc (.cells #[.int .i64 31, .int .i64 (28 + lp y), .int .i64 31, .int .i64 30, .int .i64 31, .int .i64 30, .int .i64 31, .int .i64 31, .int .i64 30, .int .i64 31, .int .i64 30, .int .i64 31] 37) = w5 at HM ⊢
      generalize w4.heap.size = bl at HM hbl ⊢
      have HBL := Lib.hid hbl
      clear hbl hs4
      obtain ⟨r, HR⟩ : ∃ r, r = n - (dby y - 711857) := ⟨_, rfl⟩
      rw [← HR]
      have hr0 : 0 ≤ r := by omega
      have hr1 : r < 365 + lp y := by omega
      have HRH := Lib.hid HR
      clear HR dm2
      go_loopw [0] (fun t wr => ∃ m : Int, 1 ≤ m ∧ m ≤ 12 ∧ cum y m ≤ r ∧ t = .int .i64 (r - cum y m) ∧ Mon w wr (w.heap.size + 1) bl y m) (fun t _ => (intOf t).toNat)
      case atStart => exact ⟨1, by omega, by omega, by rw [cum_one]; omega, by rw [cum_one]; simp, HM.out⟩
      case round =>
        obtain ⟨m, hm1, hm2, hm3, rfl, hmon⟩ := hrel
        have HN := Lib.hid hmon
        clear hmon HM
        have c0 := cum_mono (y := y) hm1
        rw [cum_one] at c0
        have mr := ml_rng y m
        have CS := Lib.hid (cum_succ y m hm1 hm2)
        have k1 : wr.cell? ⟨w.heap.size + 1, 1, none⟩ = some (.int .i64 m) := HN.out.2.1.cell 1
        have k2 : wr.cell? ⟨w.heap.size + 1, 2, none⟩ = some (.int .i64 1) := HN.out.2.1.cell 2
        have f1 := HN.out.2.1.free 1
        have f2 := HN.out.2.1.free 2
        have mc := (HN.out.2.2.1.cell (m - 1).toNat).trans (ml_at y m hm1 hm2)
        have mc2 : wr.cell? ⟨bl, m.toNat - 1, none⟩ = some (.int .i64 (ml y m)) := by rw [show m.toNat - 1 = (m - 1).toNat by omega]; exact mc
        by_cases hge' : ml y m ≤ r - cum y m
        · have hm' : m ≤ 11 := by
            rcases (show m ≤ 11 ∨ m = 12 by omega) with h | h
            · exact h
            · have e := CS.out
              rw [h, show (12 : Int) + 1 = 13 from rfl, cum_end] at e
              rw [h] at hge'
              omega
          have HX := Lib.hid (HN.out.next (by omega) HBL.out)
          clear HN
          go_wp2
          go_roundw
          case rel => exact ⟨m + 1, by omega, by omega, by rw [CS.out]; omega, by rw [CS.out]; go_num, HX.out⟩
          case measure => simp [intOf]; omega
        · have hlt' : r - cum y m < ml y m := by omega
          have L1 : Hid (Blk (wr.setCell ⟨w.heap.size + 1, 2, none⟩ (.int .i64 (1 + (r - cum y m)))) (w.heap.size + 1) 22 (d6c y m (1 + (r - cum y m)) 0 0 0)) := HN.out.2.1.set 2 _
          have L0 : Hid (Blk (wr.setCell ⟨w.heap.size + 1, 2, none⟩ (.int .i64 (1 + (r - cum y m)))) w.heap.size 22 (d6c 0 0 0 0 0 0)) := HN.out.1.far (by omega) _ _
          have LB := Lib.hid (HN.out.2.2.2.setCell (p := ⟨w.heap.size + 1, 2, none⟩) (by show w.heap.size ≤ w.heap.size + 1; omega) (.int .i64 (1 + (r - cum y m))))
          have ID : Hid (IsDay n y m (1 + (r - cum y m))) := by have := HRH.out; unfold Hid IsDay; omega
          clear HN
          go_wp2_with (first | refine wpList_load_row rfl 22 (.tmp 3) rfl (w.heap.size + 1) rfl 22 (d6c y m (1 + (r - cum y m)) 0 0 0) (0, 0) (.array 6 3) L1.out Try.underlying22 rfl (Try.size22 ..) ?_ | refine wpList_store_rowTo rfl 22 (.tmp 2) (.tmp 46) rfl rfl w.heap.size (d6c y m (1 + (r - cum y m)) 0 0 0) rfl rfl 22 (d6c 0 0 0 0 0 0) L0.out (Try.size22 ..) rfl (d6c_one ..) ?_)
          (try simp only [Exit.inBlock, Exit.then])
          exact bodyPost_ret (results_cell_row rfl _ _ w.heap.size 22 (d6c y m (1 + (r - cum y m)) 0 0 0) (0, 0) (.array 6 3) rfl (setRow_heap _ _ _ _ 22 _ L0.out) Try.underlying22 rfl (Try.size22 ..)) rfl ⟨y, m, _, rfl, ID.out, below_setRow LB.out (Nat.le_refl _) _⟩
end Go.Proofs.Ytebefamnmmbdnaa
