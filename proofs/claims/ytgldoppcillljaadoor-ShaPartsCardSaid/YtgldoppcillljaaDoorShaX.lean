/-
  What the package's expanded answers, for stage 6 (sha).
-/
import Derived.Test.YtgldoppcillljaaDoorShaE
import Derived.Laws.CopyOwn
namespace Go.Proofs.YtgldoppcillljaaDoor
open Go.RowKit
set_option linter.unusedVariables false

/-- Where expanded's loops stand: the words that are laid. -/
def ExpAt (w wr : World) (l : List Int) : Prop := Blk wr w.heap.size 53 Z64 ∧ Blk wr (w.heap.size + 1) 53 (wcells l) ∧ Below w.heap.size w wr
theorem ExpAt.start (w : World) : ExpAt w ((w.alloc (.cells Z64 53)).alloc (.cells Z64 53)) [] := by
  refine ⟨(Blk.new w _ _).alloc _, ?_, ((Below.refl _ _).alloc (Nat.le_refl _) _).alloc (by simp) _⟩
  have := Blk.new (w.alloc (.cells Z64 53)) 53 Z64
  rw [show (w.alloc (.cells Z64 53)).heap.size = w.heap.size + 1 by simp] at this
  exact this
theorem ExpAt.drewN {w wr : World} {l : List Int} (h : ExpAt w wr l) (q : Nat) : ExpAt w (wr.drewN q) l := ⟨h.1, h.2.1, { h.2.2 with }⟩
theorem ExpAt.next {w wr : World} {l : List Int} (h : ExpAt w wr l) (x : Int) (k : Nat) (hk : k = l.length) (hl : k < 64) : ExpAt w (wr.setCell ⟨w.heap.size + 1, k, none⟩ (.int .u32 x)) (l ++ [x]) := by
  subst hk
  refine ⟨h.1.far (by omega) _ _, ?_, h.2.2.setCell (by show w.heap.size ≤ w.heap.size + 1; omega) _⟩
  rw [← wcells_set l x hl]
  exact h.2.1.set _ _
theorem words_next (b : List Int) (k : Nat) (h : 16 ≤ k) : wordsZ8 b (k + 1) = wordsZ8 b k ++ [nextZ (wordsZ8 b k) k] := by
  rw [wordsZ8, if_neg (by omega)]
theorem words_first (b : List Int) (k : Nat) (h : k < 16) : wordsZ8 b (k + 1) = wordsZ8 b k ++ [wordZ b (4 * k)] := by
  rw [wordsZ8, if_pos h]
theorem word_drop (b : List Int) (i : Nat) : wordZ (b.drop i) 0 = wordZ b i := by
  unfold wordZ
  simp only [List.getElem?_drop, Nat.zero_add, Nat.add_zero]

def GivesW64 (l : List Int) (w : World) (e : Ending) (w' : World) : Prop := e = .returned (.agg (wcells l)) ∧ Below w.heap.size w w'

set_option maxHeartbeats 500000 in
set_option maxRecDepth 100000 in
theorem expanded_any (a : Option Addr) (ca : Nat) (zs : List Int) (w : World) (hr : Row w a 64 zs) (hca : 64 ≤ ca) : Calls Tryd.prog 30 #[.slice a 64 ca] w (GivesW64 (wordsZ8 zs 64) w) := by
  have E0 := Lib.hid (ExpAt.start w)
  have RW := Lib.hid hr
  have HB := Lib.hid hr.2.1
  obtain ⟨b, off, rfl, hb, hc⟩ := hr.2.2 (by omega)
  clear hr hc
  go_enter Tryd.func30, Tryd.ntmps30
  go_wp2_with (first
    | (refine Great.wpList_allocTo rfl (some 2) rfl (.pointer (some ⟨w.heap.size, 0, none⟩)) (.cells Z64 53) rfl ?_)
    | (refine Great.wpList_allocTo rfl (some 3) rfl (.pointer (some ⟨(w.alloc (.cells Z64 53)).heap.size, 0, none⟩)) (.cells Z64 53) rfl ?_))
  generalize (w.alloc (.cells Z64 53)).alloc (.cells Z64 53) = w0 at *
  go_loopw [10] (fun i wr => ∃ k : Nat, k ≤ 16 ∧ i = .int .i64 (k : Int) ∧ ExpAt w wr (wordsZ8 zs k)) (fun i _ => (17 - intOf i).toNat)
  case atStart => exact ⟨0, by omega, rfl, E0.out⟩
  case round =>
    obtain ⟨k, hk, rfl, he⟩ := hrel
    have E := Lib.hid he
    clear he E0
    by_cases hk2 : k < 16
    · have t0 : decide ((k : Int) < 16) = true := by simp; omega
      have RD := Lib.hid ((RW.out.below E.out.2.2).rest (4 * k) ca (by omega) hca)
      have h4 : IntKind.i64.wrap (4 * (k : Int)) = 4 * (k : Int) := IntWalk.i64_in _ (by omega)
      have hne : ¬ ca = 4 * k := by omega
      have L := wordsZ8_len zs k
      rw [if_neg hne] at RD
      have CW := Lib.hid (word_any _ _ (ca - 4 * k) _ _ RD.out (by omega))
      rw [word_drop] at CW
      rw [Option.map_some, Addr.add_lit] at CW
      have CC := (E.out.2.1.cell k).trans (wcells_get _ k (by omega))
      have FF := E.out.2.1.free k
      have EN : Hid (∀ q, ExpAt w ((wr.drewN q).setCell ⟨w.heap.size + 1, k, none⟩ (.int .u32 (wordZ zs (4 * k)))) (wordsZ8 zs (k + 1))) := by
        rw [words_first _ _ hk2]
        exact Lib.hid (fun q => (E.out.drewN q).next _ k L.symm (by omega))
      clear E RD L
      have kl : k < 64 := by omega
      have kI : (k : Int) < 64 := by omega
      have k1 : IntKind.i64.wrap ((k : Int) + 1) = ((k + 1 : Nat) : Int) := by rw [Int.natCast_add]; exact IntWalk.i64_in _ (by omega)
      go_wp2_with fail
      refine CW.out.mono ?_
      rintro e w2 ⟨rfl, q, hw⟩
      subst hw
      go_wp2_with fail
      go_roundw
      case rel => exact ⟨k + 1, by omega, by first | rfl | go_num, EN.out q⟩
      case measure => simp only [intOf]; omega
    · obtain rfl : k = 16 := by omega
      clear hk2
      rw [show ((16 : Nat) : Int) = 16 by rfl]
      go_wp2_with fail
      go_loopw [5] (fun i w2 => ∃ k : Nat, 16 ≤ k ∧ k ≤ 64 ∧ i = .int .i64 (k : Int) ∧ ExpAt w w2 (wordsZ8 zs k)) (fun i _ => (65 - intOf i).toNat)
      case atStart => exact ⟨16, by omega, by omega, rfl, E.out⟩
      case round =>
        obtain ⟨k, hk16, hk, rfl, he⟩ := hrel
        have E2 := Lib.hid he
        clear he E RW
        by_cases hk2 : k < 64
        · have WN := Lib.hid (words_next zs k hk16)
          have L := wordsZ8_len zs k
          have WB := Lib.hid (words_range HB.out k)
          obtain ⟨j, hj⟩ : ∃ j, k = j + 16 := ⟨k - 16, by omega⟩
          obtain ⟨l1, hl1⟩ : ∃ l1, wordsZ8 zs (k + 1) = l1 := ⟨_, rfl⟩
          rw [hl1] at WN
          have HL1 := Lib.hid hl1
          clear hl1
          generalize wordsZ8 zs k = l at *
          subst hj
          have t0 : decide ((j : Int) + 16 < 64) = true := by simp; omega
          have c0 := (E2.out.2.1.cell j).trans (wcells_get _ j (by omega))
          have c1 := (E2.out.2.1.cell (j + 1)).trans (wcells_get _ (j + 1) (by omega))
          have c9 := (E2.out.2.1.cell (j + 9)).trans (wcells_get _ (j + 9) (by omega))
          have c14 := (E2.out.2.1.cell (j + 14)).trans (wcells_get _ (j + 14) (by omega))
          have c16 := (E2.out.2.1.cell (j + 16)).trans (wcells_get _ (j + 16) (by omega))
          have f16 := E2.out.2.1.free (j + 16)
          have EN : Hid (∀ q, ExpAt w ((wr.drewN q).setCell ⟨w.heap.size + 1, j + 16, none⟩ (.int .u32 (nextZ l (j + 16)))) l1) := by
            rw [WN.out]
            exact Lib.hid (fun q => (E2.out.drewN q).next _ (j + 16) L.symm (by omega))
          have r : ∀ i : Nat, W32 (l[i]?.getD 0) := by
            intro i
            rcases Nat.lt_or_ge i l.length with h | h
            · rw [List.getElem?_eq_getElem h]
              exact WB.out _ (List.getElem_mem h)
            · rw [List.getElem?_eq_none h]
              unfold W32
              simp
          have N : nextZ l (j + 16) = m32 (l[j]?.getD 0 + lowS (l[j + 1]?.getD 0) + l[j + 9]?.getD 0 + highS (l[j + 14]?.getD 0)) := rfl
          rw [N] at EN
          have r0 := r j
          have r1 := r (j + 1)
          have r9 := r (j + 9)
          have r14 := r (j + 14)
          generalize l[j]?.getD 0 = x0 at *
          generalize l[j + 1]?.getD 0 = x1 at *
          generalize l[j + 9]?.getD 0 = x9 at *
          generalize l[j + 14]?.getD 0 = x14 at *
          generalize l[j + 16]?.getD 0 = x16 at *
          clear r N WB L WN E2
          rw [show ((j + 16 : Nat) : Int) = (j : Int) + 16 by omega]
          have e15 : IntKind.i64.wrap ((j : Int) + 16 - 15) = ((j + 1 : Nat) : Int) := by rw [show (j : Int) + 16 - 15 = (j : Int) + 1 by omega, Int.natCast_add]; exact IntWalk.i64_in _ (by omega)
          have e2 : IntKind.i64.wrap ((j : Int) + 16 - 2) = ((j + 14 : Nat) : Int) := by rw [show (j : Int) + 16 - 2 = (j : Int) + 14 by omega, Int.natCast_add]; exact IntWalk.i64_in _ (by omega)
          have e16 : IntKind.i64.wrap ((j : Int) + 16 - 16) = (j : Int) := by rw [show (j : Int) + 16 - 16 = (j : Int) by omega]; exact IntWalk.i64_in _ (by omega)
          have e7 : IntKind.i64.wrap ((j : Int) + 16 - 7) = ((j + 9 : Nat) : Int) := by rw [show (j : Int) + 16 - 7 = (j : Int) + 9 by omega, Int.natCast_add]; exact IntWalk.i64_in _ (by omega)
          go_wp2_with fail
          go_quiet (fail)
          generalize hq : nq = q at *
          go_wp2_with fail
          refine (rotr_any x1 7 7 _ rfl (by unfold Turns; omega) r1.1 r1.2).mono ?_
          rintro e w2 ⟨rfl, hw⟩
          subst hw
          go_wp2_with fail
          refine (rotr_any x1 18 18 _ rfl (by unfold Turns; omega) r1.1 r1.2).mono ?_
          rintro e w2 ⟨rfl, hw⟩
          subst hw
          go_wp2_with fail
          refine (rotr_any x14 17 17 _ rfl (by unfold Turns; omega) r14.1 r14.2).mono ?_
          rintro e w2 ⟨rfl, hw⟩
          subst hw
          go_wp2_with fail
          refine (rotr_any x14 19 19 _ rfl (by unfold Turns; omega) r14.1 r14.2).mono ?_
          rintro e w2 ⟨rfl, hw⟩
          subst hw
          go_wp2_with fail
          go_region
          go_wp2_with fail
          go_roundw
          case rel => exact ⟨j + 16 + 1, by omega, by omega, by first | rfl | go_num, by rw [HL1.out]; exact EN.out _⟩
          case measure => simp only [intOf]; omega
        · obtain rfl : k = 64 := by omega
          have L := wordsZ8_len zs 64
          generalize wordsZ8 zs 64 = l at *
          clear hk16 hk2
          have KA := E2.out.1
          have KB := E2.out.2.1
          have KW := E2.out.2.2
          have L64 : l.length ≤ 64 := by omega
          have HA := Lib.hid KA
          have HBB := Lib.hid KB
          have HW := Lib.hid KW
          clear KA KB KW E2 L
          rw [show ((64 : Nat) : Int) = 64 by rfl]
          go_wp2_with (first
            | (refine wpList_load_row rfl 53 (.tmp 3) rfl (w.heap.size + 1) rfl 53 (wcells l) (0, 0) (.array 64 37) HBB.out Tryd.underlying53 rfl (Tryd.size53 l L64) ?_)
            | (refine wpList_store_rowTo rfl 53 (.tmp 2) (.tmp 64) rfl rfl w.heap.size (wcells l) rfl rfl 53 Z64 HA.out (Tryd.size53 l L64) (by rw [wcells_size l L64]; rfl) (wcells_one l) ?_))
          exact bodyPost_ret (results_cell_row rfl _ _ w.heap.size 53 (wcells l) (0, 0) (.array 64 37) rfl (setRow_heap _ _ _ _ 53 _ HA.out) Tryd.underlying53 rfl (Tryd.size53 l L64)) rfl ⟨rfl, below_setRow HW.out (Nat.le_refl _) _⟩

end Go.Proofs.YtgldoppcillljaaDoor
