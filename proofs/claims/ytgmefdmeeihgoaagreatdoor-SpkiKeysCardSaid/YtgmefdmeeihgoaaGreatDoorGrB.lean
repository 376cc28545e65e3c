/-
  Merged texts: ShaE, ShaX, ShaB, WrapK, Tree, TreeP, Sc1, Weigh, SameT, Num.
-/
import Derived.Test.YtgmefdmeeihgoaaGreatDoorGrA
import Derived.Great.Walk
import Derived.Laws.ResultCell
import Derived.Deep.MidRow
import Derived.Laws.CopyOwn
import Derived.Test.YtgmefdmeeihgoaaGreatDoorRows
import Derived.ProofKit
import Derived.OpenShut
import Derived.ShutString
import Derived.LaidMore
import Derived.Lay
import Derived.Stop.Joined
import Derived.WalkKit
import Derived.WalkSpells
import Derived.WalkLawsBesides
import Derived.Deep.QuietTactic
import Derived.BigQuiet
import Derived.Lib.Hide
import Derived.Maps.AppendAt
import Derived.Deep.LoopGhost
import Derived.Lib.Strings
import Derived.Laws.BitsLemmas
namespace Go.Proofs.YtgmefdmeeihgoaaGreatDoor
open Go.RowKit
set_option linter.unusedVariables false
theorem wrap_m32 (x : Int) : IntKind.u32.wrap x = m32 x := by
  rw [IntKind.wrap_u32]
  rfl
theorem word_range {b : List Int} (h : ∀ x ∈ b, 0 ≤ x ∧ x ≤ 255) (i : Nat) : W32 (wordZ b i) := by
  have g : ∀ k : Nat, 0 ≤ b[k]?.getD 0 ∧ b[k]?.getD 0 ≤ 255 := by
    intro k
    rcases Nat.lt_or_ge k b.length with hk | hk
    · rw [List.getElem?_eq_getElem hk]
      exact h _ (List.getElem_mem hk)
    · rw [List.getElem?_eq_none hk]
      simp
  have g0 := g i
  have g1 := g (i + 1)
  have g2 := g (i + 2)
  have g3 := g (i + 3)
  unfold W32 wordZ
  omega
theorem words_range {b : List Int} (h : ∀ x ∈ b, 0 ≤ x ∧ x ≤ 255) (k : Nat) : ∀ x ∈ wordsZ8 b k, 0 ≤ x ∧ x ≤ 4294967295 := by
  induction k with
  | zero => intro x hx; cases hx
  | succ k ih =>
    intro x hx
    rw [wordsZ8, List.mem_append] at hx
    rcases hx with hx | hx
    · exact ih x hx
    · rw [List.mem_singleton] at hx
      subst hx
      split
      · exact word_range h _
      · exact m32_range _
set_option maxHeartbeats 2000000 in
theorem word_any (a : Option Addr) (n ca : Nat) (zs : List Int) (w : World) (hr : Row w a n zs) (hn : 4 ≤ n) : Calls Tryz.prog 135 #[.slice a n ca] w fun e w' => e = .returned (.int .u32 (wordZ zs 0)) ∧ ∃ q, w' = w.drewN q := by
  obtain ⟨b, off, rfl, hb, hc⟩ := hr.2.2 (by omega)
  have c0 := hc 0 (by omega)
  have c1 := hc 1 (by omega)
  have c2 := hc 2 (by omega)
  have c3 := hc 3 (by omega)
  have z0 := hr.byte 0
  have z1 := hr.byte 1
  have z2 := hr.byte 2
  have z3 := hr.byte 3
  have W : wordZ zs 0 = ((zs[0]?.getD 0 * 256 + zs[1]?.getD 0) * 256 + zs[2]?.getD 0) * 256 + zs[3]?.getD 0 := rfl
  rw [W]
  clear hr hc W
  generalize zs[0]?.getD 0 = y0 at *
  generalize zs[1]?.getD 0 = y1 at *
  generalize zs[2]?.getD 0 = y2 at *
  generalize zs[3]?.getD 0 = y3 at *
  have s0 : y0 * 16777216 % 4294967296 = y0 * 16777216 := by omega
  have s1 : y1 * 65536 % 4294967296 = y1 * 65536 := by omega
  have s2 : y2 * 256 % 4294967296 = y2 * 256 := by omega
  have j1 : bits .or .u32 (y0 * 16777216) (y1 * 65536) = y0 * 16777216 + y1 * 65536 := bits_join .u32 32 (by decide) (fun n h0 h1 => IntWalk.u32_in _ (by omega)) 24 _ _ (by omega) (by omega) (by omega) (by omega) (by omega) (by omega)
  have j2 : bits .or .u32 (y0 * 16777216 + y1 * 65536) (y2 * 256) = y0 * 16777216 + y1 * 65536 + y2 * 256 := bits_join .u32 32 (by decide) (fun n h0 h1 => IntWalk.u32_in _ (by omega)) 16 _ _ (by omega) (by omega) (by omega) (by omega) (by omega) (by omega)
  have j3 : bits .or .u32 (y0 * 16777216 + y1 * 65536 + y2 * 256) y3 = y0 * 16777216 + y1 * 65536 + y2 * 256 + y3 := bits_join .u32 32 (by decide) (fun n h0 h1 => IntWalk.u32_in _ (by omega)) 8 _ _ (by omega) (by omega) (by omega) (by omega) (by omega) (by omega)
  have k0 : 0 < n := by omega
  have k1 : 1 < n := by omega
  have k2 : 2 < n := by omega
  have k3 : 3 < n := by omega
  rw [Nat.add_zero] at c0
  go_enter Tryz.func135, Tryz.ntmps135
  go_wp2_with fail
  go_quiet (fail)
  go_wp2
  go_ret
  exact ⟨same_int (by omega), _, rfl⟩
def wcells (l : List Int) : Array Value := ((l ++ List.replicate (64 - l.length) 0).map (Value.int .u32)).toArray
def Z64 : Array Value := (List.replicate 64 (Value.int .u32 0)).toArray
theorem wcells_size (l : List Int) (h : l.length ≤ 64) : (wcells l).size = 64 := by
  unfold wcells
  simp
  omega
theorem wcells_set (l : List Int) (x : Int) (h : l.length < 64) : (wcells l).setIfInBounds l.length (.int .u32 x) = wcells (l ++ [x]) := by
  unfold wcells
  apply Array.ext'
  rw [Array.toList_setIfInBounds, List.length_append, List.length_singleton]
  show ((l ++ List.replicate (64 - l.length) 0).map (Value.int .u32)).set l.length (.int .u32 x) = (l ++ [x] ++ List.replicate (64 - (l.length + 1)) 0).map (Value.int .u32)
  rw [← List.map_set, List.set_append_right _ _ (Nat.le_refl _), Nat.sub_self, show 64 - l.length = (64 - (l.length + 1)) + 1 by omega, List.replicate_succ, List.set_cons_zero, List.append_assoc]
  rfl
theorem wcells_get (l : List Int) (i : Nat) (h : i < 64) : (wcells l)[i]? = some (.int .u32 (l[i]?.getD 0)) := by
  unfold wcells
  rw [List.getElem?_toArray, List.getElem?_map, List.getElem?_append]
  split
  · rename_i hi
    rw [List.getElem?_eq_getElem hi]
    rfl
  · rename_i hi
    rw [List.getElem?_replicate, if_pos (by omega), List.getElem?_eq_none (by omega)]
    rfl
theorem wcells_one (l : List Int) : (wcells l).all (·.oneCell') = true := by
  unfold wcells
  refine all_oneCell_toArray ?_
  intro v hv
  obtain ⟨x, _, rfl⟩ := List.mem_map.1 hv
  rfl
theorem Tryz.size53 (l : List Int) (h : l.length ≤ 64) : (Tryz.prog.info? 123).map (·.size) = some (wcells l).size := by
  rw [wcells_size l h]
  kernel_rfl
end Go.Proofs.YtgmefdmeeihgoaaGreatDoor
namespace Go.Proofs.YtgmefdmeeihgoaaGreatDoor
open Go.RowKit
set_option linter.unusedVariables false
def ExpAt (w wr : World) (l : List Int) : Prop := Blk wr w.heap.size 123 Z64 ∧ Blk wr (w.heap.size + 1) 123 (wcells l) ∧ Below w.heap.size w wr
theorem ExpAt.start (w : World) : ExpAt w ((w.alloc (.cells Z64 123)).alloc (.cells Z64 123)) [] := by
  refine ⟨(Blk.new w _ _).alloc _, ?_, ((Below.refl _ _).alloc (Nat.le_refl _) _).alloc (by simp) _⟩
  have := Blk.new (w.alloc (.cells Z64 123)) 123 Z64
  rw [show (w.alloc (.cells Z64 123)).heap.size = w.heap.size + 1 by simp] at this
  exact this
theorem ExpAt.drewN {w wr : World} {l : List Int} (h : ExpAt w wr l) (q : Nat) : ExpAt w (wr.drewN q) l := ⟨h.1, h.2.1, { h.2.2 with }⟩
theorem ExpAt.next {w wr : World} {l : List Int} (h : ExpAt w wr l) (x : Int) (k : Nat) (hk : k = l.length) (hl : k < 64) : ExpAt w (wr.setCell ⟨w.heap.size + 1, k, none⟩ (.int .u32 x)) (l ++ [x]) := by
  subst hk
  refine ⟨h.1.far (by omega) _ _, ?_, h.2.2.setCell (by show w.heap.size ≤ w.heap.size + 1; omega) _⟩
  rw [← wcells_set l x hl]
  exact h.2.1.set _ _
theorem words_next (b : List Int) (k : Nat) (h : 16 ≤ k) : wordsZ8 b (k + 1) = wordsZ8 b k ++ [nextZ (wordsZ8 b k) k] := by
  rw [wordsZ8, if_neg (by omega)]
theorem words_first (b : List Int) (k : Nat) (h : k < 16) : wordsZ8 b (k + 1) = wordsZ8 b k ++ [wordZ b (4 * k)] := by
  rw [wordsZ8, if_pos h]
theorem word_drop (b : List Int) (i : Nat) : wordZ (b.drop i) 0 = wordZ b i := by
  unfold wordZ
  simp only [List.getElem?_drop, Nat.zero_add, Nat.add_zero]
def GivesW64 (l : List Int) (w : World) (e : Ending) (w' : World) : Prop := e = .returned (.agg (wcells l)) ∧ Below w.heap.size w w'
set_option maxHeartbeats 500000 in
set_option maxRecDepth 100000 in
theorem expanded_any (a : Option Addr) (ca : Nat) (zs : List Int) (w : World) (hr : Row w a 64 zs) (hca : 64 ≤ ca) : Calls Tryz.prog 128 #[.slice a 64 ca] w (GivesW64 (wordsZ8 zs 64) w) := by
  have E0 := Lib.hid (ExpAt.start w)
  have RW := Lib.hid hr
  have HB := Lib.hid hr.2.1
  obtain ⟨b, off, rfl, hb, hc⟩ := hr.2.2 (by omega)
  clear hr hc
  go_enter Tryz.func128, Tryz.ntmps128
  go_wp2_with (first
    | (refine Great.wpList_allocTo rfl (some 2) rfl (.pointer (some ⟨w.heap.size, 0, none⟩)) (.cells Z64 123) rfl ?_)
    | (refine Great.wpList_allocTo rfl (some 3) rfl (.pointer (some ⟨(w.alloc (.cells Z64 123)).heap.size, 0, none⟩)) (.cells Z64 123) rfl ?_))
  generalize (w.alloc (.cells Z64 123)).alloc (.cells Z64 123) = w0 at *
  go_loopw [10] (fun i wr => ∃ k : Nat, k ≤ 16 ∧ i = .int .i64 (k : Int) ∧ ExpAt w wr (wordsZ8 zs k)) (fun i _ => (17 - intOf i).toNat)
  case atStart => exact ⟨0, by omega, rfl, E0.out⟩
  case round =>
    obtain ⟨k, hk, rfl, he⟩ := hrel
    have E := Lib.hid he
    clear he E0
    by_cases hk2 : k < 16
    · have t0 : decide ((k : Int) < 16) = true := by simp; omega
      have RD := Lib.hid ((RW.out.below E.out.2.2).rest (4 * k) ca (by omega) hca)
      have h4 : IntKind.i64.wrap (4 * (k : Int)) = 4 * (k : Int) := IntWalk.i64_in _ (by omega)
      have hne : ¬ ca = 4 * k := by omega
      have L := wordsZ8_len zs k
      rw [if_neg hne] at RD
      have CW := Lib.hid (word_any _ _ (ca - 4 * k) _ _ RD.out (by omega))
      rw [word_drop] at CW
      rw [Option.map_some, Addr.add_lit] at CW
      have CC := (E.out.2.1.cell k).trans (wcells_get _ k (by omega))
      have FF := E.out.2.1.free k
      have EN : Hid (∀ q, ExpAt w ((wr.drewN q).setCell ⟨w.heap.size + 1, k, none⟩ (.int .u32 (wordZ zs (4 * k)))) (wordsZ8 zs (k + 1))) := by
        rw [words_first _ _ hk2]
        exact Lib.hid (fun q => (E.out.drewN q).next _ k L.symm (by omega))
      clear E RD L
      have kl : k < 64 := by omega
      have kI : (k : Int) < 64 := by omega
      have k1 : IntKind.i64.wrap ((k : Int) + 1) = ((k + 1 : Nat) : Int) := by rw [Int.natCast_add]; exact IntWalk.i64_in _ (by omega)
      go_wp2_with fail
      refine CW.out.mono ?_
      rintro e w2 ⟨rfl, q, hw⟩
      subst hw
      go_wp2_with fail
      go_roundw
      case rel => exact ⟨k + 1, by omega, by first | rfl | go_num, EN.out q⟩
      case measure => simp only [intOf]; omega
    · obtain rfl : k = 16 := by omega
      clear hk2
      rw [show ((16 : Nat) : Int) = 16 by rfl]
      go_wp2_with fail
      go_loopw [5] (fun i w2 => ∃ k : Nat, 16 ≤ k ∧ k ≤ 64 ∧ i = .int .i64 (k : Int) ∧ ExpAt w w2 (wordsZ8 zs k)) (fun i _ => (65 - intOf i).toNat)
      case atStart => exact ⟨16, by omega, by omega, rfl, E.out⟩
      case round =>
        obtain ⟨k, hk16, hk, rfl, he⟩ := hrel
        have E2 := Lib.hid he
        clear he E RW
        by_cases hk2 : k < 64
        · have WN := Lib.hid (words_next zs k hk16)
          have L := wordsZ8_len zs k
          have WB := Lib.hid (words_range HB.out k)
          obtain ⟨j, hj⟩ : ∃ j, k = j + 16 := ⟨k - 16, by omega⟩
          obtain ⟨l1, hl1⟩ : ∃ l1, wordsZ8 zs (k + 1) = l1 := ⟨_, rfl⟩
          rw [hl1] at WN
          have HL1 := Lib.hid hl1
          clear hl1
          generalize wordsZ8 zs k = l at *
          subst hj
          have t0 : decide ((j : Int) + 16 < 64) = true := by simp; omega
          have c0 := (E2.out.2.1.cell j).trans (wcells_get _ j (by omega))
          have c1 := (E2.out.2.1.cell (j + 1)).trans (wcells_get _ (j + 1) (by omega))
          have c9 := (E2.out.2.1.cell (j + 9)).trans (wcells_get _ (j + 9) (by omega))
          have c14 := (E2.out.2.1.cell (j + 14)).trans (wcells_get _ (j + 14) (by omega))
          have c16 := (E2.out.2.1.cell (j + 16)).trans (wcells_get _ (j + 16) (by omega))
          have f16 := E2.out.2.1.free (j + 16)
          have EN : Hid (∀ q, ExpAt w ((wr.drewN q).setCell ⟨w.heap.size + 1, j + 16, none⟩ (.int .u32 (nextZ l (j + 16)))) l1) := by
            rw [WN.out]
            exact Lib.hid (fun q => (E2.out.drewN q).next _ (j + 16) L.symm (by omega))
          have r : ∀ i : Nat, W32 (l[i]?.getD 0) := by
            intro i
            rcases Nat.lt_or_ge i l.length with h | h
            · rw [List.getElem?_eq_getElem h]
              exact WB.out _ (List.getElem_mem h)
            · rw [List.getElem?_eq_none h]
              unfold W32
              simp
          have N : nextZ l (j + 16) = m32 (l[j]?.getD 0 + lowS (l[j + 1]?.getD 0) + l[j + 9]?.getD 0 + highS (l[j + 14]?.getD 0)) := rfl
          rw [N] at EN
          have r0 := r j
          have r1 := r (j + 1)
          have r9 := r (j + 9)
          have r14 := r (j + 14)
          generalize l[j]?.getD 0 = x0 at *
          generalize l[j + 1]?.getD 0 = x1 at *
          generalize l[j + 9]?.getD 0 = x9 at *
          generalize l[j + 14]?.getD 0 = x14 at *
          generalize l[j + 16]?.getD 0 = x16 at *
          clear r N WB L WN E2
          rw [show ((j + 16 : Nat) : Int) = (j : Int) + 16 by omega]
          have e15 : IntKind.i64.wrap ((j : Int) + 16 - 15) = ((j + 1 : Nat) : Int) := by rw [show (j : Int) + 16 - 15 = (j : Int) + 1 by omega, Int.natCast_add]; exact IntWalk.i64_in _ (by omega)
          have e2 : IntKind.i64.wrap ((j : Int) + 16 - 2) = ((j + 14 : Nat) : Int) := by rw [show (j : Int) + 16 - 2 = (j : Int) + 14 by omega, Int.natCast_add]; exact IntWalk.i64_in _ (by omega)
          have e16 : IntKind.i64.wrap ((j : Int) + 16 - 16) = (j : Int) := by rw [show (j : Int) + 16 - 16 = (j : Int) by omega]; exact IntWalk.i64_in _ (by omega)
          have e7 : IntKind.i64.wrap ((j : Int) + 16 - 7) = ((j + 9 : Nat) : Int) := by rw [show (j : Int) + 16 - 7 = (j : Int) + 9 by omega, Int.natCast_add]; exact IntWalk.i64_in _ (by omega)
          go_wp2_with fail
          go_quiet (fail)
          generalize hq : nq = q at *
          go_wp2_with fail
          refine (rotr_any x1 7 7 _ rfl (by unfold Turns; omega) r1.1 r1.2).mono ?_
          rintro e w2 ⟨rfl, hw⟩
          subst hw
          go_wp2_with fail
          refine (rotr_any x1 18 18 _ rfl (by unfold Turns; omega) r1.1 r1.2).mono ?_
          rintro e w2 ⟨rfl, hw⟩
          subst hw
          go_wp2_with fail
          refine (rotr_any x14 17 17 _ rfl (by unfold Turns; omega) r14.1 r14.2).mono ?_
          rintro e w2 ⟨rfl, hw⟩
          subst hw
          go_wp2_with fail
          refine (rotr_any x14 19 19 _ rfl (by unfold Turns; omega) r14.1 r14.2).mono ?_
          rintro e w2 ⟨rfl, hw⟩
          subst hw
          go_wp2_with fail
          go_region
          go_wp2_with fail
          go_roundw
          case rel => exact ⟨j + 16 + 1, by omega, by omega, by first | rfl | go_num, by rw [HL1.out]; exact EN.out _⟩
          case measure => simp only [intOf]; omega
        · obtain rfl : k = 64 := by omega
          have L := wordsZ8_len zs 64
          generalize wordsZ8 zs 64 = l at *
          clear hk16 hk2
          have KA := E2.out.1
          have KB := E2.out.2.1
          have KW := E2.out.2.2
          have L64 : l.length ≤ 64 := by omega
          have HA := Lib.hid KA
          have HBB := Lib.hid KB
          have HW := Lib.hid KW
          clear KA KB KW E2 L
          rw [show ((64 : Nat) : Int) = 64 by rfl]
          go_wp2_with (first
            | (refine wpList_load_row rfl 123 (.tmp 3) rfl (w.heap.size + 1) rfl 123 (wcells l) (0, 0) (.array 64 23) HBB.out Tryz.underlying123 rfl (Tryz.size53 l L64) ?_)
            | (refine wpList_store_rowTo rfl 123 (.tmp 2) (.tmp 64) rfl rfl w.heap.size (wcells l) rfl rfl 123 Z64 HA.out (Tryz.size53 l L64) (by rw [wcells_size l L64]; rfl) (wcells_one l) ?_))
          exact bodyPost_ret (results_cell_row rfl _ _ w.heap.size 123 (wcells l) (0, 0) (.array 64 23) rfl (setRow_heap _ _ _ _ 123 _ HA.out) Tryz.underlying123 rfl (Tryz.size53 l L64)) rfl ⟨rfl, below_setRow HW.out (Nat.le_refl _) _⟩
end Go.Proofs.YtgmefdmeeihgoaaGreatDoor
namespace Go.Proofs.YtgmefdmeeihgoaaGreatDoor
open Go.RowKit
set_option linter.unusedVariables false
def rotI (x n : Int) : Int := rotZ x n.toNat
theorem rotri_any (x n : Int) (w : World) (hn : Turns n.toNat) (hn0 : 0 ≤ n) (h0 : 0 ≤ x) (h1 : x ≤ 4294967295) : Calls Tryz.prog 129 #[.int .u32 x, .int .i64 n] w fun e w' => e = .returned (.int .u32 (rotI x n)) ∧ w' = w :=
  rotr_any x n n.toNat w (Int.toNat_of_nonneg hn0).symm hn h0 h1
def V8.cells (v : V8) : Array Value := #[.int .u32 v.a, .int .u32 v.b, .int .u32 v.c, .int .u32 v.d, .int .u32 v.e, .int .u32 v.f, .int .u32 v.g, .int .u32 v.h]
def Tab (w : World) : Prop := 2 ≤ w.heap.size ∧ (∃ t fr, w.heap[0]? = some (.cells H0.cells t fr)) ∧ ∃ t fr, w.heap[1]? = some (.cells (wcells CONSTS) t fr)
theorem Tab.below {w w' : World} (h : Tab w) (hb : Below w.heap.size w w') : Tab w' := by
  obtain ⟨h2, ⟨t0, f0, h0⟩, t1, f1, h1⟩ := h
  exact ⟨Nat.le_trans h2 hb.size, ⟨t0, f0, (hb.block 0 (by omega)).trans h0⟩, t1, f1, (hb.block 1 (by omega)).trans h1⟩
theorem Tab.const {w : World} (h : Tab w) (t : Nat) (ht : t < 64) : w.cell? ⟨1, t, none⟩ = some (.int .u32 (CONSTS[t]?.getD 0)) := by
  obtain ⟨_, _, _, fr, h1⟩ := h
  have : w.cell? ⟨1, t, none⟩ = (wcells CONSTS)[t]? := by
    simp only [World.cell?, h1]
    rfl
  rw [this, wcells_get _ t ht]
theorem ok_addV (v s : V8) : (addV v s).ok := ⟨m32_range _, m32_range _, m32_range _, m32_range _, m32_range _, m32_range _, m32_range _, m32_range _⟩
theorem ok_stepV {v : V8} (h : v.ok) (c x : Int) : (stepV v c x).ok := by
  obtain ⟨ha, hb, hc, hd, he, hf, hg, hh⟩ := h
  exact ⟨m32_range _, ha, hb, hc, m32_range _, he, hf, hg⟩
theorem ok_rounds {v : V8} (h : v.ok) (l : List Int) (k : Nat) : (roundsV v l k).ok := by
  induction k with
  | zero => exact h
  | succ k ih => exact ok_stepV ih _ _
theorem ok_block (v : V8) (b : List Int) : (blockV v b).ok := ok_addV _ _
theorem ok_H0 : H0.ok := by
  unfold H0 V8.ok W32
  decide
def BlkAt (w wr : World) (B : Nat) (v : V8) (l : List Int) : Prop :=
  Blk wr w.heap.size 117 v.cells ∧ (∃ z : V8, Blk wr (w.heap.size + 1) 117 z.cells) ∧ Blk wr B 123 (wcells l) ∧ Below w.heap.size w wr ∧ Tab wr
theorem BlkAt.drewN {w wr : World} {B : Nat} {v : V8} {l : List Int} (h : BlkAt w wr B v l) (q : Nat) : BlkAt w (wr.drewN q) B v l :=
  ⟨h.1, h.2.1, h.2.2.1, { h.2.2.2.1 with }, h.2.2.2.2⟩
def Z8 : V8 := ⟨0, 0, 0, 0, 0, 0, 0, 0⟩
theorem BlkAt.start {w w2 w3 : World} {v z : V8} {l : List Int} (h1 : Blk w2 w.heap.size 117 v.cells) (h2 : Blk w2 (w.heap.size + 1) 117 z.cells) (hb : Below w.heap.size w w2) (h3 : Below w2.heap.size w2 w3) (ht : Tab w) :
    BlkAt w ((w3.alloc (.cells Z64 123)).setRow w3.heap.size (wcells l)) w3.heap.size v l := by
  have k1 := h1.below h3 h1.lt
  have k2 := h2.below h3 h2.lt
  have l1 : w.heap.size < w3.heap.size := k1.lt
  have l2 : w.heap.size + 1 < w3.heap.size := k2.lt
  have hB : Below w.heap.size w ((w3.alloc (.cells Z64 123)).setRow w3.heap.size (wcells l)) := below_setRow ((Below.step hb h3).alloc (by omega) _) (by omega) _
  refine ⟨(setRow_other _ _ _ _ (by omega)).trans (k1.alloc _), ⟨z, (setRow_other _ _ _ _ (by omega)).trans (k2.alloc _)⟩, setRow_heap _ _ _ _ _ _ (Blk.new w3 123 Z64), hB, ht.below hB⟩
theorem addV_comm (v s : V8) : addV v s = addV s v := by
  unfold addV
  simp only [Int.add_comm]
theorem Tryz.size41 (v : V8) : (Tryz.prog.info? 117).map (·.size) = some v.cells.size := by
  show _ = some 8
  kernel_rfl
theorem cells_one (v : V8) : v.cells.all (·.oneCell') = true := by simp [V8.cells, Value.oneCell']
def GivesV (v : V8) (w : World) (e : Ending) (w' : World) : Prop := e = .returned (.agg v.cells) ∧ Below w.heap.size w w'
set_option maxHeartbeats 500000 in
set_option maxRecDepth 100000 in
theorem after_any (v : V8) (hv : v.ok) (a : Option Addr) (ca : Nat) (zs : List Int) (w : World) (hr : Row w a 64 zs) (hca : 64 ≤ ca) (ht : Tab w) : Calls Tryz.prog 113 #[.agg v.cells, .slice a 64 ca] w (GivesV (blockV v zs) w) := by
  have HB := Lib.hid hr.2.1
  have F : Hid (blockV v zs = addV (roundsV v (wordsZ8 zs 64) 64) v) := rfl
  have LL := wordsZ8_len zs 64
  have LR := Lib.hid (words_range hr.2.1 64)
  have VO := Lib.hid hv
  have CX := Lib.hid (fun W (hb : Below w.heap.size w W) => expanded_any a ca zs W (hr.below hb) hca)
  have B2 : Hid (Below w.heap.size w ((w.alloc (.cells v.cells 117)).alloc (.cells Z8.cells 117))) := Lib.hid (((Below.refl _ _).alloc (Nat.le_refl _) _).alloc (by simp) _)
  have A2 : Hid (Blk ((w.alloc (.cells v.cells 117)).alloc (.cells Z8.cells 117)) w.heap.size 117 v.cells) := Lib.hid ((Blk.new w _ _).alloc _)
  have A3 : Hid (Blk ((w.alloc (.cells v.cells 117)).alloc (.cells Z8.cells 117)) (w.heap.size + 1) 117 Z8.cells) := by
    have := Blk.new (w.alloc (.cells v.cells 117)) 117 Z8.cells
    rw [show (w.alloc (.cells v.cells 117)).heap.size = w.heap.size + 1 by simp] at this
    exact Lib.hid this
  have TA := Lib.hid ht
  clear hr hv ht
  generalize wordsZ8 zs 64 = l at *
  simp only [V8.cells, Z8] at A2 A3 B2 ⊢
  go_enter Tryz.func113, Tryz.ntmps113
  go_wp2_with fail
  generalize (w.alloc (.cells #[.int .u32 v.a, .int .u32 v.b, .int .u32 v.c, .int .u32 v.d, .int .u32 v.e, .int .u32 v.f, .int .u32 v.g, .int .u32 v.h] 117)).alloc (.cells #[.int .u32 0, .int .u32 0, .int .u32 0, .int .u32 0, .int .u32 0, .int .u32 0, .int .u32 0, .int .u32 0] 117) = w2 at *
  refine (CX.out _ B2.out).mono ?_
  rintro e w3 ⟨rfl, hb3⟩
  have L64 : l.length ≤ 64 := by omega
  have K4 : Hid (BlkAt w ((w3.alloc (.cells Z64 123)).setRow w3.heap.size (wcells l)) w3.heap.size v l) := Lib.hid (BlkAt.start (z := Z8) A2.out A3.out B2.out hb3 TA.out)
  have N3 := Lib.hid (Blk.new w3 123 Z64)
  clear hb3 CX A2 A3 B2 TA
  go_wp2_with (first
    | (refine Great.wpList_allocTo rfl (some 5) rfl (.pointer (some ⟨w3.heap.size, 0, none⟩)) (.cells Z64 123) rfl ?_)
    | (refine wpList_store_rowTo rfl 123 (.tmp 5) (.tmp 20) rfl rfl w3.heap.size (wcells l) rfl rfl 123 Z64 N3.out (Tryz.size53 l L64) (by rw [wcells_size l L64]; rfl) (wcells_one l) ?_))
  clear N3
  generalize (w3.alloc (.cells Z64 123)).setRow w3.heap.size (wcells l) = w4 at *
  generalize w3.heap.size = B at *
  have c0 := K4.out.1.cell 0
  have c1 := K4.out.1.cell 1
  have c2 := K4.out.1.cell 2
  have c3 := K4.out.1.cell 3
  have c4 := K4.out.1.cell 4
  have c5 := K4.out.1.cell 5
  have c6 := K4.out.1.cell 6
  have c7 := K4.out.1.cell 7
  simp only [V8.cells] at c0 c1 c2 c3 c4 c5 c6 c7
  go_quiet (fail)
  have K5 := Lib.hid (K4.out.drewN nq)
  generalize w4.drewN nq = w5 at *
  clear c0 c1 c2 c3 c4 c5 c6 c7 K4
  go_wp2_with fail
  go_loopw [6, 7, 8, 9, 10, 11, 12, 13, 37] (fun sa sb sc sd se sf sg sh i wr => ∃ k : Nat, k ≤ 64 ∧ i = .int .i64 (k : Int) ∧ sa = .int .u32 (roundsV v l k).a ∧ sb = .int .u32 (roundsV v l k).b ∧ sc = .int .u32 (roundsV v l k).c ∧ sd = .int .u32 (roundsV v l k).d ∧ se = .int .u32 (roundsV v l k).e ∧ sf = .int .u32 (roundsV v l k).f ∧ sg = .int .u32 (roundsV v l k).g ∧ sh = .int .u32 (roundsV v l k).h ∧ BlkAt w wr B v l) (fun _ _ _ _ _ _ _ _ i _ => (65 - intOf i).toNat)
  case atStart => exact ⟨0, by omega, rfl, rfl, rfl, rfl, rfl, rfl, rfl, rfl, rfl, K5.out⟩
  case round =>
    obtain ⟨k, hk, rfl, rfl, rfl, rfl, rfl, rfl, rfl, rfl, rfl, hb⟩ := hrel
    have K6 := Lib.hid hb
    clear hb K5
    by_cases hk2 : k < 64
    · have t0 : decide ((k : Int) < 64) = true := by simp; omega
      have kI : (k : Int) < 64 := by omega
      have RO := Lib.hid (ok_rounds VO.out l k)
      have RN : Hid (roundsV v l (k + 1) = stepV (roundsV v l k) (CONSTS[k]?.getD 0) (l[k]?.getD 0)) := Lib.hid rfl
      obtain ⟨s1, hs1⟩ : ∃ s1, roundsV v l (k + 1) = s1 := ⟨_, rfl⟩
      rw [hs1] at RN
      have HS1 := Lib.hid hs1
      clear hs1
      generalize roundsV v l k = s at *
      have g0 := (K6.out.2.2.1.cell k).trans (wcells_get l k hk2)
      have g1 := K6.out.2.2.2.2.const k hk2
      generalize CONSTS[k]?.getD 0 = cc at *
      generalize l[k]?.getD 0 = ww at *
      have RO' := RO.out
      obtain ⟨ra, rb, rc, rd, re, rf, rg, rh⟩ := RO'
      unfold W32 at ra rb rc rd re rf rg rh
      clear RO
      obtain ⟨a1, b1, c1, d1, e1, f1, g1', h1⟩ := s
      simp only at ra rb rc rd re rf rg rh ⊢
      go_wp2_with fail
      go_quiet ((go_at_call 129; exact Calls.quiet_of_same (rotri_any _ _ _ (by unfold Turns; decide) (by decide) (by omega) (by omega))))
      go_wp2_with (go_at_call 129; refine (rotri_any _ _ _ (by unfold Turns; decide) (by decide) (by omega) (by omega)).mono ?_; rintro e w' ⟨rfl, rfl⟩)
      go_roundw
      case rel => exact ⟨k + 1, by omega, by first | rfl | go_num, by rw [HS1.out, RN.out]; rfl, by rw [HS1.out, RN.out]; rfl, by rw [HS1.out, RN.out]; rfl, by rw [HS1.out, RN.out]; rfl, by rw [HS1.out, RN.out]; rfl, by rw [HS1.out, RN.out]; rfl, by rw [HS1.out, RN.out]; rfl, by rw [HS1.out, RN.out]; rfl, K6.out.drewN _⟩
      case measure => simp only [intOf]; omega
    · obtain rfl : k = 64 := by omega
      have c0 := K6.out.1.cell 0
      have c1 := K6.out.1.cell 1
      have c2 := K6.out.1.cell 2
      have c3 := K6.out.1.cell 3
      have c4 := K6.out.1.cell 4
      have c5 := K6.out.1.cell 5
      have c6 := K6.out.1.cell 6
      have c7 := K6.out.1.cell 7
      simp only [V8.cells] at c0 c1 c2 c3 c4 c5 c6 c7
      generalize roundsV v l 64 = s at *
      rw [show ((64 : Nat) : Int) = 64 by rfl]
      clear hk2
      obtain ⟨z, kz⟩ := K6.out.2.1
      have KZ := Lib.hid kz
      have KW := Lib.hid K6.out.2.2.2.1
      clear kz K6
      have F2 : Hid (blockV v zs = addV v s) := by rw [F.out, addV_comm]; exact Lib.hid rfl
      clear F
      go_wp2_with (refine wpList_store_rowTo rfl 117 (.tmp 4) (.tmp 134) rfl rfl (w.heap.size + 1) (addV v s).cells rfl rfl 117 z.cells KZ.out (Tryz.size41 _) rfl (cells_one _) ?_)
      exact bodyPost_ret (results_cell_row rfl _ _ (w.heap.size + 1) 117 (addV v s).cells (0, 0) (.array 8 23) rfl (setRow_heap _ _ _ _ 117 _ KZ.out) Tryz.underlying117 rfl (Tryz.size41 _)) rfl ⟨by rw [F2.out], below_setRow KW.out (by omega) _⟩
end Go.Proofs.YtgmefdmeeihgoaaGreatDoor
namespace Go.Proofs.YtgmefdmeeihgoaaGreatDoor
open Go.ChangeShapes Go.WideShapes Go.ChangeAt Go.RowKit
theorem own : ownKnob Tryz.prog.godebug = none := by kernel_rfl
theorem laidOut : laidOutB Tryz.prog = true := by kernel_rfl
def laids : List (String × DataW Unit) := [("lanyard/sha.startWords", Rows.laid_lanyard_sha_startWords), ("lanyard/sha.roundWords", Rows.laid_lanyard_sha_roundWords), ("unicode/utf8.acceptRanges", Rows.laid_unicode_utf8_acceptRanges), ("unicode/utf8.first", Rows.laid_unicode_utf8_first)]
theorem Tryz.cells37 : Tryz.prog.cellsOf 23 = 1 := by kernel_rfl
theorem row_of_laid {W : World} {cs : Array Value} {fuel n : Nat} {t : TypeId} {p : List MemPlace} (zs : List Int) (hn : zs.length = n) (hu : Tryz.prog.underlying t = some (.array n 23)) (hc : Tryz.prog.cellsOf t = n)
    (h : DataW.trod (fun _ => ()) Tryz.prog W 0 (fun _ => true) false fuel t cs.toList = some (.agg (zs.map fun z => .lit (.int .u32 z)), p)) : cs = (zs.map (Value.int .u32)).toArray := by
  obtain ⟨xs, m, _, ex, hlen, hl, hel⟩ := DataW.trod_array hu h
  have e3 : (xs.map (·.1)) = zs.map fun z => (DataW.lit (.int .u32 z) : DataW Unit) := (DataW.agg.inj (Prod.mk.inj ex).1).symm
  apply Array.ext'
  apply List.ext_getElem?
  intro i
  rcases Nat.lt_or_ge i n with hi | hi
  · have hE := hel i hi
    rw [Tryz.cells37, Nat.mul_one, List.getElem?_eq_getElem (by omega)] at hE
    obtain ⟨z, e1, e2, _⟩ := DataW.trod_int Tryz.underlying23 hE
    have e4 : (xs.map (·.1))[i]? = (zs.map fun z => (DataW.lit (.int .u32 z) : DataW Unit))[i]? := by rw [e3]
    rw [List.getElem?_map, List.getElem?_map, List.getElem?_eq_getElem (by omega : i < xs.length), List.getElem?_eq_getElem (by omega : i < zs.length), e2] at e4
    have hz : z = zs[i]'(by omega) := by
      simpa using e4
    have h0 : ((cs.toList.drop i).take 1)[0]? = some (.int .u32 z) := by rw [e1]; rfl
    rw [List.getElem?_take, if_pos (by omega), List.getElem?_drop, Nat.add_zero] at h0
    rw [h0, hz, List.getElem?_map, List.getElem?_eq_getElem (by omega : i < zs.length)]
    rfl
  · rw [List.getElem?_eq_none (by omega), List.getElem?_eq_none (by simp; omega)]
theorem var_block {W : World} {n : String} {g : Nat} {cs : Array Value} (hg : Tryz.prog.globalNamed n = some g) (h : W.var? Tryz.prog n = some cs) : ∃ t fr, W.heap[g]? = some (.cells cs t fr) := by
  simp only [World.var?, hg, Option.bind_some] at h
  split at h
  · rename_i c t fr hc
    injection h with h
    subst h
    exact ⟨t, fr, hc⟩
  · cases h
theorem start_laid : (Rows.laid_lanyard_sha_startWords : DataW Unit) = .agg (H0.list.map fun z => .lit (.int .u32 z)) := by kernel_rfl
theorem round_laid : (Rows.laid_lanyard_sha_roundWords : DataW Unit) = .agg (CONSTS.map fun z => .lit (.int .u32 z)) := by kernel_rfl
theorem tab_of {W : World} (h : laidMetH Tryz.prog laids W) : Tab W := by
  rw [MakeChecks.laidMetH_plain _ _ _ (by kernel_rfl)] at h
  obtain ⟨ps, ⟨g, t, cs, fuel, p, q, hg, ht, hv, hd, ⟨g1, t1, cs1, fuel1, p1, q1, hg1, ht1, hv1, hd1, _, _⟩, _⟩, _, _⟩ := h
  obtain rfl := Option.some.inj ((show Tryz.prog.globalNamed "lanyard/sha.startWords" = some 0 by kernel_rfl).symm.trans hg)
  obtain rfl := Option.some.inj ((show (Tryz.prog.globals[0]?).map (·.type) = some 117 by kernel_rfl).symm.trans ht)
  obtain rfl := Option.some.inj ((show Tryz.prog.globalNamed "lanyard/sha.roundWords" = some 1 by kernel_rfl).symm.trans hg1)
  obtain rfl := Option.some.inj ((show (Tryz.prog.globals[1]?).map (·.type) = some 123 by kernel_rfl).symm.trans ht1)
  rw [start_laid] at hd
  rw [round_laid] at hd1
  have e0 := row_of_laid H0.list rfl Tryz.underlying117 (by kernel_rfl) hd
  have e1 := row_of_laid CONSTS rfl Tryz.underlying123 (by kernel_rfl) hd1
  obtain ⟨t0, f0, b0⟩ := var_block (by kernel_rfl) hv
  obtain ⟨t1, f1, b1⟩ := var_block (by kernel_rfl) hv1
  have hlt : 1 < W.heap.size := (Array.getElem?_eq_some_iff.1 b1).1
  refine ⟨hlt, ⟨t0, f0, ?_⟩, t1, f1, ?_⟩
  · rw [b0, e0]
    rfl
  · rw [b1, e1]
    rfl
section
variable {H : Type} {enc : TypeId × Value → H}
set_option maxRecDepth 100000 in
theorem wrapped {f : FuncId} {fn : Func} {s : ChangeSpec} {conds : List PathCond} {os : Os} (started : os.Started) (noInit : Tryz.prog.inits.idxOf? f = none) (hfn : Tryz.prog.funcs[f]? = some fn)
    (witness : ∃ (w : World) (tape : Tape) (i : Input), w.os = os ∧ (w.forCall tape i).Shaped Tryz.prog ∧ i.vars = [] ∧ Input.okWide Tryz.prog (w.forCall tape i) .any w.heap.size f i ∧
      ((s.pre enc Tryz.prog fn conds false (w.forCall tape i).memory i.args ∧ laidMetH Tryz.prog laids (w.forCall tape i).memory) ∧ sizedMet enc Tryz.prog fn (OpenSpec.ofChange s) false (w.forCall tape i).memory i.args) ∧ ({} : Assume).holds Tryz.prog (lone (Frame.enter Tryz.prog f i.args .normal) [] (w.forCall tape i)))
    (contract : ∀ (W : World) (base : Nat) (args : Array Value) (ds gs : List (DataW H)) (before : List MemPlace),
      (∀ (j : Nat) t v, fn.params[j]? = some t → args[j]? = some v → Value.okWide Tryz.prog W .any base t v) →
      DataW.Whole enc Tryz.prog fn.params.toList s.vars false W args.toList ds gs before →
      Tab W →
      Calls Tryz.prog f args W fun e W' => ∃ v, e = .returned v ∧ s.post enc Tryz.prog fn false true false false W args v W') :
    ReturnsInHanded {} Tryz.checked os f .any (fun w args => (s.pre enc Tryz.prog fn conds false w args ∧ laidMetH Tryz.prog laids w) ∧ sizedMet enc Tryz.prog fn (OpenSpec.ofChange s) false w args) (s.post enc Tryz.prog fn false true false false) := by
  refine returnsInHanded_of_calls (C := Tryz.checked) own started noInit witness ?_
  intro w tape i _ hsh _ hok hpre _
  obtain ⟨_, _, _, fn', hfn', _, _, _, _, hval⟩ := hok
  obtain rfl : fn' = fn := Option.some.inj (hfn'.symm.trans hfn)
  obtain ⟨⟨⟨ds, gs, before, hw, _⟩, hl⟩, _⟩ := hpre
  have ht := tab_of hl
  refine (contract (w.forCall tape i) w.heap.size i.args ds gs before hval (DataW.Whole.of_heap (w' := w.forCall tape i) (by rfl) hw) (show Tab (w.forCall tape i) from ht)).mono fun e W' ⟨v, he, hp⟩ => ?_
  subst he
  exact ChangeSpec.post_blind hp
end
end Go.Proofs.YtgmefdmeeihgoaaGreatDoor
namespace Go.Proofs.YtgmefdmeeihgoaaGreatDoor
open Go.RowKit
inductive T where
  | node (tag : Int) (body : List Int) (kids : List T)
theorem T.all {p : T → Prop} (h : ∀ tag body kids, (∀ t ∈ kids, p t) → p (.node tag body kids)) (t : T) : p t :=
  T.rec (motive_1 := p) (motive_2 := fun l => ∀ t ∈ l, p t) (fun tag body kids ih => h tag body kids ih) (fun _ hm => absurd hm (by simp))
    (fun t r h1 h2 x hx => by
      rcases List.mem_cons.1 hx with e | hx
      · rw [e]
        exact h1
      · exact h2 x hx) t
mutual
def T.In (w : World) : T → Value → Prop
  | .node tag body kids, v => ∃ (A : Option Addr) (n c : Nat) (K : Option Addr) (m d : Nat), v = .agg #[.int .i64 tag, .slice A n c, .slice K m d] ∧ (Lit.int .i64 tag).wf = true ∧ Row w A n body ∧ n ≤ maxLen ∧ (A = none → c = 0) ∧ kids.length = m ∧ (m ≤ maxLen ∧ n ≤ c ∧ m ≤ d) ∧
      (0 < m → ∃ b off, K = some ⟨b, off, none⟩ ∧ b < w.heap.size ∧ T.InAll w kids b off)
def T.InAll (w : World) : List T → Nat → Nat → Prop
  | [], _, _ => True
  | t :: r, b, off => (∃ v0 v1 v2 : Value, w.cell? ⟨b, off, none⟩ = some v0 ∧ w.cell? ⟨b, off + 1, none⟩ = some v1 ∧ w.cell? ⟨b, off + 2, none⟩ = some v2 ∧ T.In w t (.agg #[v0, v1, v2])) ∧ T.InAll w r b (off + 3)
end
theorem T.InAll.at {w : World} : ∀ {ts : List T} {b off : Nat}, T.InAll w ts b off → ∀ (i : Nat) (h : i < ts.length), ∃ v0 v1 v2 : Value, w.cell? ⟨b, off + i * 3, none⟩ = some v0 ∧ w.cell? ⟨b, off + i * 3 + 1, none⟩ = some v1 ∧ w.cell? ⟨b, off + i * 3 + 2, none⟩ = some v2 ∧ T.In w ts[i] (.agg #[v0, v1, v2])
  | [], _, _, _, _, h => absurd h (by simp)
  | t :: r, b, off, h, 0, _ => by
    unfold T.InAll at h
    simpa using h.1
  | t :: r, b, off, h, i + 1, hi => by
    unfold T.InAll at h
    have := T.InAll.at h.2 i (by simpa using hi)
    rw [show off + 3 + i * 3 = off + (i + 1) * 3 by omega] at this
    simpa using this
theorem T.InAll.of {w : World} : ∀ {ts : List T} {b off : Nat}, (∀ (i : Nat) (h : i < ts.length), ∃ v0 v1 v2 : Value, w.cell? ⟨b, off + i * 3, none⟩ = some v0 ∧ w.cell? ⟨b, off + i * 3 + 1, none⟩ = some v1 ∧ w.cell? ⟨b, off + i * 3 + 2, none⟩ = some v2 ∧ T.In w ts[i] (.agg #[v0, v1, v2])) → T.InAll w ts b off
  | [], _, _, _ => by
    unfold T.InAll
    trivial
  | t :: r, b, off, h => by
    unfold T.InAll
    refine ⟨by
      have h0 := h 0 (by simp)
      rw [List.getElem_cons_zero, Nat.zero_mul, Nat.add_zero] at h0
      exact h0, T.InAll.of fun i hi => ?_⟩
    have := h (i + 1) (by simpa using hi)
    rw [show off + (i + 1) * 3 = off + 3 + i * 3 by omega] at this
    simpa using this
theorem T.In.below {w w' : World} (hb : Below w.heap.size w w') (t : T) : ∀ {v : Value}, t.In w v → t.In w' v := by
  refine T.all (p := fun t => ∀ {v : Value}, t.In w v → t.In w' v) ?_ t
  intro tag body kids ih v h
  unfold T.In at h ⊢
  obtain ⟨A, n, c, K, m, d, rfl, hw, hr, hn, hc, hm, hm', hk⟩ := h
  refine ⟨A, n, c, K, m, d, rfl, hw, hr.below hb, hn, hc, hm, hm', fun h0 => ?_⟩
  obtain ⟨b, off, e, hlt, ha⟩ := hk h0
  refine ⟨b, off, e, Nat.lt_of_lt_of_le hlt hb.size, T.InAll.of fun i hi => ?_⟩
  obtain ⟨v0, v1, v2, h0, h1, h2, h3⟩ := ha.at i hi
  exact ⟨v0, v1, v2, (hb.cell (p := ⟨b, off + i * 3, none⟩) hlt).trans h0, (hb.cell (p := ⟨b, off + i * 3 + 1, none⟩) hlt).trans h1, (hb.cell (p := ⟨b, off + i * 3 + 2, none⟩) hlt).trans h2, ih _ (List.getElem_mem hi) h3⟩
def T.tag : T → Int | .node t _ _ => t
def T.body : T → List Int | .node _ b _ => b
def T.kids : T → List T | .node _ _ k => k
theorem T.each {p : T → Prop} (h : ∀ t, (∀ k ∈ t.kids, p k) → p t) (t : T) : p t := T.all (fun tag body kids ih => h (.node tag body kids) ih) t
theorem T.In.open {w : World} {t : T} {v : Value} (h : t.In w v) : ∃ (A : Option Addr) (n c : Nat) (K : Option Addr) (m d : Nat), v = .agg #[.int .i64 t.tag, .slice A n c, .slice K m d] ∧ (Lit.int .i64 t.tag).wf = true ∧ Row w A n t.body ∧ n ≤ maxLen ∧ (A = none → c = 0) ∧ t.kids.length = m ∧ (m ≤ maxLen ∧ n ≤ c ∧ m ≤ d) ∧
      (∀ i, i < m → ∃ b off, K = some ⟨b, off, none⟩ ∧ b < w.heap.size ∧ ∃ v0 v1 v2 : Value, w.cell? ⟨b, off + i * 3, none⟩ = some v0 ∧ w.cell? ⟨b, off + i * 3 + 1, none⟩ = some v1 ∧ w.cell? ⟨b, off + i * 3 + 2, none⟩ = some v2 ∧ (t.kids[i]?.getD (.node 0 [] [])).In w (.agg #[v0, v1, v2])) := by
  obtain ⟨tag, body, kids⟩ := t
  unfold T.In at h
  obtain ⟨A, n, c, K, m, d, rfl, hw, hr, hn, hc, hm, hm', hk⟩ := h
  refine ⟨A, n, c, K, m, d, rfl, hw, hr, hn, hc, hm, hm', fun i hi => ?_⟩
  obtain ⟨b, off, e, hlt, ha⟩ := hk (by omega)
  have hi' : i < kids.length := by omega
  obtain ⟨v0, v1, v2, h⟩ := ha.at i hi'
  refine ⟨b, off, e, hlt, v0, v1, v2, ?_⟩
  simp only [T.kids, List.getElem?_eq_getElem hi', Option.getD_some]
  exact h
theorem T.In.form {w : World} {t : T} {v0 v1 v2 : Value} (h : t.In w (.agg #[v0, v1, v2])) : ∃ (z : Int) (A : Option Addr) (n c : Nat) (K : Option Addr) (m d : Nat), v0 = .int .i64 z ∧ v1 = .slice A n c ∧ v2 = .slice K m d := by
  obtain ⟨A, n, c, K, m, d, e, _⟩ := h.open
  simp only [Value.agg.injEq] at e
  have e' := congrArg Array.toList e
  simp only [List.cons.injEq, and_true] at e'
  exact ⟨_, A, n, c, K, m, d, e'.1, e'.2.1, e'.2.2⟩
structure Box (w wr : World) (g : Nat) (t : T) (A : Option Addr) (n c : Nat) (K : Option Addr) (m d : Nat) : Prop where
  base : w.heap.size ≤ g
  blk : Blk wr g 28 #[.int .i64 t.tag, .slice A n c, .slice K m d]
  below : Below w.heap.size w wr
  has : t.In wr (.agg #[.int .i64 t.tag, .slice A n c, .slice K m d])
theorem Box.start {w : World} {t : T} {A : Option Addr} {n c : Nat} {K : Option Addr} {m d : Nat} (h : t.In w (.agg #[.int .i64 t.tag, .slice A n c, .slice K m d])) : Box w (w.alloc (.cells #[.int .i64 t.tag, .slice A n c, .slice K m d] 28)) w.heap.size t A n c K m d :=
  ⟨Nat.le_refl _, Blk.new _ _ _, (Below.refl _ _).alloc (Nat.le_refl _) _, T.In.below ((Below.refl _ _).alloc (Nat.le_refl _) _) t h⟩
theorem Box.go {w wr w' : World} {g : Nat} {t : T} {A : Option Addr} {n c : Nat} {K : Option Addr} {m d : Nat} (h : Box w wr g t A n c K m d) (hb : Below wr.heap.size wr w') : Box w w' g t A n c K m d :=
  ⟨h.base, h.blk.below hb h.blk.lt, Below.step h.below hb, T.In.below hb t h.has⟩
theorem Box.cells {w wr : World} {g : Nat} {t : T} {A : Option Addr} {n c : Nat} {K : Option Addr} {m d : Nat} (h : Box w wr g t A n c K m d) : wr.cell? ⟨g, 0, none⟩ = some (.int .i64 t.tag) ∧ wr.cell? ⟨g, 1, none⟩ = some (.slice A n c) ∧ wr.cell? ⟨g, 2, none⟩ = some (.slice K m d) :=
  ⟨h.blk.cell 0, h.blk.cell 1, h.blk.cell 2⟩
theorem Box.kid {w wr : World} {g : Nat} {t : T} {A : Option Addr} {n c : Nat} {K : Option Addr} {m d : Nat} (h : Box w wr g t A n c K m d) (i : Nat) (hi : i < m) : ∃ (k : T) (b off : Nat) (z : Int) (A' : Option Addr) (n' c' : Nat) (K' : Option Addr) (m' d' : Nat), t.kids[i]? = some k ∧ K = some ⟨b, off, none⟩ ∧
    wr.cell? ⟨b, off + i * 3, none⟩ = some (.int .i64 z) ∧ wr.cell? ⟨b, off + i * 3 + 1, none⟩ = some (.slice A' n' c') ∧ wr.cell? ⟨b, off + i * 3 + 2, none⟩ = some (.slice K' m' d') ∧ k.In wr (.agg #[.int .i64 z, .slice A' n' c', .slice K' m' d']) := by
  obtain ⟨A1, n1, c1, K1, m1, d1, e, _, _, _, _, hm, _, hk⟩ := h.has.open
  simp only [Value.agg.injEq] at e
  have e' := congrArg Array.toList e
  simp only [List.cons.injEq, and_true, Value.slice.injEq, true_and] at e'
  obtain ⟨⟨rfl, rfl, rfl⟩, rfl, rfl, rfl⟩ := e'
  obtain ⟨b, off, rfl, hb, v0, v1, v2, h0, h1, h2, h3⟩ := hk i hi
  obtain ⟨z, A', n', c', K', m', d', rfl, rfl, rfl⟩ := h3.form
  have hi' : i < t.kids.length := by omega
  rw [List.getElem?_eq_getElem hi', Option.getD_some] at h3
  exact ⟨t.kids[i], b, off, z, A', n', c', K', m', d', List.getElem?_eq_getElem hi', rfl, h0, h1, h2, h3⟩
end Go.Proofs.YtgmefdmeeihgoaaGreatDoor
namespace Go.Proofs.YtgmefdmeeihgoaaGreatDoor
open Go.RowKit
mutual
def T.InP (P : Nat → Prop) (w : World) : T → Value → Prop
  | .node tag body kids, v => ∃ (A : Option Addr) (n c : Nat) (K : Option Addr) (m d : Nat), v = .agg #[.int .i64 tag, .slice A n c, .slice K m d] ∧ (Lit.int .i64 tag).wf = true ∧ Row w A n body ∧ n ≤ maxLen ∧ (A = none → c = 0) ∧ kids.length = m ∧ (m ≤ maxLen ∧ n ≤ c ∧ m ≤ d) ∧
      (0 < n → ∃ b off, A = some ⟨b, off, none⟩ ∧ P b) ∧ (0 < m → ∃ b off, K = some ⟨b, off, none⟩ ∧ b < w.heap.size ∧ P b ∧ T.InPAll P w kids b off)
def T.InPAll (P : Nat → Prop) (w : World) : List T → Nat → Nat → Prop
  | [], _, _ => True
  | t :: r, b, off => (∃ v0 v1 v2 : Value, w.cell? ⟨b, off, none⟩ = some v0 ∧ w.cell? ⟨b, off + 1, none⟩ = some v1 ∧ w.cell? ⟨b, off + 2, none⟩ = some v2 ∧ T.InP P w t (.agg #[v0, v1, v2])) ∧ T.InPAll P w r b (off + 3)
end
theorem T.InPAll.at {P : Nat → Prop} {w : World} : ∀ {ts : List T} {b off : Nat}, T.InPAll P w ts b off → ∀ (i : Nat) (h : i < ts.length), ∃ v0 v1 v2 : Value, w.cell? ⟨b, off + i * 3, none⟩ = some v0 ∧ w.cell? ⟨b, off + i * 3 + 1, none⟩ = some v1 ∧ w.cell? ⟨b, off + i * 3 + 2, none⟩ = some v2 ∧ T.InP P w ts[i] (.agg #[v0, v1, v2])
  | [], _, _, _, _, h => absurd h (by simp)
  | t :: r, b, off, h, 0, _ => by
    unfold T.InPAll at h
    simpa using h.1
  | t :: r, b, off, h, i + 1, hi => by
    unfold T.InPAll at h
    have := T.InPAll.at h.2 i (by simpa using hi)
    rw [show off + 3 + i * 3 = off + (i + 1) * 3 by omega] at this
    simpa using this
theorem T.InPAll.of {P : Nat → Prop} {w : World} : ∀ {ts : List T} {b off : Nat}, (∀ (i : Nat) (h : i < ts.length), ∃ v0 v1 v2 : Value, w.cell? ⟨b, off + i * 3, none⟩ = some v0 ∧ w.cell? ⟨b, off + i * 3 + 1, none⟩ = some v1 ∧ w.cell? ⟨b, off + i * 3 + 2, none⟩ = some v2 ∧ T.InP P w ts[i] (.agg #[v0, v1, v2])) → T.InPAll P w ts b off
  | [], _, _, _ => by
    unfold T.InPAll
    trivial
  | t :: r, b, off, h => by
    unfold T.InPAll
    refine ⟨by
      have h0 := h 0 (by simp)
      rw [List.getElem_cons_zero, Nat.zero_mul, Nat.add_zero] at h0
      exact h0, T.InPAll.of fun i hi => ?_⟩
    have := h (i + 1) (by simpa using hi)
    rw [show off + (i + 1) * 3 = off + 3 + i * 3 by omega] at this
    simpa using this
theorem T.InP.keep {P Q : Nat → Prop} {w w' : World} (hP : ∀ b, b < w.heap.size → P b → Q b ∧ w'.heap[b]? = w.heap[b]?) (hs : w.heap.size ≤ w'.heap.size) (t : T) : ∀ {v : Value}, t.InP P w v → t.InP Q w' v := by
  refine T.all (p := fun t => ∀ {v : Value}, t.InP P w v → t.InP Q w' v) ?_ t
  intro tag body kids ih v h
  unfold T.InP at h ⊢
  obtain ⟨A, n, c, K, m, d, rfl, hw, hr, hn, hc, hm, hm', hp, hk⟩ := h
  refine ⟨A, n, c, K, m, d, rfl, hw, ⟨hr.1, hr.2.1, fun h0 => ?_⟩, hn, hc, hm, hm', fun h0 => ?_, fun h0 => ?_⟩
  · obtain ⟨b, off, e, hb, hcell⟩ := hr.2.2 h0
    obtain ⟨b', off', e', hb'⟩ := hp h0
    rw [e] at e'
    obtain ⟨rfl, rfl⟩ : b = b' ∧ off = off' := by simpa using e'
    refine ⟨b, off, e, by omega, fun i hi => ?_⟩
    rw [← hcell i hi]
    simp only [World.cell?, (hP b hb hb').2]
  · obtain ⟨b, off, e, hb, _⟩ := hr.2.2 h0
    obtain ⟨b', off', e', hb'⟩ := hp h0
    rw [e] at e'
    obtain ⟨rfl, rfl⟩ : b = b' ∧ off = off' := by simpa using e'
    exact ⟨b, off, e, (hP b hb hb').1⟩
  · obtain ⟨b, off, e, hlt, hb, ha⟩ := hk h0
    refine ⟨b, off, e, by omega, (hP b hlt hb).1, T.InPAll.of fun i hi => ?_⟩
    obtain ⟨v0, v1, v2, h0, h1, h2, h3⟩ := ha.at i hi
    refine ⟨v0, v1, v2, ?_, ?_, ?_, ih _ (List.getElem_mem hi) h3⟩
    · rw [← h0]
      simp only [World.cell?, (hP b hlt hb).2]
    · rw [← h1]
      simp only [World.cell?, (hP b hlt hb).2]
    · rw [← h2]
      simp only [World.cell?, (hP b hlt hb).2]
theorem T.InP.in {P : Nat → Prop} {w : World} (t : T) : ∀ {v : Value}, t.InP P w v → t.In w v := by
  refine T.all (p := fun t => ∀ {v : Value}, t.InP P w v → t.In w v) ?_ t
  intro tag body kids ih v h
  unfold T.InP at h
  unfold T.In
  obtain ⟨A, n, c, K, m, d, rfl, hw, hr, hn, hc, hm, hm', hp, hk⟩ := h
  refine ⟨A, n, c, K, m, d, rfl, hw, hr, hn, hc, hm, hm', fun h0 => ?_⟩
  obtain ⟨b, off, e, hlt, hb, ha⟩ := hk h0
  refine ⟨b, off, e, hlt, T.InAll.of fun i hi => ?_⟩
  obtain ⟨v0, v1, v2, h0, h1, h2, h3⟩ := ha.at i hi
  exact ⟨v0, v1, v2, h0, h1, h2, ih _ (List.getElem_mem hi) h3⟩
theorem T.InP.below {P Q : Nat → Prop} {w w' : World} (hb : Below w.heap.size w w') (hq : ∀ b, P b → Q b) (t : T) {v : Value} (h : t.InP P w v) : t.InP Q w' v :=
  T.InP.keep (fun b hlt hp => ⟨hq b hp, hb.block b hlt⟩) hb.size t h
theorem T.InP.form {P : Nat → Prop} {w : World} {t : T} {v : Value} (h : t.InP P w v) : ∃ (A : Option Addr) (n c : Nat) (K : Option Addr) (m d : Nat), v = .agg #[.int .i64 t.tag, .slice A n c, .slice K m d] := by
  obtain ⟨A, n, c, K, m, d, e, _⟩ := (T.InP.in t h).open
  exact ⟨A, n, c, K, m, d, e⟩
theorem Tryz.infoNode : (Tryz.prog.info? 28).map (fun i => (i.zero, i.size, i.bytes)) = some (some (.agg #[.int .i64 0, .slice none 0 0, .slice none 0 0]), 3, 56) := by kernel_rfl
def Apart (g : Nat) (V : Value) (b : Nat) : Prop := g < b ∧ V.ownBlock ≠ some b
def NOut (W0 wr : World) (g : Nat) (V : Value) (ks : List T) : Prop :=
  Below W0.heap.size W0 wr ∧ ∃ xs : List Value, wr.ownsRow W0.heap.size 28 3 V ks.length xs ∧
    ∀ i (h : i < ks.length), ∃ v0 v1 v2 : Value, xs[i * 3]? = some v0 ∧ xs[i * 3 + 1]? = some v1 ∧ xs[i * 3 + 2]? = some v2 ∧ (ks[i]).InP (Apart g V) wr (.agg #[v0, v1, v2])
theorem NOut.start {W0 wr : World} (hb : Below W0.heap.size W0 wr) (g : Nat) : NOut W0 wr g (.slice none 0 0) [] :=
  ⟨hb, [], World.ownsRow_nil _ _ _ _, fun i h => absurd h (by simp)⟩
theorem NOut.below {W0 wr w' : World} {g : Nat} {V : Value} {ks : List T} (h : NOut W0 wr g V ks) (hb : Below wr.heap.size wr w') : NOut W0 w' g V ks := by
  obtain ⟨h1, xs, h2, h3⟩ := h
  refine ⟨Below.trans h1 (hb.mono h1.size), xs, ⟨h2.1, ?_⟩, fun i hi => ?_⟩
  · rcases h2.2 with h' | ⟨g, cap, cur, e, h1, h2, h3⟩
    · exact .inl h'
    · exact .inr ⟨g, cap, cur, e, h1, (hb.block g (Array.getElem?_eq_some_iff.1 h2).1).trans h2, h3⟩
  · obtain ⟨v0, v1, v2, e0, e1, e2, hin⟩ := h3 i hi
    exact ⟨v0, v1, v2, e0, e1, e2, T.InP.below hb (fun _ h => h) _ hin⟩
theorem NOut.store {W0 wr : World} {g : Nat} {V : Value} {ks : List T} (h : NOut W0 wr g V ks) (hg : W0.heap.size ≤ g) (hV : V.ownBlock ≠ some g) (j : Nat) (v : Value) : NOut W0 (wr.setCell ⟨g, j, none⟩ v) g V ks := by
  obtain ⟨h1, xs, h2, h3⟩ := h
  refine ⟨h1.setCell (by show W0.heap.size ≤ g; exact hg) _, xs, ⟨h2.1, ?_⟩, fun i hi => ?_⟩
  · rcases h2.2 with h' | ⟨g', cap, cur, e, h1, h2, h3⟩
    · exact .inl h'
    · refine .inr ⟨g', cap, cur, e, h1, ?_, h3⟩
      rw [← h2]
      exact heap_setCell_other wr ⟨g, j, none⟩ g' v (fun he => hV (by have he' : g' = g := he; rw [e, he']; rfl))
  · obtain ⟨v0, v1, v2, e0, e1, e2, hin⟩ := h3 i hi
    refine ⟨v0, v1, v2, e0, e1, e2, T.InP.keep (fun b hb hp => ⟨hp, ?_⟩) (by simp) _ hin⟩
    exact heap_setCell_other wr ⟨g, j, none⟩ b v (fun he => by
      have he' : b = g := he
      have := hp.1
      omega)
theorem NOut.form {W0 wr : World} {g : Nat} {V : Value} {ks : List T} (h : NOut W0 wr g V ks) : ∃ (K : Option Addr) (d : Nat), V = .slice K ks.length d := by
  obtain ⟨_, xs, h2, _⟩ := h
  rcases h2.2 with ⟨rfl, h0⟩ | ⟨g', cap, cur, e, _⟩
  · exact ⟨none, 0, by rw [h0]⟩
  · exact ⟨_, cap, e⟩
theorem nout_append {ops : Array Oper} {rest : List Oper} {o : Oper} {a : Act} {Q : Exit → Act → World → Prop} {W0 wr : World} {g : Nat} {V : Value} {ks : List T} {t : T} {v0 v1 v2 : Value} (hgd : o.guard = none) (x y : Operand)
    (hop : o.op = .call { callee := .builtin .append, args := #[x, y], argTypes := #[26, 26] }) (hs : a.eval x = V) (hout : NOut W0 wr g V ks) (hin : t.InP (Apart g V) wr (.agg #[v0, v1, v2]))
    (H : Nat) (hH : wr.heap.size = H) (hx : a.eval y = .slice (some ⟨H, 0, none⟩) 1 1) (hl : ks.length + 1 ≤ 100000)
    (h : ∀ V' w', NOut W0 w' g V' (ks ++ [t]) → (V'.ownBlock = V.ownBlock ∨ V'.ownBlock = some (wr.heap.size + 1)) → (∀ b, b < wr.heap.size → V.ownBlock ≠ some b → w'.heap[b]? = wr.heap[b]?) → Below W0.heap.size wr w' → wpList Tryz.prog ops Q rest (a.put o.dst V') w') :
    wpList Tryz.prog ops Q (o :: rest) a (wr.alloc (.cells #[v0, v1, v2] 28)) := by
  subst hH
  obtain ⟨i0, hi5, hz0, hz1, hz2⟩ := info_parts Tryz.infoNode
  obtain ⟨hb0, xs, hown, hks⟩ := hout
  have hown2 := hown.alloc (.cells #[v0, v1, v2] 28)
  have hsz : (wr.alloc (.cells #[v0, v1, v2] 28)).heap.size = wr.heap.size + 1 := by simp
  obtain ⟨A, n, c, K, m, d, e⟩ := hin.form
  simp only [Value.agg.injEq] at e
  have e' := congrArg Array.toList e
  simp only [List.cons.injEq, and_true] at e'
  obtain ⟨rfl, rfl, rfl⟩ := e'
  refine wpList_append_own_at _ hgd x y 26 hop W0.heap.size 28 i0 _ 3 56 Tryz.underlying26 hi5 hz0 hz1 hz2 rfl (by decide) V ks.length xs hs hown2 ⟨wr.heap.size, 0, none⟩ 1 1 [.int .i64 t.tag, .slice A n c, .slice K m d] hx rfl ?_ ?_ (by unfold maxLen; omega) (by omega) (by have := hb0.size; omega) ?_
  · intro j u hu
    have e0 := heap_alloc_new wr (.cells #[.int .i64 t.tag, .slice A n c, .slice K m d] 28)
    rcases j with _ | _ | _ | j
    · obtain rfl : Value.int .i64 t.tag = u := by simpa using hu
      simp only [Addr.add_lit, World.cell?, e0]
      rfl
    · obtain rfl : Value.slice A n c = u := by simpa using hu
      simp only [Addr.add_lit, World.cell?, e0]
      rfl
    · obtain rfl : Value.slice K m d = u := by simpa using hu
      simp only [Addr.add_lit, World.cell?, e0]
      rfl
    · simp at hu
  · intro u hu
    simp only [List.mem_cons, List.mem_nil_iff, or_false] at hu
    rcases hu with rfl | rfl | rfl <;> rfl
  · intro V' w' h1 hg1 _ hat
    have hkeep : ∀ b, b < wr.heap.size → V.ownBlock ≠ some b → w'.heap[b]? = wr.heap[b]? := fun b hb hne =>
      (hg1.block b (by omega) (fun e => hne e.symm)).trans (Below.heap_alloc wr _ b hb)
    have hAp : ∀ b, b < wr.heap.size → Apart g V b → Apart g V' b ∧ w'.heap[b]? = wr.heap[b]? := by
      intro b hb hp
      refine ⟨⟨hp.1, ?_⟩, hkeep b hb hp.2⟩
      rcases hat with h' | h'
      · rw [h']
        exact hp.2
      · rw [h', hsz]
        intro e
        injection e with e
        omega
    have hsz2 : wr.heap.size ≤ w'.heap.size := by have := hg1.size; omega
    have hB : Below W0.heap.size wr w' := ((Below.refl _ _).alloc hb0.size (.cells #[.int .i64 t.tag, .slice A n c, .slice K m d] 28)).grown hg1 (by have := hb0.size; omega) (fun k hk => (hown2.lt k hk).1)
    refine h V' w' ⟨hb0.trans hB, xs ++ [.int .i64 t.tag, .slice A n c, .slice K m d], by rw [List.length_append]; exact h1, fun i hi => ?_⟩ ?_ hkeep hB
    · have hxl : xs.length = ks.length * 3 := hown.1
      rcases Nat.lt_or_ge i ks.length with hlt | hge
      · obtain ⟨u0, u1, u2, e0, e1, e2, hin'⟩ := hks i hlt
        refine ⟨u0, u1, u2, ?_, ?_, ?_, ?_⟩
        · rw [List.getElem?_append_left (by omega)]; exact e0
        · rw [List.getElem?_append_left (by omega)]; exact e1
        · rw [List.getElem?_append_left (by omega)]; exact e2
        · rw [List.getElem_append_left hlt]
          exact T.InP.keep hAp hsz2 _ hin'
      · obtain rfl : i = ks.length := by simp at hi; omega
        refine ⟨.int .i64 t.tag, .slice A n c, .slice K m d, ?_, ?_, ?_, ?_⟩
        · rw [List.getElem?_append_right (by omega), show ks.length * 3 - xs.length = 0 by omega]; rfl
        · rw [List.getElem?_append_right (by omega), show ks.length * 3 + 1 - xs.length = 1 by omega]; rfl
        · rw [List.getElem?_append_right (by omega), show ks.length * 3 + 2 - xs.length = 2 by omega]; rfl
        · rw [List.getElem_append_right (Nat.le_refl _)]
          simp only [Nat.sub_self, List.getElem_singleton]
          exact T.InP.keep hAp hsz2 _ hin
    · rw [← hsz]
      exact hat
theorem NOut.done {W0 wr : World} {g : Nat} {V : Value} {ks : List T} (h : NOut W0 wr g V ks) (hg : W0.heap.size ≤ g) {z : Int} (hz : (Lit.int .i64 z).wf = true) : (T.node z [] ks).InP (W0.heap.size ≤ ·) wr (.agg #[.int .i64 z, .slice none 0 0, V]) := by
  obtain ⟨hb, xs, hown, hks⟩ := h
  unfold T.InP
  have hxl : xs.length = ks.length * 3 := hown.1
  rcases hown.2 with ⟨rfl, h0⟩ | ⟨g', cap, cur, rfl, h1, h2, h3, h4, h5⟩
  · have : ks = [] := List.eq_nil_of_length_eq_zero h0
    subst this
    exact ⟨none, 0, 0, none, 0, 0, rfl, hz, Row.nil _ _, Nat.zero_le _, fun _ => rfl, rfl, ⟨Nat.zero_le _, Nat.le_refl _, Nat.le_refl _⟩, fun h => absurd h (by omega), fun h => absurd h (by omega)⟩
  · refine ⟨none, 0, 0, some ⟨g', 0, none⟩, ks.length, cap, rfl, hz, Row.nil _ _, Nat.zero_le _, fun _ => rfl, rfl, ⟨Nat.le_trans h3 h4, Nat.le_refl _, h3⟩, fun h => absurd h (by omega), fun _ => ⟨g', 0, rfl, (Array.getElem?_eq_some_iff.1 h2).1, h1, T.InPAll.of fun i hi => ?_⟩⟩
    obtain ⟨u0, u1, u2, e0, e1, e2, hin'⟩ := hks i hi
    refine ⟨u0, u1, u2, ?_, ?_, ?_, T.InP.keep (fun b _ hp => ⟨by have := hp.1; omega, rfl⟩) (Nat.le_refl _) _ hin'⟩
    · rw [Nat.zero_add, hown.cellAt _ (by omega)]; exact e0
    · rw [Nat.zero_add, hown.cellAt _ (by omega)]; exact e1
    · rw [Nat.zero_add, hown.cellAt _ (by omega)]; exact e2
end Go.Proofs.YtgmefdmeeihgoaaGreatDoor
namespace Go.Proofs.YtgmefdmeeihgoaaGreatDoor
open Go.RowKit
set_option linter.unusedVariables false
def bareZ : List Int → List Int
  | [] => []
  | z :: r => if z = 0 then bareZ r else z :: r
theorem bare_drop {zs : List Int} {k : Nat} (h : k < zs.length) : bareZ (zs.drop k) = if zs[k]?.getD 0 = 0 then bareZ (zs.drop (k + 1)) else zs.drop k := by
  rw [List.drop_eq_getElem_cons h, bareZ, List.getElem?_eq_getElem h]
  rfl
theorem bare_le (zs : List Int) : (bareZ zs).length ≤ zs.length := by
  induction zs with
  | nil => exact Nat.le_refl _
  | cons z r ih =>
    rw [bareZ]
    split
    · rw [List.length_cons]; omega
    · exact Nat.le_refl _
theorem bare_mem {zs : List Int} {x : Int} (h : x ∈ bareZ zs) : x ∈ zs := by
  induction zs with
  | nil => exact h
  | cons z r ih =>
    rw [bareZ] at h
    split at h
    · exact List.mem_cons_of_mem _ (ih h)
    · exact h
set_option maxHeartbeats 1000000 in
theorem rbare_any (a : Option Addr) (n ca : Nat) (zs : List Int) (w : World) (hr : Row w a n zs) (hnc : n ≤ ca) (hn : n ≤ 100000) (hnil : a = none → ca = 0) : Calls Tryz.prog 63 #[.slice a n ca] w (GivesNew (bareZ zs) w) := by
  have R0 := Lib.hid hr
  have NI := Lib.hid hnil
  have HL := Lib.hid hr.1
  clear hr hnil
  go_enter Tryz.func63, Tryz.ntmps63
  go_wp2_with fail
  go_loopw [3] (fun i wr => ∃ k : Nat, k ≤ n ∧ i = .int .i64 (k : Int) ∧ wr = w ∧ bareZ (zs.drop k) = bareZ zs) (fun i _ => n - (intOf i).toNat)
  case atStart => exact ⟨0, by omega, rfl, rfl, by simp⟩
  case round =>
    obtain ⟨k, hk, rfl, rfl, hb⟩ := hrel
    have HB := Lib.hid hb
    clear hb
    have tail : ∀ j : Nat, j = k → bareZ zs = zs.drop k → True := fun _ _ _ => trivial
    clear tail
    by_cases hlt : k < n
    · obtain ⟨b, off, rfl, hbl, hc⟩ := R0.out.2.2 (by omega)
      have c0 := hc k hlt
      have z0 := R0.out.byte k
      have BD := Lib.hid (bare_drop (zs := zs) (k := k) (by rw [HL.out]; exact hlt))
      clear hc
      by_cases hz : zs[k]?.getD 0 = 0
      · have N : Hid (bareZ (zs.drop (k + 1)) = bareZ zs) := by
          rw [← HB.out, BD.out, if_pos hz]
          exact Lib.hid rfl
        rw [hz] at c0
        clear BD HB hz z0
        go_wp2_with fail
        go_roundw
        case rel => exact ⟨k + 1, by omega, by go_num, trivial, N.out⟩
        case measure => simp [intOf]; omega
      · have F : Hid (bareZ zs = zs.drop k) := by
          rw [← HB.out, BD.out, if_neg hz]
          exact Lib.hid rfl
        have t0 : (zs[k]?.getD 0 == 0) = false := by simpa using hz
        generalize zs[k]?.getD 0 = x at c0 z0 t0
        have hck : ¬ ca = k := by omega
        have RW := Lib.hid (R0.out.rest k ca hk hnc)
        rw [if_neg hck, Option.map_some, Addr.add_lit] at RW
        have RX := Lib.hid (RW.out.below ((Below.refl wr.heap.size wr).alloc (Nat.le_refl _) (.cells #[] 5)))
        clear BD HB hz RW
        go_wp2_with (at_builtin; go_must (refine out_append (W0 := wr) (L := []) (zs := zs.drop k) rfl _ _ rfl rfl (out_zero wr) rfl RX.out (fun e => by cases e) (by simp; omega) ?_; intro V1 w1 ho1; rw [List.nil_append] at ho1; have HO := Lib.hid ho1; clear ho1))
        go_ret
        exact ⟨V1, rfl, by rw [F.out]; exact HO.out⟩
    · obtain rfl : k = n := by omega
      have F : Hid (bareZ zs = []) := by
        rw [← HB.out, List.drop_of_length_le (by rw [HL.out]; exact Nat.le_refl _)]
        exact Lib.hid rfl
      have RX := Lib.hid (Row.nil (wr.alloc (.cells #[] 5)))
      by_cases hck : ca = k
      · clear HB
        subst hck
        go_wp2_with (at_builtin; go_must (refine out_append (W0 := wr) (L := []) (zs := []) rfl _ _ rfl rfl (out_zero wr) rfl (RX.out _) (fun _ => by first | rfl | omega) (by simp) ?_; intro V1 w1 ho1; rw [List.nil_append] at ho1; have HO := Lib.hid ho1; clear ho1))
        go_ret
        exact ⟨V1, rfl, by rw [F.out]; exact HO.out⟩
      · clear HB
        have NA : Hid (Option.map (fun x => x.add k) a = none → ca - k = 0) := fun e => by
          have : a = none := by
            cases a with
            | none => rfl
            | some x => cases e
          rw [NI.out this]
          omega
        go_wp2_with (at_builtin; go_must (refine out_append (W0 := wr) (L := []) (zs := []) rfl _ _ rfl rfl (out_zero wr) rfl (RX.out _) NA.out (by simp) ?_; intro V1 w1 ho1; rw [List.nil_append] at ho1; have HO := Lib.hid ho1; clear ho1))
        go_ret
        exact ⟨V1, rfl, by rw [F.out]; exact HO.out⟩
end Go.Proofs.YtgmefdmeeihgoaaGreatDoor
namespace Go.Proofs.YtgmefdmeeihgoaaGreatDoor
open Go.RowKit
mutual
def weighT : T → Nat → Int
  | .node _ body kids, deep => if 60 < deep then 30000 else weighAll kids deep (1 + (if (body.length : Int) < 30000 then (body.length : Int) else 30000))
def weighAll : List T → Nat → Int → Int
  | [], _, a => a
  | t :: r, deep, a => if a < 30000 then weighAll r deep (a + weighT t (deep + 1)) else a
end
theorem weighT_eq (t : T) (deep : Nat) : weighT t deep = if 60 < deep then 30000 else weighAll t.kids deep (1 + (if (t.body.length : Int) < 30000 then (t.body.length : Int) else 30000)) := by
  obtain ⟨tag, body, kids⟩ := t
  rw [weighT]
  rfl
theorem weigh_ge (t : T) : ∀ deep, 0 ≤ weighT t deep := by
  refine T.all (p := fun t => ∀ deep, 0 ≤ weighT t deep) ?_ t
  intro tag body kids ih deep
  have key : ∀ (ks : List T), (∀ k ∈ ks, ∀ deep, 0 ≤ weighT k deep) → ∀ a : Int, 0 ≤ a → 0 ≤ weighAll ks deep a := by
    intro ks
    induction ks with
    | nil => intro _ a ha; rw [weighAll]; exact ha
    | cons k r ihr =>
      intro hk a ha
      rw [weighAll]
      split
      · exact ihr (fun x hx => hk x (by simp [hx])) _ (by have := hk k (by simp) (deep + 1); omega)
      · exact ha
  rw [weighT]
  split
  · omega
  · exact key kids ih _ (by split <;> omega)
theorem weigh_le (t : T) : ∀ deep, deep ≤ 61 → weighT t deep ≤ 30001 * (62 - deep) := by
  refine T.all (p := fun t => ∀ deep, deep ≤ 61 → weighT t deep ≤ 30001 * (62 - deep)) ?_ t
  intro tag body kids ih deep hd
  rw [weighT]
  by_cases h : 60 < deep
  · rw [if_pos h]
    omega
  rw [if_neg h]
  have key : ∀ (ks : List T), (∀ k ∈ ks, ∀ deep : Nat, deep ≤ 61 → weighT k deep ≤ 30001 * (62 - deep)) → ∀ a : Int, a ≤ 30001 * (62 - deep) → weighAll ks deep a ≤ 30001 * (62 - deep) := by
    intro ks
    induction ks with
    | nil => intro _ a ha; rw [weighAll]; exact ha
    | cons k r ihr =>
      intro hk a ha
      rw [weighAll]
      split
      · refine ihr (fun x hx => hk x (by simp [hx])) _ ?_
        have := hk k (by simp) (deep + 1) (by omega)
        omega
      · exact ha
  exact key kids ih _ (by split <;> omega)
theorem weigh_kid {ks : List T} {i : Nat} {k : T} (h : ks[i]? = some k) (deep : Nat) (a : Int) : weighAll (ks.drop i) deep a = if a < 30000 then weighAll (ks.drop (i + 1)) deep (a + weighT k (deep + 1)) else a := by
  obtain ⟨hi, rfl⟩ := List.getElem?_eq_some_iff.1 h
  rw [List.drop_eq_getElem_cons hi, weighAll]
theorem weigh_end {ks : List T} {i : Nat} (h : ks.length ≤ i) (deep : Nat) (a : Int) : weighAll (ks.drop i) deep a = a := by
  rw [List.drop_of_length_le h, weighAll]
theorem weigh_stop (ks : List T) (deep : Nat) (a : Int) (h : ¬ a < 30000) : weighAll ks deep a = a := by
  cases ks with
  | nil => rw [weighAll]
  | cons k r => rw [weighAll, if_neg h]
theorem ret_int {k : IntKind} {a b : Int} (h : a = b) : Ending.returned (.int k a) = .returned (.int k b) := by rw [h]
theorem weigh_start {t : T} {deep n : Nat} (hn : t.body.length = n) (h : ¬ 60 < deep) (X : Int) (hX : (X = 1 + n ∧ (n : Int) ≤ 30000) ∨ (X = 30001 ∧ 30000 ≤ (n : Int))) : weighAll (t.kids.drop 0) deep X = weighT t deep := by
  have e : X = 1 + (if (t.body.length : Int) < 30000 then (t.body.length : Int) else 30000) := by
    rw [hn]
    split <;> omega
  rw [weighT_eq, if_neg h, List.drop_zero, ← e]
theorem weigh_bound (t : T) (deep : Nat) (h : deep ≤ 61) : 0 ≤ weighT t deep ∧ weighT t deep ≤ 30001 * (62 - deep) := ⟨weigh_ge t deep, weigh_le t deep h⟩
set_option maxHeartbeats 2000000 in
theorem weigh_any (t : T) : ∀ (v : Value) (deep : Nat) (w : World), t.In w v → deep ≤ 61 →
    Calls Tryz.prog 17 #[v, .int .i64 (deep : Int)] w fun e w' => e = .returned (.int .i64 (weighT t deep)) ∧ Below w.heap.size w w' := by
  refine T.each (p := fun t => ∀ (v : Value) (deep : Nat) (w : World), t.In w v → deep ≤ 61 → Calls Tryz.prog 17 #[v, .int .i64 (deep : Int)] w fun e w' => e = .returned (.int .i64 (weighT t deep)) ∧ Below w.heap.size w w') ?_ t
  clear t
  intro t ih v deep w hin hd
  obtain ⟨A, n, c, K, m, d, rfl, hw, hr, hn, hc, hm, hm', hks⟩ := hin.open
  have BX := Lib.hid (Box.start hin)
  have IH := Lib.hid ih
  have WT := Lib.hid (weighT_eq t deep)
  have HM := Lib.hid hm
  have BL := Lib.hid hr.1
  clear hin ih hw hr hc hm hks
  unfold maxLen at hn hm'
  by_cases h60 : 60 < deep
  · go_enter Tryz.func17, Tryz.ntmps17
    go_wp2_with fail
    go_ret
    exact ⟨ret_int (by rw [WT.out, if_pos h60]), (Below.refl _ _).alloc (Nat.le_refl _) _⟩
  go_enter Tryz.func17, Tryz.ntmps17
  go_wp2_with fail
  all_goals
    go_loopw [5, 6] (fun a i wr => ∃ (k : Nat) (z : Int), k ≤ m ∧ i = .int .i64 (k : Int) ∧ a = .int .i64 z ∧ 0 ≤ z ∧ z ≤ 30001 * (62 - deep) ∧ weighAll (t.kids.drop k) deep z = weighT t deep ∧ Box w wr w.heap.size t A n c K m d) (fun _ i _ => m - (intOf i).toNat)
    case atStart =>
      exact ⟨0, _, by omega, rfl, rfl, by omega, by omega, weigh_start BL.out h60 _ (by omega), BX.out⟩
    case round =>
      obtain ⟨k, z, hk, rfl, rfl, hz0, hz1, hw, hbox⟩ := hrel
      have HW := Lib.hid hw
      have HB := Lib.hid hbox
      obtain ⟨g0, g1, g2⟩ := hbox.cells
      clear hw hbox
      by_cases hlt : k < m
      · by_cases hzz : z < 30000
        · obtain ⟨x, b, off, zz, A', n', c', K', m', d', hx, rfl, c0, c1, c2, hxin⟩ := HB.out.kid k hlt
          have ST := Lib.hid ((weigh_kid hx deep z).symm.trans HW.out)
          have hbd := weigh_bound x (deep + 1) (by omega)
          have CI := Lib.hid (IH.out x (List.mem_of_getElem? hx) _ (deep + 1) wr hxin (by omega))
          clear hx hxin
          go_wp2_with (go_at_call 17; refine (CI.out).mono ?_; rintro e w2 ⟨rfl, hb2⟩; have HB2 := Lib.hid (HB.out.go hb2); clear hb2)
          go_roundw
          case rel => exact ⟨k + 1, _, by omega, by go_num, rfl, by omega, by omega, by rw [if_pos hzz] at ST; exact ST.out, HB2.out⟩
          case measure => simp [intOf]; omega
        · have E := Lib.hid ((weigh_stop _ deep z hzz).symm.trans HW.out)
          clear HW
          go_wp2_with fail
          go_ret
          exact ⟨ret_int E.out, HB.out.below⟩
      · have E := Lib.hid ((weigh_end (ks := t.kids) (i := k) (by rw [HM.out]; omega) deep z).symm.trans HW.out)
        clear HW
        go_wp2_with fail
        go_ret
        exact ⟨ret_int E.out, HB.out.below⟩
def lightT (t : T) : Bool := decide (weighT t 0 < 30000)
set_option maxHeartbeats 1000000 in
theorem light_any (t : T) (v : Value) (w : World) (hin : t.In w v) : Calls Tryz.prog 6 #[v] w fun e w' => e = .returned (.bool (lightT t)) ∧ Below w.heap.size w w' := by
  obtain ⟨A, n, c, K, m, d, rfl, _⟩ := hin.open
  have BX := Lib.hid (Box.start hin)
  clear hin
  go_enter Tryz.func6, Tryz.ntmps6
  go_wp2_with fail
  refine (weigh_any t _ 0 _ BX.out.has (by omega)).mono ?_
  rintro e w2 ⟨rfl, hb2⟩
  have B2 := Lib.hid (Below.step BX.out.below hb2)
  clear hb2 BX
  go_wp2_with fail
  go_ret
  exact ⟨rfl, B2.out⟩
end Go.Proofs.YtgmefdmeeihgoaaGreatDoor
namespace Go.Proofs.YtgmefdmeeihgoaaGreatDoor
open Go.RowKit
mutual
def sameT : T → T → Bool
  | .node t b ks, y => (t == y.tag) && ((b == y.body) && ((ks.length == y.kids.length) && sameAll ks y.kids))
def sameAll : List T → List T → Bool
  | [], _ => true
  | _ :: _, [] => true
  | x :: r, y :: q => sameT x y && sameAll r q
end
theorem sameT_eq (x y : T) : sameT x y = ((x.tag == y.tag) && ((x.body == y.body) && ((x.kids.length == y.kids.length) && sameAll x.kids y.kids))) := by
  obtain ⟨t, b, ks⟩ := x
  rw [sameT]
  rfl
theorem same_refl (x : T) : sameT x x = true := by
  refine T.each (p := fun x => sameT x x = true) ?_ x
  intro x ih
  have key : ∀ ks : List T, (∀ k ∈ ks, sameT k k = true) → sameAll ks ks = true := by
    intro ks
    induction ks with
    | nil => intro _; rw [sameAll]
    | cons k r ihr =>
      intro h
      rw [sameAll, h k (by simp), ihr (fun x hx => h x (by simp [hx]))]
      rfl
  rw [sameT_eq, key x.kids ih]
  simp
theorem same_is (x : T) : ∀ y, sameT x y = true → x = y := by
  refine T.each (p := fun x => ∀ y, sameT x y = true → x = y) ?_ x
  intro x ih y h
  have key : ∀ ks ys : List T, (∀ k ∈ ks, ∀ y, sameT k y = true → k = y) → ks.length = ys.length → sameAll ks ys = true → ks = ys := by
    intro ks
    induction ks with
    | nil => intro ys _ hl _; exact (List.eq_nil_of_length_eq_zero (by simpa using hl.symm)).symm
    | cons k r ihr =>
      intro ys hk hl h
      cases ys with
      | nil => simp at hl
      | cons y q =>
        rw [sameAll, Bool.and_eq_true] at h
        rw [hk k (by simp) y h.1, ihr q (fun x hx => hk x (by simp [hx])) (by simpa using hl) h.2]
  rw [sameT_eq, Bool.and_eq_true, Bool.and_eq_true, Bool.and_eq_true] at h
  obtain ⟨h1, h2, h3, h4⟩ := h
  have h5 := key x.kids y.kids ih (by simpa using h3) h4
  obtain ⟨t, b, ks⟩ := x
  obtain ⟨t', b', ks'⟩ := y
  simp only [T.tag, T.body, T.kids, beq_iff_eq] at h1 h2 h5
  rw [h1, h2, h5]
theorem same_drop {xs ys : List T} {i : Nat} {x y : T} (hx : xs[i]? = some x) (hy : ys[i]? = some y) : sameAll (xs.drop i) (ys.drop i) = (sameT x y && sameAll (xs.drop (i + 1)) (ys.drop (i + 1))) := by
  obtain ⟨h1, rfl⟩ := List.getElem?_eq_some_iff.1 hx
  obtain ⟨h2, rfl⟩ := List.getElem?_eq_some_iff.1 hy
  rw [List.drop_eq_getElem_cons h1, List.drop_eq_getElem_cons h2, sameAll]
theorem same_end {xs : List T} {i : Nat} (h : xs.length ≤ i) (ys : List T) : sameAll (xs.drop i) ys = true := by
  rw [List.drop_of_length_le h, sameAll]
theorem str_ne {x y : ByteArray} (h : ¬ x = y) : (x.toList == y.toList) = false := by
  rw [beq_eq_false_iff_ne]
  intro e
  rw [Lib.toList_data, Lib.toList_data] at e
  obtain ⟨⟨x⟩⟩ := x
  obtain ⟨⟨y⟩⟩ := y
  exact h (by rw [show x = y from e])
theorem strs_test {xs ys : List Int} (hx : ∀ z ∈ xs, 0 ≤ z ∧ z ≤ 255) (hy : ∀ z ∈ ys, 0 ≤ z ∧ z ≤ 255) : ((strOfNums xs).toList == (strOfNums ys).toList) = (xs == ys) := by
  by_cases h : xs = ys
  · subst h
    simp
  · rw [str_ne (fun e => h (by rw [← nums_str xs hx, ← nums_str ys hy, e]))]
    exact (beq_eq_false_iff_ne.2 h).symm
theorem Box.later {w wr : World} {g : Nat} {t : T} {A : Option Addr} {n c : Nat} {K : Option Addr} {m d : Nat} (h : Box w wr g t A n c K m d) : ∀ W, Ext wr.drew W → W.cell? ⟨g, 2, none⟩ = some (.slice K m d) :=
  fun _ hW => (hW.cell (p := ⟨g, 2, none⟩) h.blk.lt).trans (h.blk.cell 2)
theorem Box.wider {w wr : World} {o : Obj} {t : T} {A : Option Addr} {n c : Nat} {K : Option Addr} {m d : Nat} (h : Box (w.alloc o) wr (w.alloc o).heap.size t A n c K m d) : Box w wr (w.heap.size + 1) t A n c K m d := by
  have e : (w.alloc o).heap.size = w.heap.size + 1 := by simp
  exact ⟨by omega, e ▸ h.blk, (((Below.refl _ _).alloc (Nat.le_refl _) o : Below w.heap.size w (w.alloc o))).trans (h.below.mono (by omega)), h.has⟩
set_option maxHeartbeats 4000000 in
theorem same_any (x : T) : ∀ (y : T) (u v : Value) (w : World), x.In w u → y.In w v →
    Calls Tryz.prog 9 #[u, v] w fun e w' => e = .returned (.bool (sameT x y)) ∧ Below w.heap.size w w' := by
  refine T.each (p := fun x => ∀ (y : T) (u v : Value) (w : World), x.In w u → y.In w v → Calls Tryz.prog 9 #[u, v] w fun e w' => e = .returned (.bool (sameT x y)) ∧ Below w.heap.size w w') ?_ x
  clear x
  intro x ih y u v w hx hy
  obtain ⟨A, n, c, K, m, d, rfl, wx, rx, hn, hc, hm, hm', hks⟩ := hx.open
  obtain ⟨A2, n2, c2, K2, m2, d2, rfl, wy, ry, hn2, hc2, hk2, hm2, hks2⟩ := hy.open
  have IH := Lib.hid ih
  have BX := Lib.hid ((Box.start hx).go ((Below.refl _ _).alloc (Nat.le_refl _) (.cells #[.int .i64 y.tag, .slice A2 n2 c2, .slice K2 m2 d2] 28)))
  have BY := Lib.hid (Box.start (w := w.alloc (.cells #[.int .i64 x.tag, .slice A n c, .slice K m d] 28)) (T.In.below ((Below.refl _ _).alloc (Nat.le_refl _) _) y hy))
  have B2 : Hid (Below w.heap.size w ((w.alloc (.cells #[.int .i64 x.tag, .slice A n c, .slice K m d] 28)).alloc (.cells #[.int .i64 y.tag, .slice A2 n2 c2, .slice K2 m2 d2] 28))) := ((Below.refl _ _).alloc (Nat.le_refl _) _).alloc (by simp) _
  have SE := Lib.hid (sameT_eq x y)
  have HM := Lib.hid hm
  have HM2 := Lib.hid hk2
  unfold maxLen at hm' hm2 hn hn2
  clear hks hks2 hc hc2 ih
  by_cases e1 : x.tag = y.tag
  rotate_left
  · have t1 : (x.tag != y.tag) = true := by simpa using e1
    have F : Hid (sameT x y = false) := by rw [SE.out]; simp [e1, Hid]
    clear hm hk2 e1
    go_enter Tryz.func9, Tryz.ntmps9
    go_wp2_with fail
    go_ret
    exact ⟨ret_bool F.out.symm, B2.out⟩
  have E1 := Lib.hid e1
  have t1 : (x.tag != y.tag) = false := by simpa using e1
  have kx := conv_at c ((rx.below (w' := w.alloc (.cells #[.int .i64 x.tag, .slice A n c, .slice K m d] 28)) ((Below.refl _ _).alloc (Nat.le_refl _) _)).below ((Below.refl _ _).alloc (Nat.le_refl _) (.cells #[.int .i64 y.tag, .slice A2 n2 c2, .slice K2 m2 d2] 28)))
  have ky := conv_at c2 ((ry.below (w' := w.alloc (.cells #[.int .i64 x.tag, .slice A n c, .slice K m d] 28)) ((Below.refl _ _).alloc (Nat.le_refl _) _)).below ((Below.refl _ _).alloc (Nat.le_refl _) (.cells #[.int .i64 y.tag, .slice A2 n2 c2, .slice K2 m2 d2] 28)))
  have ts := strs_test rx.2.1 ry.2.1
  by_cases e2 : x.body = y.body
  rotate_left
  · have F : Hid (sameT x y = false) := by rw [SE.out]; simp [e2, Hid]
    have t2 : (x.body == y.body) = false := by simpa using e2
    rw [t2] at ts
    clear hm hk2 e1 e2 t2
    go_enter Tryz.func9, Tryz.ntmps9
    go_wp2_with fail
    go_ret
    exact ⟨ret_bool F.out.symm, B2.out⟩
  have E2 := Lib.hid e2
  have t2 : (x.body == y.body) = true := by simpa using e2
  rw [t2] at ts
  clear t2 e1 e2
  by_cases e3 : m = m2
  rotate_left
  · have F : Hid (sameT x y = false) := by rw [SE.out]; simp [HM.out, HM2.out, e3, Hid]
    have t3 : ((m : Int) != (m2 : Int)) = true := by simp; omega
    clear hm hk2 e3
    go_enter Tryz.func9, Tryz.ntmps9
    go_wp2_with fail
    go_ret
    exact ⟨ret_bool F.out.symm, B2.out⟩
  subst e3
  have SA : Hid (sameT x y = sameAll x.kids y.kids) := by rw [SE.out]; simp [HM.out, HM2.out, E1.out, E2.out, Hid]
  clear hm hk2 SE E1 E2
  go_enter Tryz.func9, Tryz.ntmps9
  go_wp2_with fail
  clear kx ky ts
  go_loopw [5] (fun i wr => ∃ k : Nat, k ≤ m ∧ i = .int .i64 (k : Int) ∧ sameT x y = sameAll (x.kids.drop k) (y.kids.drop k) ∧ Box w wr w.heap.size x A n c K m d ∧ Box w wr (w.heap.size + 1) y A2 n2 c2 K2 m d2) (fun i _ => m - (intOf i).toNat)
  case atStart => exact ⟨0, by omega, rfl, SA.out, BX.out, Box.wider BY.out⟩
  case round =>
    obtain ⟨k, hk, rfl, hs, hbx, hby⟩ := hrel
    have HS := Lib.hid hs
    have HX := Lib.hid hbx
    have HY := Lib.hid hby
    have gx := hbx.cells.2.2
    have gy := hby.cells.2.2
    clear hs hbx hby SA BX BY B2
    by_cases hlt : k < m
    · obtain ⟨p, b, off, z, A', n', c', K', m', d', hp, rfl, p0, p1, p2, hpin⟩ := HX.out.kid k hlt
      obtain ⟨q, b2, off2, z2, A2', n2', c2', K2', m2', d2', hq, rfl, q0, q1, q2, hqin⟩ := HY.out.kid k hlt
      have ST := Lib.hid (HS.out.trans (same_drop hp hq))
      have lx := HX.out.later
      have ly := HY.out.later
      have l0 := cell_later p0
      have l1 := cell_later p1
      have l2 := cell_later p2
      have r0 := cell_later q0
      have r1 := cell_later q1
      have r2 := cell_later q2
      have CI := Lib.hid (fun W (hW : Ext wr.drew W) => IH.out p (List.mem_of_getElem? hp) q _ _ W (T.In.below (Ext.of_drew hW) p hpin) (T.In.below (Ext.of_drew hW) q hqin))
      clear HS hp hq hpin hqin p0 p1 p2 q0 q1 q2 IH
      go_wp2_with fail
      clear gx gy
      refine wp_region_ord Ext Ext.refl (fun _ _ _ => Ext.trans) ((0, false) :: (1, false) :: (2, false) :: (3, false) :: (4, false) :: (5, false) :: (6, false) :: (7, false) :: (8, false) :: (9, false) :: (10, true) :: (11, false) :: []) (by kernel_rfl) (by kernel_rfl) rfl (by kernel_rfl) (fun _ _ _ _ _ h => h) ?_
      repeat (refine ord_take _ rfl (by rfl) (fun W hW => by go_simp; first | done | rfl) ?_; simp only [Act.put, List.setIfInBounds_toArray, List.set_cons_zero, List.set_cons_succ])
      clear lx ly l0 l1 l2 r0 r1 r2
      refine ord_sole rfl (by rfl) (fun K1 hK1 => ?_)
      go_simp
      refine (CI.out _ (Ext.refl _)).mono ?_
      rintro e v1 ⟨rfl, hb1⟩
      refine hK1 _ _ hb1 ?_
      clear hK1 K1
      have B1 := Lib.hid (Ext.of_drew hb1)
      clear hb1 CI
      cases hsame : sameT p q
      · have F : Hid (sameT x y = false) := by rw [ST.out, hsame]; rfl
        have BB := Lib.hid (Below.step HX.out.below B1.out)
        clear hsame ST HX HY
        repeat (refine ord_take _ rfl (by rfl) (fun W hW => by go_simp; first | done | rfl) ?_; simp only [Act.put, List.setIfInBounds_toArray, List.set_cons_zero, List.set_cons_succ])
        refine ord_end ?_
        go_wp2_with fail
        go_ret
        exact ⟨ret_bool F.out.symm, BB.out⟩
      · have N : Hid (sameT x y = sameAll (x.kids.drop (k + 1)) (y.kids.drop (k + 1))) := by rw [ST.out, hsame]; simp [Hid]
        clear hsame ST
        have HX2 := Lib.hid (HX.out.go B1.out)
        have HY2 := Lib.hid (HY.out.go B1.out)
        clear HX HY B1
        repeat (refine ord_take _ rfl (by rfl) (fun W hW => by go_simp; first | done | rfl) ?_; simp only [Act.put, List.setIfInBounds_toArray, List.set_cons_zero, List.set_cons_succ])
        refine ord_end ?_
        go_wp2_with fail
        go_roundw
        case rel => exact ⟨k + 1, by omega, by go_num, N.out, HX2.out, HY2.out⟩
        case measure => simp [intOf]; omega
    · have F : Hid (sameT x y = true) := by rw [HS.out, same_end (by rw [HM.out]; omega)]; exact Lib.hid rfl
      clear HS
      go_wp2_with fail
      go_ret
      exact ⟨ret_bool F.out.symm, HX.out.below⟩
end Go.Proofs.YtgmefdmeeihgoaaGreatDoor
namespace Go.Proofs.YtgmefdmeeihgoaaGreatDoor
open Go.RowKit
def B56 : Int := 72057594037927936
def numZ : Int → List Int → Int × Bool
  | n, [] => (n, true)
  | n, x :: xs => if B56 ≤ n then (0, false) else numZ (n * 256 + x) xs
theorem numZ_drop {zs : List Int} {k : Nat} (s : Int) (h : k < zs.length) : numZ s (zs.drop k) = if B56 ≤ s then (0, false) else numZ (s * 256 + zs[k]?.getD 0) (zs.drop (k + 1)) := by
  rw [List.drop_eq_getElem_cons h, numZ]
  simp [List.getElem?_eq_getElem h]
theorem num_step {zs : List Int} {k : Nat} {s x : Int} (h : k < zs.length) (hx : x = zs[k]?.getD 0) (he : numZ s (zs.drop k) = numZ 0 zs) :
    (B56 ≤ s → numZ 0 zs = (0, false)) ∧ (s < B56 → numZ (s * 256 + x) (zs.drop (k + 1)) = numZ 0 zs) := by
  rw [numZ_drop s h, ← hx] at he
  refine ⟨fun hs => ?_, fun hs => ?_⟩
  · rw [← he, if_pos hs]
  · rw [if_neg (by omega)] at he
    exact he
theorem num_end {zs : List Int} {k : Nat} {s : Int} (h : zs.length ≤ k) (he : numZ s (zs.drop k) = numZ 0 zs) : numZ 0 zs = (s, true) := by
  rw [← he, List.drop_of_length_le h, numZ]
theorem top_set {s : Int} (h : (s / 72057594037927936 != 0) = true) (h0 : 0 ≤ s) : B56 ≤ s := by
  simp at h
  unfold B56
  omega
theorem top_clear {s : Int} (h : (s / 72057594037927936 != 0) = false) : s < B56 := by
  simp at h
  unfold B56
  omega
theorem or8 {s x : Int} (h0 : 0 ≤ s) (h : s < B56) (x0 : 0 ≤ x) (x1 : x ≤ 255) : bits .or .u64 (IntKind.u64.wrap (s * 256)) x = s * 256 + x := by
  unfold B56 at h
  have hw : ∀ n : Int, 0 ≤ n → n < 2 ^ 64 → IntKind.u64.wrap n = n := by
    intro n h0 h1
    rw [IntKind.wrap_u64]
    omega
  rw [hw _ (by omega) (by omega)]
  exact bits_join .u64 64 (by decide) hw 8 _ _ (by omega) (by omega) (by omega) x0 (by omega) (by omega)
theorem ret_num {zs : List Int} {n : Int} {b : Bool} (h : numZ 0 zs = (n, b)) : Ending.returned (.tuple #[.int .u64 n, .bool b]) = .returned (.tuple #[.int .u64 (numZ 0 zs).1, .bool (numZ 0 zs).2]) := by rw [h]
set_option maxHeartbeats 400000 in
theorem num_any (a : Option Addr) (n ca : Nat) (zs : List Int) (w : World) (hx : Row w a n zs) (hn : n ≤ 1000000) :
    Calls Tryz.prog 93 #[.slice a n ca] w fun e w' => e = .returned (.tuple #[.int .u64 (numZ 0 zs).1, .bool (numZ 0 zs).2]) ∧ w' = w := by
  have HX := Lib.hid hx
  clear hx
  go_enter Tryz.func93, Tryz.ntmps93
  go_wp2
  go_loop [4, 8] (fun t i => ∃ k : Nat, ∃ s : Int, k ≤ n ∧ 0 ≤ s ∧ s ≤ 18446744073709551615 ∧ i = .int .i64 k ∧ t = .int .u64 s ∧ numZ s (zs.drop k) = numZ 0 zs) (fun _ i => n - (intOf i).toNat)
  case atStart => exact ⟨0, 0, Nat.zero_le _, by omega, by omega, rfl, rfl, rfl⟩
  case round =>
    obtain ⟨k, s, hk, hs0, hs1, rfl, rfl, he⟩ := hrel
    have HE := Lib.hid he
    clear he
    by_cases hlt : k < n
    · obtain ⟨b1, o1, rfl, hb1, hc1⟩ := HX.out.2.2 (by omega)
      have c1 := hc1 k hlt
      clear hc1
      have bx := HX.out.byte k
      have ST := Lib.hid (num_step (by rw [HX.out.1]; exact hlt) rfl HE.out)
      generalize zs[k]?.getD 0 = x at c1 bx ST
      go_wp2
      · go_ret2
        exact ⟨ret_num (ST.out.1 (top_set (by assumption) hs0)), rfl⟩
      · have ht : s < B56 := top_clear (by assumption)
        go_round
        case rel => exact ⟨k + 1, _, by omega, by omega, by unfold B56 at ht; omega, by go_num, by rw [or8 hs0 ht bx.1 bx.2], ST.out.2 ht⟩
        case measure => simp [intOf]; omega
    · go_wp2
      go_ret2
      exact ⟨ret_num (num_end (by rw [HX.out.1]; omega) HE.out), rfl⟩
set_option maxHeartbeats 400000 in
theorem rnum_any (a : Option Addr) (n ca : Nat) (zs : List Int) (w : World) (hx : Row w a n zs) (hn : n ≤ 1000000) :
    Calls Tryz.prog 64 #[.slice a n ca] w fun e w' => e = .returned (.tuple #[.int .u64 (numZ 0 zs).1, .bool (numZ 0 zs).2]) ∧ w' = w := by
  have HX := Lib.hid hx
  clear hx
  go_enter Tryz.func64, Tryz.ntmps64
  go_wp2
  go_loop [4, 5] (fun t i => ∃ k : Nat, ∃ s : Int, k ≤ n ∧ 0 ≤ s ∧ s ≤ 18446744073709551615 ∧ i = .int .i64 k ∧ t = .int .u64 s ∧ numZ s (zs.drop k) = numZ 0 zs) (fun _ i => n - (intOf i).toNat)
  case atStart => exact ⟨0, 0, Nat.zero_le _, by omega, by omega, rfl, rfl, rfl⟩
  case round =>
    obtain ⟨k, s, hk, hs0, hs1, rfl, rfl, he⟩ := hrel
    have HE := Lib.hid he
    clear he
    by_cases hlt : k < n
    · obtain ⟨b1, o1, rfl, hb1, hc1⟩ := HX.out.2.2 (by omega)
      have c1 := hc1 k hlt
      clear hc1
      have bx := HX.out.byte k
      have ST := Lib.hid (num_step (by rw [HX.out.1]; exact hlt) rfl HE.out)
      generalize zs[k]?.getD 0 = x at c1 bx ST
      go_wp2
      · go_ret2
        exact ⟨ret_num (ST.out.1 (by unfold B56; assumption)), rfl⟩
      · have ht : s < B56 := by unfold B56; assumption
        go_round
        case rel => exact ⟨k + 1, _, by omega, by omega, by unfold B56 at ht; omega, by go_num, rfl, ST.out.2 ht⟩
        case measure => simp [intOf]; omega
    · go_wp2
      go_ret2
      exact ⟨ret_num (num_end (by rw [HX.out.1]; omega) HE.out), rfl⟩
end Go.Proofs.YtgmefdmeeihgoaaGreatDoor
