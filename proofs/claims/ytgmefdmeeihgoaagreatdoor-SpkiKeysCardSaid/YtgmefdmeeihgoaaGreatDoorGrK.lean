/-
  Merged texts: ShaTh, ShaRf, HexC, RhexC, ShaN, SkL, SkM.
-/
import Derived.Test.YtgmefdmeeihgoaaGreatDoorGrB
import Derived.Test.YtgmefdmeeihgoaaGreatDoorGrJ
import Derived.Test.YtgmefdmeeihgoaaGreatDoorRows
import Derived.Test.YtgmefdmeeihgoaaGreatDoorGrA
import Derived.WalkKit
import Derived.WalkSpells
import Derived.WalkLawsBesides
import Derived.Deep.QuietTactic
import Derived.BigQuiet
import Derived.Lib.Hide
import Derived.Deep.AppendLies
import Derived.Deep.RegionLaw
import Derived.OneCell
import Derived.ChangeKeysEq
import Derived.Test.YtgmefdmeeihgoaaGreatDoorGrI
import Derived.Test.YtgmefdmeeihgoaaGreatDoorGrE
namespace Go.Proofs.YtgmefdmeeihgoaaGreatDoor
open Go.RowKit
set_option linter.unusedVariables false
theorem num4 (a b c d : Int) (ha : 0 ≤ a ∧ a ≤ 255) (hb : 0 ≤ b ∧ b ≤ 255) (hc : 0 ≤ c ∧ c ≤ 255) (hd : 0 ≤ d ∧ d ≤ 255) : numZ 0 [a, b, c, d] = (((a * 256 + b) * 256 + c) * 256 + d, true) := by
  have B : B56 = 72057594037927936 := rfl
  rw [numZ, if_neg (by omega), numZ, if_neg (by omega), numZ, if_neg (by omega), numZ, if_neg (by omega), numZ]
  rw [show (0 : Int) * 256 + a = a by omega]
theorem four_of {zs : List Int} {i : Nat} (h : i + 4 ≤ zs.length) : (zs.drop i).take 4 = [zs[i]?.getD 0, zs[i + 1]?.getD 0, zs[i + 2]?.getD 0, zs[i + 3]?.getD 0] := by
  apply List.ext_getElem?
  intro j
  rw [List.getElem?_take]
  rcases j with _ | _ | _ | _ | j
  · simp [List.getElem?_eq_getElem (show i < zs.length by omega)]
  · simp [List.getElem?_eq_getElem (show i + 1 < zs.length by omega)]
  · simp [List.getElem?_eq_getElem (show i + 2 < zs.length by omega)]
  · simp [List.getElem?_eq_getElem (show i + 3 < zs.length by omega)]
  · simp
    omega
theorem num_word {zs : List Int} (h : ∀ x ∈ zs, 0 ≤ x ∧ x ≤ 255) (i : Nat) (hi : i + 4 ≤ zs.length) : numZ 0 ((zs.drop i).take 4) = (wordZ zs i, true) := by
  have g : ∀ k : Nat, 0 ≤ zs[k]?.getD 0 ∧ zs[k]?.getD 0 ≤ 255 := by
    intro k
    rcases Nat.lt_or_ge k zs.length with hk | hk
    · rw [List.getElem?_eq_getElem hk]
      exact h _ (List.getElem_mem hk)
    · rw [List.getElem?_eq_none hk]
      simp
  rw [four_of hi, num4 _ _ _ _ (g _) (g _) (g _) (g _)]
  rfl
theorem words_all {b : List Int} (h : ∀ x ∈ b, 0 ≤ x ∧ x ≤ 255) (k i : Nat) : W32 ((wordsZ8 b k)[i]?.getD 0) := by
  generalize hl : wordsZ8 b k = l
  have hr := words_range h k
  rw [hl] at hr
  rcases Nat.lt_or_ge i l.length with h | h
  · rw [List.getElem?_eq_getElem h]
    exact hr _ (List.getElem_mem h)
  · rw [List.getElem?_eq_none h]
    unfold W32
    simp
def WrdAt (w wr : World) (l : List Int) : Prop := Blk wr w.heap.size 123 (wcells l) ∧ Below w.heap.size w wr
theorem WrdAt.start (w : World) : WrdAt w (w.alloc (.cells Z64 123)) [] := ⟨Blk.new w _ _, (Below.refl _ _).alloc (Nat.le_refl _) _⟩
theorem WrdAt.drewN {w wr : World} {l : List Int} (h : WrdAt w wr l) (q : Nat) : WrdAt w (wr.drewN q) l := ⟨h.1, { h.2 with }⟩
theorem WrdAt.next {w wr : World} {l : List Int} (h : WrdAt w wr l) (x : Int) (k : Nat) (hk : k = l.length) (hl : k < 64) : WrdAt w (wr.setCell ⟨w.heap.size, k, none⟩ (.int .u32 x)) (l ++ [x]) := by
  subst hk
  refine ⟨?_, h.2.setCell (Nat.le_refl _) _⟩
  rw [← wcells_set l x hl]
  exact h.1.set _ _
def KeepB (g n : Nat) (a b : World) : Prop := ∀ i, i < n → b.cell? ⟨g, i, none⟩ = a.cell? ⟨g, i, none⟩
theorem KeepB.refl (g n : Nat) (w : World) : KeepB g n w w := fun _ _ => rfl
theorem KeepB.trans {g n : Nat} (a b c : World) (h : KeepB g n a b) (k : KeepB g n b c) : KeepB g n a c := fun i hi => (k i hi).trans (h i hi)
theorem KeepB.set (g n k : Nat) (w : World) (v : Value) (h : n ≤ k) : KeepB g n w (w.setCell ⟨g, k, none⟩ v) := fun i hi => World.cell?_setCell_other _ _ _ _ (fun e => by injection e with _ e; omega)
theorem rturni_any (x n : Int) (w : World) (hn : Turns n.toNat) (hn0 : 0 ≤ n) (h0 : 0 ≤ x) (h1 : x ≤ 4294967295) : Calls Tryz.prog 116 #[.int .u32 x, .int .i64 n] w fun e w' => e = .returned (.int .u32 (rotI x n)) ∧ ∃ q, w' = w.drewN q :=
  rturn_any x n n.toNat w (Int.toNat_of_nonneg hn0).symm hn h0 h1
theorem list_range {v : V8} (h : v.ok) : ∀ x ∈ v.list, 0 ≤ x ∧ x ≤ 4294967295 := by
  obtain ⟨ha, hb, hc, hd, he, hf, hg, hh⟩ := h
  intro x hx
  simp only [V8.list, List.mem_cons, List.not_mem_nil, or_false] at hx
  rcases hx with rfl | rfl | rfl | rfl | rfl | rfl | rfl | rfl
  all_goals assumption
def RndAt (w wr : World) (g3 : Nat) (V : Value) (s : V8) (l : List Int) : Prop :=
  Out32 w wr V s.list ∧ WrdAt w wr l ∧ Row32 wr (some ⟨g3, 0, none⟩) 64 CONSTS ∧ w.heap.size < wr.heap.size ∧ ∃ g cap, V = .slice (some ⟨g, 0, none⟩) 8 cap ∧ w.heap.size ≤ g
theorem RndAt.drewN {w wr : World} {g3 : Nat} {V : Value} {s : V8} {l : List Int} (h : RndAt w wr g3 V s l) (q : Nat) : RndAt w (wr.drewN q) g3 V s l :=
  ⟨h.1.drewN q, h.2.1.drewN q, h.2.2.1, h.2.2.2⟩
theorem words8_own (w wr : World) (s : V8) (hb : Below w.heap.size w wr) : Out32 w (wr.alloc (.cells s.cells 23)) (.slice (some ⟨wr.heap.size, 0, none⟩) 8 8) s.list :=
  ⟨⟨rfl, .inr ⟨wr.heap.size, 8, s.cells, rfl, hb.size, heap_alloc_new wr _, Nat.le_refl _, by unfold maxLen; omega, rfl, rfl⟩⟩, hb.alloc hb.size _⟩
theorem RndAt.next {w wr : World} {g3 : Nat} {V : Value} {s : V8} {l : List Int} (h : RndAt w wr g3 V s l) (s1 : V8) : RndAt w (wr.alloc (.cells s1.cells 23)) g3 (.slice (some ⟨wr.heap.size, 0, none⟩) 8 8) s1 l := by
  have hb := h.2.1.2
  have ba : Below wr.heap.size wr (wr.alloc (.cells s1.cells 23)) := (Below.refl _ _).alloc (Nat.le_refl _) _
  refine ⟨words8_own w wr s1 hb, ⟨h.2.1.1.alloc _, hb.alloc hb.size _⟩, h.2.2.1.below ba, Nat.lt_of_lt_of_le h.2.2.2.1 ba.size, wr.heap.size, 8, rfl, hb.size⟩
theorem RndAt.facts {w wr : World} {g3 g cap : Nat} {s : V8} {l : List Int} (h : RndAt w wr g3 (.slice (some ⟨g, 0, none⟩) 8 cap) s l) (k : Nat) (hk : k < 64) :
    wr.cell? ⟨g, 0, none⟩ = some (.int .u32 s.a) ∧ wr.cell? ⟨g, 1, none⟩ = some (.int .u32 s.b) ∧ wr.cell? ⟨g, 2, none⟩ = some (.int .u32 s.c) ∧ wr.cell? ⟨g, 3, none⟩ = some (.int .u32 s.d) ∧
    wr.cell? ⟨g, 4, none⟩ = some (.int .u32 s.e) ∧ wr.cell? ⟨g, 5, none⟩ = some (.int .u32 s.f) ∧ wr.cell? ⟨g, 6, none⟩ = some (.int .u32 s.g) ∧ wr.cell? ⟨g, 7, none⟩ = some (.int .u32 s.h) ∧
    wr.cell? ⟨w.heap.size, k, none⟩ = some (.int .u32 (l[k]?.getD 0)) ∧ wr.cell? ⟨g3, k, none⟩ = some (.int .u32 (CONSTS[k]?.getD 0)) := by
  refine ⟨(h.1.cell 0 (by show 0 < 8; omega)).1, (h.1.cell 1 (by show 1 < 8; omega)).1, (h.1.cell 2 (by show 2 < 8; omega)).1, (h.1.cell 3 (by show 3 < 8; omega)).1, (h.1.cell 4 (by show 4 < 8; omega)).1, (h.1.cell 5 (by show 5 < 8; omega)).1, (h.1.cell 6 (by show 6 < 8; omega)).1, (h.1.cell 7 (by show 7 < 8; omega)).1, (h.2.1.1.cell k).trans (wcells_get l k hk), ?_⟩
  obtain ⟨_, _, hgo, _, hcc⟩ := h.2.2.1.2.2 (by omega)
  injection hgo with hgo
  injection hgo with hgo1 hgo2
  subst hgo1 hgo2
  have e := hcc k hk
  rw [Nat.zero_add] at e
  exact e
theorem mixed_set (A B : List Int) (k : Nat) (hA : A.length = 8) (hB : B.length = 8) (hk : k < 8) : (A.take k ++ B.drop k).set k (A[k]?.getD 0) = A.take (k + 1) ++ B.drop (k + 1) := by
  have ht : (A.take k).length = k := by rw [List.length_take]; omega
  rw [List.set_append_right _ _ (by omega), ht, Nat.sub_self, List.drop_eq_getElem_cons (show k < B.length by omega), List.set_cons_zero, List.getElem?_eq_getElem (show k < A.length by omega), List.take_succ_eq_append_getElem (show k < A.length by omega), List.append_assoc]
  rfl
theorem mixed_get (A B : List Int) (k : Nat) (hA : A.length = 8) (hB : B.length = 8) (hk : k < 8) : (A.take k ++ B.drop k)[k]?.getD 0 = B[k]?.getD 0 := by
  have ht : (A.take k).length = k := by rw [List.length_take]; omega
  rw [List.getElem?_append_right (by omega), ht, Nat.sub_self, List.getElem?_drop, Nat.add_zero]
theorem addV_get (s v : V8) (k : Nat) (hk : k < 8) : (addV s v).list[k]?.getD 0 = m32 (s.list[k]?.getD 0 + v.list[k]?.getD 0) := by
  rcases k with _ | _ | _ | _ | _ | _ | _ | _ | k
  all_goals first | (exfalso; omega) | rfl
theorem wraps4 (A B C D : Int) : IntKind.u32.wrap (IntKind.u32.wrap (IntKind.u32.wrap (A + B) + C) + D) = m32 (A + B + C + D) := by
  simp only [IntKind.wrap_u32]
  unfold m32
  omega
set_option maxHeartbeats 1000000 in
set_option maxRecDepth 100000 in
theorem through_any (v : V8) (hv : v.ok) (a a2 : Option Addr) (ca cb : Nat) (zs : List Int) (w : World) (hs : Row32 w a 8 v.list) (hr : Row w a2 64 zs) (hcb : 64 ≤ cb) :
    Calls Tryz.prog 86 #[.slice a 8 ca, .slice a2 64 cb] w fun e w' => ∃ V, e = .returned V ∧ Out32 w w' V (blockV v zs).list := by
  have HB := Lib.hid hr.2.1
  have LZ := hr.1
  have RW := Lib.hid hr
  have RS := Lib.hid hs
  have OKV := Lib.hid hv
  obtain ⟨b, off, rfl, hb, hc⟩ := hr.2.2 (by omega)
  have W0 := Lib.hid (WrdAt.start w)
  clear hs hr hc hv
  go_enter Tryz.func86, Tryz.ntmps86
  go_wp2_with (refine Great.wpList_allocTo rfl (some 5) rfl (.pointer (some ⟨w.heap.size, 0, none⟩)) (.cells Z64 123) rfl ?_)
  generalize w.alloc (.cells Z64 123) = w0 at *
  go_loopw [6] (fun i wr => ∃ k : Nat, k ≤ 16 ∧ i = .int .i64 (k : Int) ∧ WrdAt w wr (wordsZ8 zs k)) (fun i _ => (17 - intOf i).toNat)
  case atStart => exact ⟨0, by omega, rfl, W0.out⟩
  case round =>
    obtain ⟨k, hk, rfl, he⟩ := hrel
    have E := Lib.hid he
    clear he W0
    by_cases hk2 : k < 16
    · have t0 : decide ((k : Int) < 16) = true := by simp; omega
      have RD := Lib.hid (((RW.out.below E.out.2).rest (4 * k) cb (by omega) hcb).first 4 (by omega))
      have h4 : IntKind.i64.wrap (4 * (k : Int)) = ((4 * k : Nat) : Int) := by rw [show ((4 * k : Nat) : Int) = 4 * (k : Int) by omega]; exact IntWalk.i64_in _ (by omega)
      have h8 : IntKind.i64.wrap (((4 * k : Nat) : Int) + 4) = ((4 * k + 4 : Nat) : Int) := by rw [show ((4 * k + 4 : Nat) : Int) = ((4 * k : Nat) : Int) + 4 by omega]; exact IntWalk.i64_in _ (by omega)
      have hne : ¬ cb = 4 * k := by omega
      have L := wordsZ8_len zs k
      rw [if_neg hne] at RD
      have CW := Lib.hid (rnum_any _ _ (cb - 4 * k) _ _ RD.out (by omega))
      rw [num_word HB.out (4 * k) (by omega)] at CW
      rw [Option.map_some, Addr.add_lit] at CW
      have wr32 := word_range HB.out (4 * k)
      have u32 : IntKind.u32.wrap (wordZ zs (4 * k)) = wordZ zs (4 * k) := IntWalk.u32_in _ (by unfold W32 at wr32; omega)
      have CC := (E.out.1.cell k).trans (wcells_get _ k (by omega))
      have FF := E.out.1.free k
      have EN : Hid (WrdAt w (wr.setCell ⟨w.heap.size, k, none⟩ (.int .u32 (wordZ zs (4 * k)))) (wordsZ8 zs (k + 1))) := by
        rw [words_first _ _ hk2]
        exact Lib.hid (E.out.next _ k L.symm (by omega))
      clear E RD L wr32
      generalize ho : 4 * k = o at *
      generalize wordZ zs o = x at *
      have kl : k < 64 := by omega
      have kI : (k : Int) < 64 := by omega
      have o1 : (o : Int) ≤ ((o + 4 : Nat) : Int) := by omega
      have o2 : ((o + 4 : Nat) : Int) ≤ (cb : Int) := by omega
      have o3 : o + 4 - o = 4 := by omega
      go_wp2_with fail
      refine CW.out.mono ?_
      rintro e w2 ⟨rfl, hw⟩
      subst hw
      go_wp2_with fail
      go_roundw
      case rel => exact ⟨k + 1, by omega, by first | rfl | go_num, EN.out⟩
      case measure => simp only [intOf]; omega
    · obtain rfl : k = 16 := by omega
      clear hk2
      rw [show ((16 : Nat) : Int) = 16 by rfl]
      go_wp2_with fail
      go_loopw [9] (fun i w2 => ∃ k : Nat, 16 ≤ k ∧ k ≤ 64 ∧ i = .int .i64 (k : Int) ∧ WrdAt w w2 (wordsZ8 zs k)) (fun i _ => (65 - intOf i).toNat)
      case atStart => exact ⟨16, by omega, by omega, rfl, E.out⟩
      case round =>
        obtain ⟨k, hk16, hk, rfl, he⟩ := hrel
        have E2 := Lib.hid he
        clear he E
        by_cases hk2 : k < 64
        · have WN := Lib.hid (words_next zs k hk16)
          have L := wordsZ8_len zs k
          have r := fun i => words_all HB.out k i
          obtain ⟨j, hj⟩ : ∃ j, k = j + 16 := ⟨k - 16, by omega⟩
          generalize hl1 : wordsZ8 zs (k + 1) = l1 at *
          have HL1 := Lib.hid hl1
          clear hl1
          generalize wordsZ8 zs k = l at *
          subst hj
          have t0 : decide ((j : Int) + 16 < 64) = true := by simp; omega
          have c0 := (E2.out.1.cell j).trans (wcells_get _ j (by omega))
          have c1 := (E2.out.1.cell (j + 1)).trans (wcells_get _ (j + 1) (by omega))
          have c9 := (E2.out.1.cell (j + 9)).trans (wcells_get _ (j + 9) (by omega))
          have c14 := (E2.out.1.cell (j + 14)).trans (wcells_get _ (j + 14) (by omega))
          have c16 := (E2.out.1.cell (j + 16)).trans (wcells_get _ (j + 16) (by omega))
          have f16 := E2.out.1.free (j + 16)
          have EN : Hid (∀ q, WrdAt w ((wr.drewN q).setCell ⟨w.heap.size, j + 16, none⟩ (.int .u32 (nextZ l (j + 16)))) l1) := by
            rw [WN.out]
            exact Lib.hid (fun q => (E2.out.drewN q).next _ (j + 16) L.symm (by omega))
          have N : nextZ l (j + 16) = m32 (l[j]?.getD 0 + lowS (l[j + 1]?.getD 0) + l[j + 9]?.getD 0 + highS (l[j + 14]?.getD 0)) := rfl
          rw [N] at EN
          have r0 := r j
          have r1 := r (j + 1)
          have r9 := r (j + 9)
          have r14 := r (j + 14)
          unfold W32 at r0 r1 r9 r14
          generalize l[j]?.getD 0 = x0 at *
          generalize l[j + 1]?.getD 0 = x1 at *
          generalize l[j + 9]?.getD 0 = x9 at *
          generalize l[j + 14]?.getD 0 = x14 at *
          generalize l[j + 16]?.getD 0 = x16 at *
          clear r N L WN E2
          rw [show ((j + 16 : Nat) : Int) = (j : Int) + 16 by omega]
          have e15 : IntKind.i64.wrap ((j : Int) + 16 - 15) = ((j + 1 : Nat) : Int) := by rw [show (j : Int) + 16 - 15 = (j : Int) + 1 by omega, Int.natCast_add]; exact IntWalk.i64_in _ (by omega)
          have e2 : IntKind.i64.wrap ((j : Int) + 16 - 2) = ((j + 14 : Nat) : Int) := by rw [show (j : Int) + 16 - 2 = (j : Int) + 14 by omega, Int.natCast_add]; exact IntWalk.i64_in _ (by omega)
          have e16 : IntKind.i64.wrap ((j : Int) + 16 - 16) = (j : Int) := by rw [show (j : Int) + 16 - 16 = (j : Int) by omega]; exact IntWalk.i64_in _ (by omega)
          have e7 : IntKind.i64.wrap ((j : Int) + 16 - 7) = ((j + 9 : Nat) : Int) := by rw [show (j : Int) + 16 - 7 = (j : Int) + 9 by omega, Int.natCast_add]; exact IntWalk.i64_in _ (by omega)
          go_wp2_with fail
          have wj : IntKind.i64.wrap (j : Int) = (j : Int) := IntWalk.i64_in _ (by omega)
          have w9 : IntKind.i64.wrap ((j : Int) + 9) = (j : Int) + 9 := IntWalk.i64_in _ (by omega)
          have w16 : IntKind.i64.wrap ((j : Int) + 16) = (j : Int) + 16 := IntWalk.i64_in _ (by omega)
          have b0 : (j : Int) < 64 := by omega
          have b9 : (j : Int) + 9 < 64 := by omega
          have b16 : (j : Int) + 16 < 64 := by omega
          have p9 : 0 ≤ (j : Int) + 9 := by omega
          have p16 : 0 ≤ (j : Int) + 16 := by omega
          have q9 : ((j : Int) + 9).toNat = j + 9 := by omega
          have q16 : ((j : Int) + 16).toNat = j + 16 := by omega
          have m0 : ∀ W, KeepB w.heap.size (j + 16) wr.drew W → W.cell? ⟨w.heap.size, j, none⟩ = some (.int .u32 x0) := fun W hW => (hW j (by omega)).trans c0
          have m9 : ∀ W, KeepB w.heap.size (j + 16) wr.drew W → W.cell? ⟨w.heap.size, j + 9, none⟩ = some (.int .u32 x9) := fun W hW => (hW (j + 9) (by omega)).trans c9
          refine wp_region_ord (KeepB w.heap.size (j + 16)) (KeepB.refl _ _) KeepB.trans ((0, false) :: (1, false) :: (2, false) :: (3, false) :: (4, false) :: (5, false) :: (7, false) :: (10, false) :: (11, false) :: (14, false) :: (15, false) :: (16, false) :: (17, false) :: (19, false) :: (21, false) :: (24, false) :: (25, false) :: (6, true) :: (8, true) :: (9, false) :: (12, false) :: (13, false) :: (18, false) :: (20, true) :: (22, true) :: (23, false) :: (26, false) :: (27, false) :: (28, false) :: (29, true) :: []) (by kernel_rfl) (by kernel_rfl) rfl (by kernel_rfl) (fun _ _ _ _ _ h => h) ?_
          repeat (refine ord_take _ rfl (by rfl) (fun W hW => by go_simp; first | done | rfl) ?_; simp only [Act.put, List.setIfInBounds_toArray, List.set_cons_zero, List.set_cons_succ])
          clear m0 m9
          refine ord_sole rfl (by rfl) (fun K1 hK1 => ?_)
          go_simp
          refine (rturni_any x1 7 _ (by unfold Turns; decide) (by decide) r1.1 r1.2).mono ?_
          rintro e w2 ⟨rfl, q1, hw⟩
          subst hw
          refine hK1 _ _ (fun _ _ => rfl) ?_
          clear hK1 K1
          refine ord_sole rfl (by rfl) (fun K1 hK1 => ?_)
          go_simp
          refine (rturni_any x1 18 _ (by unfold Turns; decide) (by decide) r1.1 r1.2).mono ?_
          rintro e w2 ⟨rfl, q2, hw⟩
          subst hw
          refine hK1 _ _ (fun _ _ => rfl) ?_
          clear hK1 K1
          repeat (refine ord_take _ rfl (by rfl) (fun W hW => by go_simp; first | done | rfl) ?_; simp only [Act.put, List.setIfInBounds_toArray, List.set_cons_zero, List.set_cons_succ])
          refine ord_sole rfl (by rfl) (fun K1 hK1 => ?_)
          go_simp
          refine (rturni_any x14 17 _ (by unfold Turns; decide) (by decide) r14.1 r14.2).mono ?_
          rintro e w2 ⟨rfl, q3, hw⟩
          subst hw
          refine hK1 _ _ (fun _ _ => rfl) ?_
          clear hK1 K1
          refine ord_sole rfl (by rfl) (fun K1 hK1 => ?_)
          go_simp
          refine (rturni_any x14 19 _ (by unfold Turns; decide) (by decide) r14.1 r14.2).mono ?_
          rintro e w2 ⟨rfl, q4, hw⟩
          subst hw
          refine hK1 _ _ (fun _ _ => rfl) ?_
          clear hK1 K1
          repeat (refine ord_take _ rfl (by rfl) (fun W hW => by go_simp; first | done | rfl) ?_; simp only [Act.put, List.setIfInBounds_toArray, List.set_cons_zero, List.set_cons_succ])
          refine ord_sole rfl (by rfl) (fun K1 hK1 => ?_)
          go_simp
          rw [wraps4]
          refine hK1 _ _ (KeepB.set _ _ _ _ _ (Nat.le_refl _)) ?_
          clear hK1 K1
          refine ord_end ?_
          go_wp2_with fail
          go_roundw
          case rel => exact ⟨j + 16 + 1, by omega, by omega, by first | rfl | go_num, by rw [HL1.out]; exact EN.out _⟩
          case measure => simp only [intOf]; omega
        · obtain rfl : k = 64 := by omega
          have L := wordsZ8_len zs 64
          have F : Hid (blockV v zs = addV (roundsV v (wordsZ8 zs 64) 64) v) := Lib.hid rfl
          have LR := Lib.hid (words_range HB.out 64)
          generalize wordsZ8 zs 64 = l at *
          clear hk16 hk2
          rw [show ((64 : Nat) : Int) = 64 by rfl]
          go_wp2_with fail
          refine (rconsts_any _).mono ?_
          rintro e w3 ⟨rfl, hw3⟩
          have B3 : Hid (Below wr.heap.size wr w3) := by rw [hw3]; exact Lib.hid ((Below.refl _ _).alloc (Nat.le_refl _) _)
          have C3 : Hid (Row32 w3 (some ⟨wr.heap.size, 0, none⟩) 64 CONSTS) := by rw [hw3]; exact Lib.hid (consts_row wr)
          clear hw3
          have ltw := E2.out.1.lt
          have lt3 : wr.heap.size ≤ w3.heap.size := B3.out.size
          have E3 : Hid (WrdAt w w3 l) := Lib.hid ⟨E2.out.1.below B3.out ltw, Below.step E2.out.2 B3.out⟩
          have R3 := Lib.hid (RS.out.below E3.out.2)
          have O3 := Lib.hid (out_zero32 w3)
          have R4 : Hid (Row32 (w3.alloc (.cells #[] 23)) a 8 v.list) := Lib.hid (R3.out.below ((Below.refl _ _).alloc (Nat.le_refl _) _))
          have NI : Hid (a = none → ca = 0) := Lib.hid (fun h => by obtain ⟨_, _, e, _⟩ := RS.out.2.2 (by omega); rw [h] at e; cases e)
          have HN : Hid (([] : List Int).length + 8 ≤ 1000000) := Lib.hid (by simp)
          clear B3 E2
          generalize wr.heap.size = g3 at *
          go_wp2_with (at_builtin; go_must (refine out_append32 (W0 := w3) (L := []) (zs := v.list) rfl _ _ rfl rfl O3.out rfl R4.out NI.out HN.out ?_; intro V4 w4 ho4; have O4 := Lib.hid ho4; clear ho4))
          have OV := O4.out
          rw [List.nil_append] at OV
          obtain ⟨g4, cap4, hV4, hg4⟩ := OV.form (by show 0 < 8; omega)
          have RA : Hid (RndAt w w4 g3 V4 v l) := Lib.hid ⟨OV.wider E3.out.2, ⟨E3.out.1.below OV.2 (by omega), Below.step E3.out.2 OV.2⟩, C3.out.below OV.2, Nat.lt_of_lt_of_le (by omega) OV.2.size, g4, cap4, hV4, by omega⟩
          clear OV hV4 hg4 O4 O3 R4 HN C3 E3 R3
          go_loopw [13, 14] (fun V i wr => ∃ k : Nat, k ≤ 64 ∧ i = .int .i64 (k : Int) ∧ RndAt w wr g3 V (roundsV v l k) l) (fun _ i _ => (65 - intOf i).toNat)
          case atStart => exact ⟨0, by omega, rfl, RA.out⟩
          case round =>
            obtain ⟨k, hk, rfl, hra⟩ := hrel
            have RB := Lib.hid hra
            clear hra RA
            by_cases hk2 : k < 64
            · have t0 : decide ((k : Int) < 64) = true := by simp; omega
              have kI : (k : Int) < 64 := by omega
              have kN : (0 : Int) ≤ (k : Int) := by omega
              have RN : Hid (roundsV v l (k + 1) = stepV (roundsV v l k) (CONSTS[k]?.getD 0) (l[k]?.getD 0)) := Lib.hid rfl
              have RO := ok_rounds OKV.out l k
              generalize hs1 : roundsV v l (k + 1) = s1 at *
              have HS1 := Lib.hid hs1
              clear hs1
              generalize roundsV v l k = s at *
              obtain ⟨g, cap, rfl, hgw⟩ := RB.out.2.2.2.2
              obtain ⟨c0, c1, c2, c3, c4, c5, c6, c7, d0, dc⟩ := RB.out.facts k hk2
              have F2 := fun q => (RB.out.drewN q).facts k hk2
              have RD := Lib.hid (fun q => RB.out.drewN q)
              obtain ⟨a1, b1, cc1, d1, e1, f1, g1, h1⟩ := s
              obtain ⟨ra, rb, rc, rd, re, rf, rg, rh⟩ := RO
              unfold W32 at ra rb rc rd re rf rg rh
              simp only at ra rb rc rd re rf rg rh c0 c1 c2 c3 c4 c5 c6 c7 F2
              generalize CONSTS[k]?.getD 0 = cc at *
              generalize l[k]?.getD 0 = ww at *
              have HF := Lib.hid F2
              clear F2 RB
              go_wp2_with fail
              go_quiet ((go_at_call 116; exact Calls.quiet_of (rturni_any _ _ _ (by unfold Turns; decide) (by decide) (by omega) (by omega))))
              have R2 := Lib.hid (RD.out nq)
              obtain ⟨c0, c1, c2, c3, c4, c5, c6, c7, d0, dc⟩ := HF.out nq
              clear HF RD
              generalize wr.drewN nq = wr2 at *
              have RD := Lib.hid (fun q => R2.out.drewN q)
              have HF := Lib.hid (fun q => (R2.out.drewN q).facts k hk2)
              clear R2
              go_wp2_with fail
              go_quiet ((go_at_call 116; exact Calls.quiet_of (rturni_any _ _ _ (by unfold Turns; decide) (by decide) (by omega) (by omega))))
              have R3 := Lib.hid (RD.out nq)
              obtain ⟨c0, c1, c2, c3, c4, c5, c6, c7, d0, dc⟩ := HF.out nq
              clear HF RD
              generalize wr2.drewN nq = wr3 at *
              go_wp2_with fail
              obtain ⟨p, hp⟩ : ∃ p, p = m32 (h1 + bigE e1 + choose e1 f1 g1 + cc + ww) := ⟨_, rfl⟩
              obtain ⟨q, hq⟩ : ∃ q, q = m32 (bigA a1 + most a1 b1 cc1) := ⟨_, rfl⟩
              have hp' : (h1 + bits .xor .u32 (bits .xor .u32 (rotI e1 6) (rotI e1 11)) (rotI e1 25) + bits .or .u32 (bits .and .u32 e1 f1) (bits .and .u32 (bits .xor .u32 IntKind.u32.max e1) g1) + cc + ww) % 4294967296 = p := hp.symm
              have hq' : (bits .xor .u32 (bits .xor .u32 (rotI a1 2) (rotI a1 13)) (rotI a1 22) + bits .or .u32 (bits .or .u32 (bits .and .u32 a1 b1) (bits .and .u32 a1 cc1)) (bits .and .u32 b1 cc1)) % 4294967296 = q := hq.symm
              rw [hp', hq']
              clear hp' hq'
              have S1 : Hid (s1 = ⟨m32 (p + q), a1, b1, cc1, m32 (d1 + p), e1, f1, g1⟩) := by
                rw [RN.out, hp, hq]
                exact Lib.hid rfl
              clear hp hq
              have wpq : IntKind.u32.wrap (p + q) = m32 (p + q) := wrap_m32 _
              have wdp : IntKind.u32.wrap (d1 + p) = m32 (d1 + p) := wrap_m32 _
              generalize m32 (p + q) = P at *
              generalize m32 (d1 + p) = D at *
              have n0 := cell_later c0
              have n1 := cell_later c1
              have n2 := cell_later c2
              have n3 := cell_later c3
              have n4 := cell_later c4
              have n5 := cell_later c5
              have n6 := cell_later c6
              refine wp_region_ord Ext Ext.refl (fun _ _ _ => Ext.trans) ((0, false) :: (1, false) :: (2, false) :: (3, false) :: (4, false) :: (5, false) :: (6, false) :: (7, false) :: (8, false) :: (9, false) :: (10, false) :: (11, false) :: (12, false) :: (13, false) :: (14, false) :: (15, false) :: (16, false) :: (17, false) :: (18, false) :: (19, false) :: (20, false) :: (21, false) :: (22, false) :: (23, false) :: (24, false) :: (25, false) :: (26, true) :: (27, false) :: []) (by kernel_rfl) (by kernel_rfl) rfl (by kernel_rfl) (fun _ _ _ _ _ h => h) ?_
              repeat (refine ord_take _ rfl (by rfl) (fun W hW => by go_simp; first | done | rfl) ?_; simp only [Act.put, List.setIfInBounds_toArray, List.set_cons_zero, List.set_cons_succ])
              clear n0 n1 n2 n3 n4 n5 n6
              refine ord_sole rfl (by rfl) (fun K1 hK1 => ?_)
              go_simp
              have EX : ∀ o : Obj, Ext wr3.drew (wr3.alloc o).drew := fun o => by
                have h := (Below.refl wr3.heap.size wr3).alloc (Nat.le_refl _) o
                exact ⟨h.os, h.tape, h.output, h.size, h.block⟩
              refine hK1 _ _ (EX _) ?_
              clear hK1 K1 EX
              repeat (refine ord_take _ rfl (by rfl) (fun W hW => by go_simp; first | done | rfl) ?_; simp only [Act.put, List.setIfInBounds_toArray, List.set_cons_zero, List.set_cons_succ])
              refine ord_end ?_
              have N4 := Lib.hid ((R3.out.next ⟨P, a1, b1, cc1, D, e1, f1, g1⟩).drewN 1)
              clear c0 c1 c2 c3 c4 c5 c6 c7 d0 dc
              go_wp2_with fail
              go_roundw
              case rel => exact ⟨k + 1, by omega, by first | rfl | go_num, by rw [HS1.out, S1.out]; exact N4.out⟩
              case measure => simp only [intOf]; omega
            · obtain rfl : k = 64 := by omega
              have F2 : Hid (blockV v zs = addV (roundsV v l 64) v) := F
              have OKS := Lib.hid (ok_rounds OKV.out l 64)
              generalize roundsV v l 64 = s at *
              obtain ⟨g, cap, rfl, hgw⟩ := RB.out.2.2.2.2
              have RS0 := Lib.hid (RS.out.below RB.out.2.1.2)
              have OO := Lib.hid RB.out.1
              have O0 : Hid (Out32 w wr (.slice (some ⟨g, 0, none⟩) 8 cap) ((addV s v).list.take 0 ++ s.list.drop 0)) := Lib.hid OO.out
              clear hk2 RB OO RS0
              rw [show ((64 : Nat) : Int) = 64 by rfl]
              obtain ⟨ab, ao, hae, halt, _⟩ := RS.out.2.2 (by omega)
              subst hae
              go_wp2_with fail
              go_loopw [19] (fun i w5 => ∃ k : Nat, k ≤ 8 ∧ i = .int .i64 (k : Int) ∧ Out32 w w5 (.slice (some ⟨g, 0, none⟩) 8 cap) ((addV s v).list.take k ++ s.list.drop k)) (fun i _ => (9 - intOf i).toNat)
              case atStart => exact ⟨0, by omega, rfl, O0.out⟩
              case round =>
                obtain ⟨k, hk, rfl, hoo⟩ := hrel
                have OB := Lib.hid hoo
                clear hoo O0
                by_cases hk2 : k < 8
                · have t0 : decide ((k : Int) < 8) = true := by simp; omega
                  have hA : (addV s v).list.length = 8 := rfl
                  have hS : s.list.length = 8 := rfl
                  have hll : ((addV s v).list.take k ++ s.list.drop k).length = 8 := by simp only [List.length_append, List.length_take, List.length_drop]; omega
                  obtain ⟨c0, f0⟩ := OB.out.cell k (by omega)
                  rw [mixed_get _ _ _ hA hS hk2] at c0
                  have AR := RS.out.below OB.out.2
                  obtain ⟨_, _, hae, _, hac⟩ := AR.2.2 (by omega)
                  injection hae with hae
                  injection hae with hae1 hae2
                  subst hae1 hae2
                  have a0 := hac k hk2
                  have AG := addV_get s v k hk2
                  have MS := mixed_set (addV s v).list s.list k hA hS hk2
                  rw [AG] at MS
                  have ST := fun x => OB.out.set hgw k x
                  have r0 := list_range OKS.out (s.list[k]?.getD 0) (by rw [List.getElem?_eq_getElem (show k < s.list.length by omega)]; exact List.getElem_mem _)
                  have r1 := AR.num k
                  generalize s.list[k]?.getD 0 = x at *
                  generalize v.list[k]?.getD 0 = y at *
                  have NX : Hid (Out32 w ((wr.setCell ⟨g, k, none⟩ (.int .u32 (m32 (x + y)))).drewN 1) (.slice (some ⟨g, 0, none⟩) 8 cap) ((addV s v).list.take (k + 1) ++ s.list.drop (k + 1))) := by
                    rw [← MS]
                    exact Lib.hid ((ST (m32 (x + y))).drewN 1)
                  clear MS ST AG OB AR hac hll
                  have kI : (k : Int) < 8 := by omega
                  have kN : (0 : Int) ≤ (k : Int) := by omega
                  have wxy : IntKind.u32.wrap (x + y) = m32 (x + y) := wrap_m32 _
                  generalize m32 (x + y) = z at *
                  go_wp2_with fail
                  go_region
                  go_wp2_with fail
                  go_roundw
                  case rel => exact ⟨k + 1, by omega, by first | rfl | go_num, NX.out⟩
                  case measure => simp only [intOf]; omega
                · obtain rfl : k = 8 := by omega
                  have OE : Hid (Out32 w wr (.slice (some ⟨g, 0, none⟩) 8 cap) (blockV v zs).list) := by rw [F2.out]; exact Lib.hid OB.out
                  clear OB
                  rw [show ((8 : Nat) : Int) = 8 by rfl]
                  go_wp2_with fail
                  go_ret
                  exact ⟨_, rfl, OE.out⟩
end Go.Proofs.YtgmefdmeeihgoaaGreatDoor
namespace Go.Proofs.YtgmefdmeeihgoaaGreatDoor
open Go.RowKit
set_option linter.unusedVariables false
theorem H0_lit : (⟨0x6a09e667, 0xbb67ae85, 0x3c6ef372, 0xa54ff53a, 0x510e527f, 0x9b05688c, 0x1f83d9ab, 0x5be0cd19⟩ : V8) = H0 := rfl
theorem out_at (v : V8) (q : Nat) (hq : q < 8) : (outV v)[4 * q]?.getD 0 = v.list[q]?.getD 0 / 16777216 % 256 ∧ (outV v)[4 * q + 1]?.getD 0 = v.list[q]?.getD 0 / 65536 % 256 ∧ (outV v)[4 * q + 2]?.getD 0 = v.list[q]?.getD 0 / 256 % 256 ∧ (outV v)[4 * q + 3]?.getD 0 = v.list[q]?.getD 0 % 256 := by
  have e : outV v = beZ 4 v.a ++ beZ 4 v.b ++ beZ 4 v.c ++ beZ 4 v.d ++ beZ 4 v.e ++ beZ 4 v.f ++ beZ 4 v.g ++ beZ 4 v.h := by
    unfold outV V8.list
    simp
  rw [e, be4, be4, be4, be4, be4, be4, be4, be4]
  rcases q with _ | _ | _ | _ | _ | _ | _ | _ | q
  all_goals first | (exfalso; omega) | exact ⟨rfl, rfl, rfl, rfl⟩
theorem out_len (v : V8) : (outV v).length = 32 := by
  unfold outV V8.list
  simp [beZ_length]
theorem take_next (l : List Int) (k : Nat) (hk : k < l.length) : l.take (k + 1) = l.take k ++ [l[k]?.getD 0] := by
  rw [List.take_succ_eq_append_getElem hk, List.getElem?_eq_getElem hk]
  rfl
theorem Row32.setFar {w : World} {g S n j : Nat} {zs : List Int} {v : Value} (h : Row32 w (some ⟨g, 0, none⟩) n zs) (hne : g ≠ S) (hn : 0 < n) : Row32 (w.setCell ⟨S, j, none⟩ v) (some ⟨g, 0, none⟩) n zs := by
  refine ⟨h.1, h.2.1, fun _ => ?_⟩
  obtain ⟨b, off, e, hb, hc⟩ := h.2.2 hn
  injection e with e
  injection e with e1 e2
  subst e1 e2
  refine ⟨g, 0, rfl, by simpa using hb, fun i hi => ?_⟩
  rw [World.cell?_setCell_other _ _ _ _ (fun e => by injection e with e; exact hne e.symm)]
  exact hc i hi
theorem SumAt.put {w wr : World} {S : Nat} {L : List Int} {k : Nat} (h : SumAt w wr S (L.take k)) (hL : L.length = 32) (hk : k < 32) (hS : w.heap.size < S) : SumAt w (wr.setCell ⟨S, k, none⟩ (.int .u8 (L[k]?.getD 0))) S (L.take (k + 1)) := by
  refine ⟨h.1.far (by omega) _ _, ?_, h.2.2.setCell (by show w.heap.size ≤ S; omega) _⟩
  have ht : (L.take k).length = k := by rw [List.length_take]; omega
  have e := h.2.1.set k (.int .u8 (L[k]?.getD 0))
  rw [bcells_set _ _ _ ht.symm (by omega), ← take_next L k (by omega)] at e
  exact e
def GoAt (w wr : World) (af : Option Addr) (cf : Nat) (fl : List Int) (V : Value) (s : V8) : Prop :=
  (∃ g cap, V = .slice (some ⟨g, 0, none⟩) 8 cap ∧ Row32 wr (some ⟨g, 0, none⟩) 8 s.list) ∧ Row wr af fl.length fl ∧ Blk wr w.heap.size 72 Z32 ∧ Below w.heap.size w wr ∧ w.heap.size < wr.heap.size
set_option maxHeartbeats 1000000 in
set_option maxRecDepth 100000 in
theorem rhof_any (a : Option Addr) (n ca : Nat) (zs : List Int) (w : World) (hr : Row w a n zs) (hn : n ≤ 100000) (hnil : a = none → ca = 0) : Calls Tryz.prog 50 #[.slice a n ca] w (GivesHash (hashZ zs) w) := by
  have BR : Hid (Below w.heap.size w ((w.alloc (.cells Z32 72)).alloc (.cells H0.cells 23))) := Lib.hid (((Below.refl _ _).alloc (Nat.le_refl _) _).alloc (by simp) _)
  have BA : Hid (Blk ((w.alloc (.cells Z32 72)).alloc (.cells H0.cells 23)) w.heap.size 72 Z32) := Lib.hid ((Blk.new w _ _).alloc _)
  have BH : Hid (Row32 ((w.alloc (.cells Z32 72)).alloc (.cells H0.cells 23)) (some ⟨(w.alloc (.cells Z32 72)).heap.size, 0, none⟩) 8 H0.list) := Lib.hid (row32_const (w.alloc (.cells Z32 72)) H0.list (list_range ok_H0))
  have hs1 : (w.alloc (.cells Z32 72)).heap.size = w.heap.size + 1 := by simp
  rw [hs1] at BH
  have CF := Lib.hid (fun W (hb : Below w.heap.size w W) => rfilled_any a n ca zs W (hr.below hb) hn hnil)
  have FB := Lib.hid (fill_byte hr.2.1)
  have hzn := hr.1
  have FL := (fill_len zs).1
  have FLB : (fillZ zs).length ≤ 200000 := by
    have := (fill_len zs).1
    have := pad_le zs.length
    omega
  have HX : Hid (hashZ zs = outV (runV ((fillZ zs).length / 64) H0 (fillZ zs))) := Lib.hid rfl
  clear hr hnil
  generalize hfl : fillZ zs = fl at *
  clear hfl
  generalize hashZ zs = hz at *
  generalize (zs.length + 9 + padN zs.length) / 64 = m at *
  have HFL := Lib.hid FL
  clear FL
  simp only [V8.cells, H0] at BR BA BH
  go_enter Tryz.func50, Tryz.ntmps50
  go_wp2_with (refine Great.wpList_allocTo rfl (some 2) rfl (.pointer (some ⟨w.heap.size, 0, none⟩)) (.cells Z32 72) rfl ?_)
  rw [H0_lit] at BH
  generalize (w.alloc (.cells Z32 72)).alloc (.cells #[.int .u32 1779033703, .int .u32 3144134277, .int .u32 1013904242, .int .u32 2773480762, .int .u32 1359893119, .int .u32 2600822924, .int .u32 528734635, .int .u32 1541459225] 23) = w1 at *
  clear hs1
  refine (CF.out _ BR.out).mono ?_
  intro e w2 h2
  obtain ⟨af, cf, rfl, hrf, hnf, hcf, hbf⟩ := h2.row FB.out
  have BF := Lib.hid hbf
  have ltR := BA.out.lt
  have G0 : Hid (GoAt w w2 af cf fl (.slice (some ⟨w.heap.size + 1, 0, none⟩) 8 8) (runV 0 H0 fl)) := Lib.hid ⟨⟨_, _, rfl, BH.out.below hbf⟩, hrf, BA.out.below hbf ltR, Below.step BR.out hbf, Nat.lt_of_lt_of_le ltR hbf.size⟩
  clear h2 hrf hbf CF BR BA BH BF ltR hnf
  go_wp2_with fail
  go_loopw [3, 5] (fun V i wr => ∃ j : Nat, 64 * j ≤ fl.length ∧ i = .int .i64 ((64 * j : Nat) : Int) ∧ GoAt w wr af cf fl V (runV j H0 fl)) (fun _ i _ => (200001 - intOf i).toNat)
  case atStart => exact ⟨0, by omega, rfl, G0.out⟩
  case round =>
    obtain ⟨j, hj, rfl, hg⟩ := hrel
    have GB := Lib.hid hg
    clear hg G0
    have OKJ := ok_run j fl ok_H0
    by_cases hlt : 64 * j < fl.length
    · have t0 : decide (((64 * j : Nat) : Int) < (fl.length : Int)) = true := by simp; omega
      have jl : 64 * (j + 1) ≤ fl.length := by have := HFL.out; omega
      have RL := Lib.hid (runV_last j H0 fl)
      generalize hs1 : runV (j + 1) H0 fl = s1 at *
      have HS1 := Lib.hid hs1
      clear hs1
      generalize runV j H0 fl = s at *
      obtain ⟨⟨g, cap, rfl, hrow⟩, hrf, hbz, hbl, hlz⟩ := GB.out
      have HROW := Lib.hid hrow
      have RF := Lib.hid ((hrf.rest (64 * j) cf (by omega) hcf).first 64 (by omega))
      obtain ⟨fb, fo, rfl, hfb, _⟩ := hrf.2.2 (by omega)
      clear hrow hrf hbz hbl hlz
      generalize ho : 64 * j = o at *
      have hne : ¬ cf = o := by omega
      rw [if_neg hne, Option.map_some, Addr.add_lit] at RF
      have e1 : IntKind.i64.wrap ((o : Int) + 64) = ((o + 64 : Nat) : Int) := by rw [Int.natCast_add]; exact IntWalk.i64_in _ (by omega)
      have o1 : (o : Int) ≤ ((o + 64 : Nat) : Int) := by omega
      have o2 : ((o + 64 : Nat) : Int) ≤ (cf : Int) := by omega
      have o3 : o + 64 - o = 64 := by omega
      have o4 : 64 ≤ cf - o := by omega
      have CT := Lib.hid (through_any s OKJ (some ⟨g, 0, none⟩) (some ⟨fb, fo + o, none⟩) cap (cf - o) ((fl.drop o).take 64) wr HROW.out RF.out o4)
      rw [← RL.out] at CT
      clear RL
      have D0 : decide ((o : Int) < (fl.length : Int)) = true := t0
      go_wp2_with fail
      refine CT.out.mono ?_
      rintro e w3 ⟨V3, rfl, ho3⟩
      obtain ⟨g5, cap5, rfl, hg5⟩ := ho3.form (by show 0 < 8; omega)
      obtain ⟨a6, c6, ha6, hr6⟩ := ho3.row (list_range (by rw [← HS1.out]; exact ok_run _ _ ok_H0))
      injection ha6 with ha6 _ hc6
      subst ha6 hc6
      have B3 := ho3.2
      have G2 : Hid (GoAt w w3 (some ⟨fb, fo, none⟩) cf fl (.slice (some ⟨g5, 0, none⟩) 8 cap5) s1) := by
        obtain ⟨_, hrf, hbz, hbl, hlz⟩ := GB.out
        exact Lib.hid ⟨⟨_, _, rfl, hr6⟩, hrf.below B3, hbz.below B3 hlz, Below.step hbl B3, Nat.lt_of_lt_of_le hlz B3.size⟩
      clear ho3 hr6 B3 GB HROW RF CT
      go_wp2_with fail
      go_roundw
      case rel => exact ⟨j + 1, jl, by rw [show 64 * (j + 1) = o + 64 by omega]; first | rfl | go_num, by rw [HS1.out]; exact G2.out⟩
      case measure => simp only [intOf]; omega
    · have je : fl.length / 64 = j := by have := HFL.out; omega
      have F : Hid (hz = outV (runV j H0 fl)) := by rw [← je]; exact HX
      have t0 : decide (((64 * j : Nat) : Int) < (fl.length : Int)) = false := by simp; omega
      generalize runV j H0 fl = s at *
      obtain ⟨⟨g, cap, rfl, hrow⟩, hrf, hbz, hbl, ltS⟩ := GB.out
      have HROW := Lib.hid hrow
      have HBZ := Lib.hid hbz
      have HBL := Lib.hid hbl
      clear hrow hrf hbz hbl je GB HX
      generalize ho : 64 * j = o at *
      clear ho
      go_wp2_with (refine Great.wpList_allocTo rfl (some 6) rfl (.pointer (some ⟨wr.heap.size, 0, none⟩)) (.cells Z32 72) rfl ?_)
      have OL := out_len s
      have S0 : Hid (SumAt w (wr.alloc (.cells Z32 72)) wr.heap.size ((outV s).take 0)) := Lib.hid ⟨HBZ.out.alloc _, Blk.new wr _ _, HBL.out.alloc HBL.out.size _⟩
      have R0 : Hid (Row32 (wr.alloc (.cells Z32 72)) (some ⟨g, 0, none⟩) 8 s.list) := Lib.hid (HROW.out.below ((Below.refl _ _).alloc (Nat.le_refl _) _))
      have gS : g < wr.heap.size := by
        obtain ⟨_, _, e, hb, _⟩ := HROW.out.2.2 (by omega)
        injection e with e
        injection e with e1 _
        omega
      clear HBZ HROW HBL
      generalize wr.alloc (.cells Z32 72) = w5 at *
      generalize wr.heap.size = S at *
      go_loopw [7] (fun i wr => ∃ k : Nat, k ≤ 32 ∧ i = .int .i64 (k : Int) ∧ SumAt w wr S ((outV s).take k) ∧ Row32 wr (some ⟨g, 0, none⟩) 8 s.list) (fun i _ => (33 - intOf i).toNat)
      case atStart => exact ⟨0, by omega, rfl, S0.out, R0.out⟩
      case round =>
        obtain ⟨k, hk, rfl, hsa, hrw⟩ := hrel
        have SA := Lib.hid hsa
        have RW := Lib.hid hrw
        clear hsa hrw S0 R0
        by_cases hk2 : k < 32
        · have t0 : decide ((k : Int) < 32) = true := by simp; omega
          have kI : (k : Int) < 32 := by omega
          obtain ⟨q, hq⟩ : ∃ q, q = k / 4 := ⟨_, rfl⟩
          obtain ⟨r, hr⟩ : ∃ r, r = k % 4 := ⟨_, rfl⟩
          have hqr : k = 4 * q + r := by omega
          have q8 : q < 8 := by omega
          have r4 : r < 4 := by omega
          have d1 : (k : Int).tdiv 4 = (q : Int) := by rw [Int.tdiv_eq_ediv_of_nonneg (by omega)]; omega
          have d2 : (k : Int).tmod 4 = (r : Int) := by rw [Int.tmod_eq_emod_of_nonneg (by omega)]; omega
          have qI : (q : Int) < 8 := by omega
          obtain ⟨_, _, hge, _, hgc⟩ := RW.out.2.2 (by omega)
          injection hge with hge
          injection hge with hge1 hge2
          subst hge1 hge2
          have c0 := hgc q q8
          rw [Nat.zero_add] at c0
          have xr := RW.out.num q
          obtain ⟨a0, a1, a2, a3⟩ := out_at s q q8
          have cS := (SA.out.2.1.cell k).trans (bcells_get _ k hk2)
          have fS := SA.out.2.1.free k
          have NX := Lib.hid (SA.out.put OL hk2 ltS)
          have NR := Lib.hid (fun v => RW.out.setFar (j := k) (v := v) (Nat.ne_of_lt gS) (by omega))
          generalize s.list[q]?.getD 0 = x at *
          clear hgc SA RW hq hr
          have r_is : r = 0 ∨ r = 1 ∨ r = 2 ∨ r = 3 := by omega
          rcases r_is with rfl | rfl | rfl | rfl
          · have EV : (outV s)[k]?.getD 0 = x / 16777216 := by rw [hqr]; exact a0.trans (by omega)
            rw [EV] at NX
            have d2' : (k : Int).tmod 4 = 0 := d2
            clear d2 a0 a1 a2 a3 EV hqr
            go_wp2_with fail
            go_roundw
            case rel => exact ⟨k + 1, by omega, by first | rfl | go_num, NX.out, NR.out _⟩
            case measure => simp only [intOf]; omega
          · have EV : (outV s)[k]?.getD 0 = x / 65536 % 256 := by rw [hqr]; exact a1
            rw [EV] at NX
            have d2' : (k : Int).tmod 4 = 1 := d2
            clear d2 a0 a1 a2 a3 EV hqr
            go_wp2_with fail
            go_roundw
            case rel => exact ⟨k + 1, by omega, by first | rfl | go_num, NX.out, NR.out _⟩
            case measure => simp only [intOf]; omega
          · have EV : (outV s)[k]?.getD 0 = x / 256 % 256 := by rw [hqr]; exact a2
            rw [EV] at NX
            have d2' : (k : Int).tmod 4 = 2 := d2
            clear d2 a0 a1 a2 a3 EV hqr
            go_wp2_with fail
            go_roundw
            case rel => exact ⟨k + 1, by omega, by first | rfl | go_num, NX.out, NR.out _⟩
            case measure => simp only [intOf]; omega
          · have EV : (outV s)[k]?.getD 0 = x % 256 := by rw [hqr]; exact a3
            rw [EV] at NX
            have d2' : (k : Int).tmod 4 = 3 := d2
            clear d2 a0 a1 a2 a3 EV hqr
            go_wp2_with fail
            go_roundw
            case rel => exact ⟨k + 1, by omega, by first | rfl | go_num, NX.out, NR.out _⟩
            case measure => simp only [intOf]; omega
        · obtain rfl : k = 32 := by omega
          have E : (outV s).take 32 = hz := by rw [F.out]; exact List.take_of_length_le (by omega)
          rw [E] at SA
          have L32 : hz.length ≤ 32 := by rw [F.out]; omega
          have KA := Lib.hid SA.out.1
          have KS := Lib.hid SA.out.2.1
          have KW := Lib.hid SA.out.2.2
          clear SA RW F E
          rw [show ((32 : Nat) : Int) = 32 by rfl]
          go_wp2_with (first
            | (refine wpList_load_row rfl 72 (.tmp 6) rfl S rfl 72 (bcells hz) (0, 0) (.array 32 5) KS.out Tryz.underlying72 rfl (Tryz.size24 hz L32) ?_)
            | (refine wpList_store_rowTo rfl 72 (.tmp 2) (.tmp 41) rfl rfl w.heap.size (bcells hz) rfl rfl 72 Z32 KA.out (Tryz.size24 hz L32) (by rw [bcells_size hz L32]; rfl) (bcells_one hz) ?_))
          exact bodyPost_ret (results_cell_row rfl _ _ w.heap.size 72 (bcells hz) (0, 0) (.array 32 5) rfl (setRow_heap _ _ _ _ 72 _ KA.out) Tryz.underlying72 rfl (Tryz.size24 hz L32)) rfl ⟨rfl, below_setRow KW.out (Nat.le_refl _) _⟩
end Go.Proofs.YtgmefdmeeihgoaaGreatDoor
namespace Go.Proofs.YtgmefdmeeihgoaaGreatDoor
open Go.RowKit
def hd (v : Int) : Int := if v < 10 then 48 + v else 87 + v
def hexZ : List Int → List Int
  | [] => []
  | x :: xs => hd (x / 16) :: hd (x % 16) :: hexZ xs
theorem hexZ_append (xs ys : List Int) : hexZ (xs ++ ys) = hexZ xs ++ hexZ ys := by
  induction xs with
  | nil => rfl
  | cons x xs ih => simp [hexZ, ih]
theorem hexZ_length (xs : List Int) : (hexZ xs).length = 2 * xs.length := by
  induction xs with
  | nil => rfl
  | cons x xs ih => simp [hexZ, ih]; omega
theorem take_snoc {zs : List Int} {k : Nat} (h : k < zs.length) : zs.take (k + 1) = zs.take k ++ [zs[k]?.getD 0] := by
  rw [List.take_succ_eq_append_getElem h]
  simp [List.getElem?_eq_getElem h]
theorem hexZ_take {zs : List Int} {k : Nat} (h : k < zs.length) : hexZ (zs.take (k + 1)) = hexZ (zs.take k) ++ [hd (zs[k]?.getD 0 / 16)] ++ [hd (zs[k]?.getD 0 % 16)] := by
  rw [take_snoc h, hexZ_append]
  simp [hexZ]
def Inv (w wr : World) (L : List Int) : Prop :=
  ∃ g cap, wr.heap[w.heap.size + 1]? = some (.cells #[.slice (some ⟨g, 0, none⟩) L.length cap] 22 (0, 0)) ∧
    wr.ownsRow w.heap.size 5 1 (.slice (some ⟨g, 0, none⟩) L.length cap) L.length (L.map (Value.int .u8)) ∧ Below w.heap.size w wr
theorem digit_at (v : Int) (h0 : 0 ≤ v) (h1 : v ≤ 15) (W : World) :
    (Instr.index 9 (.string ⟨#[48, 49, 50, 51, 52, 53, 54, 55, 56, 57, 97, 98, 99, 100, 101, 102]⟩) (.int .u8 v)).run Tryz.prog W = .ok (.int .u8 (hd v)) W := by
  obtain ⟨k, rfl⟩ := Int.eq_ofNat_of_zero_le h0
  have hk : k ≤ 15 := by omega
  clear h0 h1
  rw [run_index_string W 9 _ .u8 _ Tryz.underlying9, dif_pos ⟨by omega, by simp only [ByteArray.size_mk']; simp; omega⟩]
  congr 2
  rcases k with _ | _ | _ | _ | _ | _ | _ | _ | _ | _ | _ | _ | _ | _ | _ | _ | k
  all_goals first | rfl | (exfalso; omega)
theorem own_ne {w : World} {base B g n cap : Nat} {xs : List Value} {V : Value} (hv : w.heap[B]? = some (.cells #[V] 22 (0, 0))) (hown : w.ownsRow base 5 1 (.slice (some ⟨g, 0, none⟩) n cap) n xs) : g ≠ B := by
  rintro rfl
  rcases hown.2 with ⟨h, _⟩ | ⟨g', cap', cur, h, _, hg, _⟩
  · cases h
  · simp only [Value.slice.injEq, Option.some.injEq, Addr.mk.injEq, and_true, true_and] at h
    obtain ⟨rfl, rfl⟩ := h
    rw [hv] at hg
    injection hg with hg
    injection hg with _ ht
    cases ht
theorem put_kept {wr w1 : World} {base B g n cap : Nat} {xs : List Value} {V : Value} {o : Obj} (hv : wr.heap[B]? = some (.cells #[V] 22 (0, 0))) (hown : wr.ownsRow base 5 1 (.slice (some ⟨g, 0, none⟩) n cap) n xs)
    (hg : (wr.alloc o).drew.grownBy w1 (Value.slice (some ⟨g, 0, none⟩) n cap).ownBlock) : w1.heap[B]? = some (.cells #[V] 22 (0, 0)) := by
  have hlt := lt_of_block hv
  have hne := own_ne hv hown
  rw [hg.block B (by show B < (wr.alloc o).heap.size; simp; omega) (by simp [Value.ownBlock]; omega)]
  exact (Below.heap_alloc wr o B hlt).trans hv
theorem put_end {w wr w1 : World} {L : List Int} {g cap g1 cap1 : Nat} {v : Int} {o : Obj} {V : Value} (hv : wr.heap[w.heap.size + 1]? = some (.cells #[V] 22 (0, 0)))
    (hown : wr.ownsRow w.heap.size 5 1 (.slice (some ⟨g, 0, none⟩) L.length cap) L.length (L.map (Value.int .u8))) (hb : Below w.heap.size w wr)
    (hown1 : w1.ownsRow w.heap.size 5 1 (.slice (some ⟨g1, 0, none⟩) (L.length + 1) cap1) (L.length + 1) (L.map (Value.int .u8) ++ [Value.int .u8 (hd v)]))
    (hg : (wr.alloc o).drew.grownBy w1 (Value.slice (some ⟨g, 0, none⟩) L.length cap).ownBlock) :
    Inv w (w1.setCell ⟨w.heap.size + 1, 0, none⟩ (.slice (some ⟨g1, 0, none⟩) (L.length + 1) cap1)) (L ++ [hd v]) := by
  have hv1 := put_kept hv hown hg
  have hne := own_ne hv1 hown1
  have e : (L ++ [hd v]).length = L.length + 1 := by simp
  refine ⟨g1, cap1, ?_, ?_, ?_⟩
  · rw [e]
    exact one_setCell hv1
  · rw [e, List.map_append]
    exact ownsRow_setCell_other hown1 (by simp [Value.ownBlock]; omega) _
  · refine Below.setCell ?_ (Nat.le_succ _) _
    exact ((hb.alloc hb.size o).drew).grown hg (by show w.heap.size ≤ (wr.alloc o).heap.size; have := hb.size; simp; omega) (fun k hk => by simp [Value.ownBlock] at hk; subst hk; exact (hown.lt _ rfl).1)
set_option maxHeartbeats 400000 in
theorem put_any (w wr : World) (L : List Int) (v : Int) (h0 : 0 ≤ v) (h1 : v ≤ 15) (hi : Inv w wr L) (hl : L.length ≤ 1000000) :
    Calls Tryz.prog 84 #[.int .u8 v, .pointer (some ⟨w.heap.size + 1, 0, none⟩)] wr fun e w' => e = .returned (.tuple #[]) ∧ Inv w w' (L ++ [hd v]) := by
  obtain ⟨i0, hi5, hz0, hz1, hz2⟩ := info_parts Tryz.infoByte
  obtain ⟨g, cap, hv, hown, hb⟩ := hi
  have hc := cell_of_one hv
  have hf := free_of_one hv
  have hca : ∀ o, (wr.alloc o).cell? ⟨w.heap.size + 1, 0, none⟩ = some (.slice (some ⟨g, 0, none⟩) L.length cap) := fun o => (World.cell?_alloc_lt wr o _ (lt_of_block hv)).trans hc
  have HV := Lib.hid hv
  clear hv
  have hdig := digit_at v h0 h1
  have hlt := hb.size
  go_enter Tryz.func84, Tryz.ntmps84
  go_region_law (refine step_append_lies _ rfl _ _ 22 rfl w.heap.size 5 i0 (.int .u8 0) 1 1 Tryz.underlying22 hi5 hz0 hz1 hz2 rfl (by decide) _ L.length (L.map (Value.int .u8)) rfl (hown.alloc _) ⟨wr.heap.size, 0, none⟩ 1 1 [.int .u8 (hd v)] rfl rfl (cell_one_new _ _ _) (by simp [Value.oneCell']) (by decide) (by unfold maxLen; omega) (by omega) (by simp; omega) (wr.heap.size + 1) (by simp) ?_; intro g1 cap1 w1 hown1 hgrow1 _ _; have hc1 := cell_of_one (put_kept HV.out hown hgrow1); have hf1 := free_of_one (put_kept HV.out hown hgrow1))
  all_goals go_end0
  all_goals exact ⟨rfl, put_end HV.out hown hb (by assumption) (by assumption)⟩
theorem hex_start (w : World) (c : Nat) (hc : c ≤ 1000000) :
    Inv w ((w.alloc (.cells (madeCells #[.int .u8 0] c) 5)).alloc (.cells #[.slice (some ⟨w.heap.size, 0, none⟩) 0 c] 22)) [] := by
  refine ⟨w.heap.size, c, ?_, ?_, ((Below.refl _ _).alloc (Nat.le_refl _) _).alloc (by simp) _⟩
  · have := heap_alloc_new (w.alloc (.cells (madeCells #[.int .u8 0] c) 5)) (.cells #[.slice (some ⟨w.heap.size, 0, none⟩) 0 c] 22)
    simpa using this
  · exact World.ownsRow.alloc (World.ownsRow_made w _ c (Nat.le_refl _) (by unfold maxLen; omega) (by rw [size_madeCells]; omega)) _
theorem and15 {x : Int} (h0 : 0 ≤ x) (h1 : x ≤ 255) : bits .and .u8 x 15 = x % 16 := u8_and15 x h0 (by omega)
theorem Inv.read {w wr : World} {L : List Int} (h : Inv w wr L) (hL : ∀ x ∈ L, 0 ≤ x ∧ x ≤ 255) :
    ∃ g cap, wr.cell? ⟨w.heap.size + 1, 0, none⟩ = some (.slice (some ⟨g, 0, none⟩) L.length cap) ∧
      (convert 22 9 (.slice (some ⟨g, 0, none⟩) L.length cap)).run Tryz.prog wr = .ok (.string (strOfNums L)) wr := by
  obtain ⟨g, cap, hv, hown, _⟩ := h
  exact ⟨g, cap, cell_of_one hv, (Row.of_own hown hL).conv 22 9 5 Tryz.underlying22 Tryz.underlying5 Tryz.underlying9⟩
theorem Inv.below {w wr : World} {L : List Int} (h : Inv w wr L) : Below w.heap.size w wr := by
  obtain ⟨_, _, _, _, h⟩ := h
  exact h
theorem Inv.cell_old {w wr : World} {L : List Int} (h : Inv w wr L) {b o : Nat} (hb : b < w.heap.size) : wr.cell? ⟨b, o, none⟩ = w.cell? ⟨b, o, none⟩ := h.below.cell (p := ⟨b, o, none⟩) hb
theorem hd_byte {v : Int} (h0 : 0 ≤ v) (h1 : v ≤ 15) : 0 ≤ hd v ∧ hd v ≤ 255 := by
  unfold hd
  split <;> omega
theorem hexZ_byte : ∀ zs : List Int, (∀ x ∈ zs, 0 ≤ x ∧ x ≤ 255) → ∀ x ∈ hexZ zs, 0 ≤ x ∧ x ≤ 255
  | [], _, x, hx => by simp [hexZ] at hx
  | y :: ys, h, x, hx => by
    have hy := h y (by simp)
    simp only [hexZ, List.mem_cons] at hx
    rcases hx with rfl | rfl | hx
    · exact hd_byte (by omega) (by omega)
    · exact hd_byte (by omega) (by omega)
    · exact hexZ_byte ys (fun z hz => h z (by simp [hz])) x hx
set_option maxHeartbeats 400000 in
theorem hex_any (a : Option Addr) (n ca : Nat) (zs : List Int) (w : World) (hx : Row w a n zs) (hn : n ≤ 10000) :
    Calls Tryz.prog 49 #[.slice a n ca] w fun e w' => e = .returned (.string (strOfNums (hexZ zs))) ∧ Below w.heap.size w w' := by
  have HX := Lib.hid hx
  clear hx
  have hmk := make_bytes (2 * n) (by omega)
  have e2 : ((2 * n : Nat) : Int) = 2 * (n : Int) := by omega
  rw [e2] at hmk
  clear e2
  have HS := Lib.hid (hex_start w (2 * n) (by omega))
  go_enter Tryz.func49, Tryz.ntmps49
  go_wp2
  clear hmk
  go_loopw [13] (fun i wr => ∃ k : Nat, k ≤ n ∧ i = .int .i64 k ∧ Inv w wr (hexZ (zs.take k))) (fun i _ => n - (intOf i).toNat)
  case atStart => exact ⟨0, Nat.zero_le _, rfl, by simpa [hexZ] using HS.out⟩
  case round =>
    obtain ⟨k, hk, rfl, hinv⟩ := hrel
    have HI := Lib.hid hinv
    clear hinv HS
    have hll : (hexZ (zs.take k)).length ≤ 2 * n := by rw [hexZ_length, List.length_take]; omega
    by_cases hlt : k < n
    · obtain ⟨b1, o1, rfl, hb1, hc1⟩ := HX.out.2.2 (by omega)
      have c0 := hc1 k hlt
      clear hc1
      have bx := HX.out.byte k
      have ST := Lib.hid (hexZ_take (zs := zs) (k := k) (by rw [HX.out.1]; exact hlt))
      generalize zs[k]?.getD 0 = x at c0 bx ST
      generalize hexZ (zs.take k) = L at HI hll ST
      have c1 := (HI.out.cell_old (o := o1 + k) hb1).trans c0
      have ha := and15 bx.1 bx.2
      go_wp2_with fail
      refine (put_any w _ L _ (by omega) (by omega) HI.out (by omega)).mono ?_
      rintro e w2 ⟨rfl, hinv2⟩
      have c2 := (hinv2.cell_old (o := o1 + k) hb1).trans c0
      have HI2 := Lib.hid hinv2
      clear hinv2
      go_wp2_with fail
      refine (put_any w _ _ _ (by omega) (by omega) HI2.out (by simp; omega)).mono ?_
      rintro e w3 ⟨rfl, hinv3⟩
      have HI3 := Lib.hid hinv3
      clear hinv3 ha
      go_wp2
      go_roundw
      case rel => exact ⟨k + 1, by omega, by go_num, by rw [ST.out]; exact HI3.out⟩
      case measure => simp [intOf]; omega
    · have hall : zs.take k = zs := List.take_of_length_le (by rw [HX.out.1]; omega)
      rw [hall] at HI
      clear hll hall
      obtain ⟨g, cap, hc, hconv⟩ := HI.out.read (hexZ_byte zs HX.out.2.1)
      have hbel := HI.out.below
      go_wp2
      go_ret
      exact ⟨rfl, hbel⟩
end Go.Proofs.YtgmefdmeeihgoaaGreatDoor
namespace Go.Proofs.YtgmefdmeeihgoaaGreatDoor
open Go.RowKit
theorem strOfNums_append (xs ys : List Int) : strOfNums (xs ++ ys) = strOfNums xs ++ strOfNums ys := by
  unfold strOfNums
  rw [List.map_append, ByteArray.mk_append_mk]
theorem digit_cut (v : Int) (h0 : 0 ≤ v) (h1 : v ≤ 15) (W : World) :
    (Instr.slice 9 (.string ⟨#[48, 49, 50, 51, 52, 53, 54, 55, 56, 57, 97, 98, 99, 100, 101, 102]⟩) (some (.int .u8 v)) (some (.int .u8 (v + 1))) none).run Tryz.prog W = .ok (.string (strOfNums [hd v])) W := by
  obtain ⟨k, rfl⟩ := Int.eq_ofNat_of_zero_le h0
  have hk : k ≤ 15 := by omega
  clear h0 h1
  rcases k with _ | _ | _ | _ | _ | _ | _ | _ | _ | _ | _ | _ | _ | _ | _ | _ | k
  all_goals first | (exfalso; omega) | (rw [run_slice_string W 9 _ .u8 .u8 _ _ Tryz.underlying9 (by decide) (by decide) (by decide)]; rfl)
set_option maxHeartbeats 400000 in
theorem digit_any (v : Int) (w : World) (h0 : 0 ≤ v) (h1 : v ≤ 15) : Calls Tryz.prog 87 #[.int .u8 v] w fun e w' => e = .returned (.string (strOfNums [hd v])) ∧ w' = w := by
  have hc := digit_cut v h0 h1
  go_enter Tryz.func87, Tryz.ntmps87
  go_wp2
  go_ret
  exact ⟨rfl, rfl⟩
theorem hex_str {zs : List Int} {k : Nat} (h : k < zs.length) {x : Int} (hx : x = zs[k]?.getD 0) :
    strOfNums (hexZ (zs.take k)) ++ strOfNums [hd (x / 16)] ++ strOfNums [hd (x % 16)] = strOfNums (hexZ (zs.take (k + 1))) := by
  rw [hexZ_take h, hx, strOfNums_append, strOfNums_append]
set_option maxHeartbeats 400000 in
theorem rhex_any (a : Option Addr) (n ca : Nat) (zs : List Int) (w : World) (hx : Row w a n zs) (hn : n ≤ 10000) :
    Calls Tryz.prog 51 #[.slice a n ca] w fun e w' => e = .returned (.string (strOfNums (hexZ zs))) ∧ ∃ q, w' = w.drewN q := by
  have HX := Lib.hid hx
  clear hx
  go_enter Tryz.func51, Tryz.ntmps51
  go_wp2
  go_loopw [3, 4] (fun t i wr => ∃ k q : Nat, k ≤ n ∧ i = .int .i64 k ∧ t = .string (strOfNums (hexZ (zs.take k))) ∧ wr = w.drewN q) (fun _ i _ => n - (intOf i).toNat)
  case atStart => exact ⟨0, 0, Nat.zero_le _, rfl, rfl, rfl⟩
  case round =>
    obtain ⟨k, q, hk, rfl, rfl, rfl⟩ := hrel
    by_cases hlt : k < n
    · obtain ⟨b1, o1, rfl, hb1, hc1⟩ := HX.out.2.2 (by omega)
      have c1 := hc1 k hlt
      clear hc1
      have bx := HX.out.byte k
      have ST := Lib.hid (hex_str (zs := zs) (k := k) (by rw [HX.out.1]; exact hlt) rfl)
      have hl : (strOfNums (hexZ (zs.take k))).size ≤ 20000 := by rw [strOfNums_size, hexZ_length, List.length_take]; omega
      generalize zs[k]?.getD 0 = x at c1 bx ST
      generalize strOfNums (hexZ (zs.take k)) = S at hl ST ⊢
      have z1 : (strOfNums [hd (x / 16)]).size = 1 := by rw [strOfNums_size]; rfl
      have z2 : (strOfNums [hd (x % 16)]).size = 1 := by rw [strOfNums_size]; rfl
      go_wp2
      go_quiet ((go_at_call 87; exact calm_call (fun W => digit_any _ W (by omega) (by omega))))
      go_wp2
      go_roundw
      case rel => exact ⟨k + 1, _, by omega, by go_num, by rw [← ST.out], rfl⟩
      case measure => simp [intOf]; omega
    · have hall : zs.take k = zs := List.take_of_length_le (by rw [HX.out.1]; omega)
      rw [hall]
      clear hall
      go_wp2
      go_ret
      exact ⟨rfl, _, rfl⟩
end Go.Proofs.YtgmefdmeeihgoaaGreatDoor
namespace Go.Proofs.YtgmefdmeeihgoaaGreatDoor
open Go.RowKit
set_option linter.unusedVariables false
theorem hash_row {w : World} {S : Nat} {hz : List Int} (h : Blk w S 72 (bcells hz)) (hl : hz.length = 32) (hb : ∀ x ∈ hz, 0 ≤ x ∧ x ≤ 255) : Row w (some ⟨S, 0, none⟩) 32 hz :=
  ⟨hl, hb, fun _ => ⟨S, 0, rfl, h.lt, fun i hi => by rw [Nat.zero_add]; exact (h.cell i).trans (bcells_get hz i hi)⟩⟩
def GivesStr (zs : List Int) (w : World) (e : Ending) (w' : World) : Prop := e = .returned (.string (strOfNums zs)) ∧ Below w.heap.size w w'
set_option maxHeartbeats 500000 in
set_option maxRecDepth 100000 in
theorem name_any (a : Option Addr) (n ca : Nat) (zs : List Int) (w : World) (hr : Row w a n zs) (hca : n ≤ ca) (hn : n ≤ 100000) (ht : Tab w) :
    Calls Tryz.prog 26 #[.slice a n ca] w (GivesStr (hexZ ((hashZ zs).take 20)) w) := by
  have CO := Lib.hid (hof_any a n ca zs w hr hca hn ht)
  have HL := hash_len zs
  have HB := Lib.hid (hash_byte zs)
  clear hr ht
  generalize hashZ zs = hz at *
  have L32 : hz.length ≤ 32 := by omega
  go_enter Tryz.func26, Tryz.ntmps26
  go_wp2_with fail
  refine CO.out.mono ?_
  rintro e w1 ⟨rfl, hb1⟩
  have S1 := Lib.hid (Blk.new w1 72 Z32)
  have B1 := Lib.hid (below_setRow (hb1.alloc hb1.size (.cells Z32 72)) hb1.size (bcells hz))
  have K1 : Hid (Blk ((w1.alloc (.cells Z32 72)).setRow w1.heap.size (bcells hz)) w1.heap.size 72 (bcells hz)) := Lib.hid (setRow_heap _ _ _ _ _ _ S1.out)
  clear hb1 CO
  go_wp2_with (first
    | (refine Great.wpList_allocTo rfl (some 3) rfl (.pointer (some ⟨w1.heap.size, 0, none⟩)) (.cells Z32 72) rfl ?_)
    | (refine wpList_store_rowTo rfl 72 (.tmp 3) (.tmp 5) rfl rfl w1.heap.size (bcells hz) rfl rfl 72 Z32 S1.out (Tryz.size24 hz L32) (by rw [bcells_size hz L32]; rfl) (bcells_one hz) ?_))
  generalize (w1.alloc (.cells Z32 72)).setRow w1.heap.size (bcells hz) = w2 at *
  refine (hex_any (some ⟨w1.heap.size, 0, none⟩) 20 32 (hz.take 20) w2 ((hash_row K1.out HL HB.out).first 20 (by omega)) (by omega)).mono ?_
  rintro e w3 ⟨rfl, hb3⟩
  have B3 := Lib.hid (Below.step B1.out hb3)
  clear hb3
  go_wp2_with fail
  go_ret
  exact ⟨rfl, B3.out⟩
set_option maxHeartbeats 500000 in
set_option maxRecDepth 100000 in
theorem rname_any (a : Option Addr) (n ca : Nat) (zs : List Int) (w : World) (hr : Row w a n zs) (hn : n ≤ 100000) (hnil : a = none → ca = 0) :
    Calls Tryz.prog 27 #[.slice a n ca] w (GivesStr (hexZ ((hashZ zs).take 20)) w) := by
  have CO := Lib.hid (rhof_any a n ca zs w hr hn hnil)
  have HL := hash_len zs
  have HB := Lib.hid (hash_byte zs)
  clear hr hnil
  generalize hashZ zs = hz at *
  have L32 : hz.length ≤ 32 := by omega
  go_enter Tryz.func27, Tryz.ntmps27
  go_wp2_with fail
  refine CO.out.mono ?_
  rintro e w1 ⟨rfl, hb1⟩
  have S1 := Lib.hid (Blk.new w1 72 Z32)
  have B1 := Lib.hid (below_setRow (hb1.alloc hb1.size (.cells Z32 72)) hb1.size (bcells hz))
  have K1 : Hid (Blk ((w1.alloc (.cells Z32 72)).setRow w1.heap.size (bcells hz)) w1.heap.size 72 (bcells hz)) := Lib.hid (setRow_heap _ _ _ _ _ _ S1.out)
  clear hb1 CO
  go_wp2_with (first
    | (refine Great.wpList_allocTo rfl (some 3) rfl (.pointer (some ⟨w1.heap.size, 0, none⟩)) (.cells Z32 72) rfl ?_)
    | (refine wpList_store_rowTo rfl 72 (.tmp 3) (.tmp 5) rfl rfl w1.heap.size (bcells hz) rfl rfl 72 Z32 S1.out (Tryz.size24 hz L32) (by rw [bcells_size hz L32]; rfl) (bcells_one hz) ?_))
  generalize (w1.alloc (.cells Z32 72)).setRow w1.heap.size (bcells hz) = w2 at *
  refine (rhex_any (some ⟨w1.heap.size, 0, none⟩) 20 32 (hz.take 20) w2 ((hash_row K1.out HL HB.out).first 20 (by omega)) (by omega)).mono ?_
  rintro e w3 ⟨rfl, q, hw3⟩
  have B3 : Hid (Below w.heap.size w w3) := by rw [hw3]; exact Lib.hid (Below.step B1.out (drewN_below _ _))
  clear hw3
  go_wp2_with fail
  go_ret
  exact ⟨rfl, B3.out⟩
end Go.Proofs.YtgmefdmeeihgoaaGreatDoor
namespace Go.Proofs.YtgmefdmeeihgoaaGreatDoor
open Go.RowKit
set_option linter.unusedVariables false
set_option linter.unusedSimpArgs false
theorem KeyAt.drew {w : World} {a : Option Addr} {n c : Nat} {e : Int} {ns : List Int} (h : KeyAt w a n c e ns) : KeyAt w.drew a n c e ns := h.below (w := w) (w' := w.drew) (Below.refl _ _).drew
set_option maxHeartbeats 2000000 in
theorem inner_any (a : Option Addr) (n c : Nat) (e : Int) (ns : List Int) (w : World) (hk : KeyAt w a n c e ns) (hn : n ≤ 100000) : Calls Tryz.prog 18 #[.agg #[.slice a n c, .int .u32 e]] w (GivesWr (innerZ ns e) w) := by
  have b1 : Below w.heap.size w (w.alloc (.cells #[.slice a n c, .int .u32 e] 25)) := (Below.refl _ _).alloc (Nat.le_refl _) _
  have X1 := Lib.hid (key_box w a n c e)
  have K1 := Lib.hid (hk.below b1)
  have he0 := hk.2.2.2.1
  have he1 := hk.2.2.2.2
  have hln := hk.1.1
  have CR := Lib.hid (kright_any a n c e ns _ K1.out (by omega))
  have B1 := Lib.hid b1
  have c0 := X1.out.cell 0
  have c1 := X1.out.cell 1
  simp only [List.getElem?_toArray, List.getElem?_cons_succ, List.getElem?_cons_zero] at c0 c1
  clear b1 hk
  go_enter Tryz.func18, Tryz.ntmps18
  generalize hw1 : w.alloc (.cells #[.slice a n c, .int .u32 e] 25) = w1 at *
  go_wp2_with fail
  refine CR.out.mono ?_
  rintro e1 w2 ⟨rfl, hb2⟩
  have X2 := Lib.hid (X1.out.below hb2 X1.out.lt)
  have K2 := Lib.hid (K1.out.below hb2)
  have B2 := Lib.hid (B1.out.trans (hb2.mono B1.out.size))
  clear CR X1 K1 B1 hb2 hw1 c0 c1
  cases hrt : rightZ ns e
  · have F : Hid (innerZ ns e = ([], 1)) := by unfold innerZ; rw [hrt]; exact Lib.hid rfl
    clear hrt
    go_wp2_with fail
    go_ret2
    exact gives_none' F.out B2.out
  have hl := (right_len hrt).2
  have F : Hid (innerZ ns e = writeZ (innerT ns e)) := by
    unfold innerZ
    rw [if_pos hrt, inner_writes e (by omega)]
    exact Lib.hid rfl
  have hwi := wt_inner ns e
  clear hrt
  have hwr : IntKind.u64.wrap e = e := by rw [IntKind.wrap_u64]; omega
  go_wp2_with fail
  have l0 : ∀ W, Ext w2.drew W → W.cell? ⟨w.heap.size, 0, none⟩ = some (.slice a n c) := cell_later (X2.out.cell 0)
  have l1 : ∀ W, Ext w2.drew W → W.cell? ⟨w.heap.size, 1, none⟩ = some (.int .u32 e) := cell_later (X2.out.cell 1)
  refine wp_region_ord Ext Ext.refl (fun _ _ _ => Ext.trans) ((0, false) :: (1, false) :: (3, false) :: (4, false) :: (5, false) :: (2, true) :: (6, true) :: (7, true) :: (8, true) :: (9, true) :: (10, false) :: (11, false) :: (12, false) :: (13, false) :: []) (by kernel_rfl) (by kernel_rfl) rfl (by kernel_rfl) (fun _ _ _ _ _ h => h) ?_
  repeat (refine ord_take _ rfl (by rfl) (fun W hW => by go_simp; first | done | rfl) ?_; simp only [Act.put, List.setIfInBounds_toArray, List.set_cons_zero, List.set_cons_succ])
  clear l0 l1 X2
  have B3 : Hid (Below w.heap.size w w2.drew) := B2.out.drew
  have K3 := Lib.hid K2.out.drew
  clear B2 K2
  generalize w2.drew = w3 at *
  refine ord_sole rfl (by rfl) (fun K1 hK1 => ?_)
  go_simp
  refine (big_any a n c ns w3 K3.out.1 K3.out.2.1 (by omega) K3.out.2.2.1).mono ?_
  rintro e1 w4 ⟨A4, n4, c4, K4, m4, d4, rfl, hin4, hb4⟩
  refine hK1 _ _ hb4 ?_
  have B4 := Lib.hid (B3.out.trans (hb4.mono B3.out.size))
  have I4 := Lib.hid (T.InP.below (Q := Any) (w := w4) (Below.refl _ _) (fun _ _ => trivial) _ hin4)
  clear hK1 K1 B3 K3 hin4 hb4
  refine ord_sole rfl (by rfl) (fun K1 hK1 => ?_)
  go_simp
  refine (int_any e w4 he0 (by omega)).mono ?_
  rintro e1 w5 ⟨A5, n5, c5, K5, m5, d5, rfl, hin5, hb5⟩
  refine hK1 _ _ hb5 ?_
  clear hK1 K1
  have A6 : Below w5.heap.size w5 (w5.alloc (.cells #[.int .i64 (bigT ns).tag, .slice A4 n4 c4, .slice K4 m4 d4, .int .i64 (intT e).tag, .slice A5 n5 c5, .slice K5 m5 d5] 28)) := (Below.refl _ _).alloc (Nat.le_refl _) _
  have E6 := hb5.trans (A6.mono hb5.size)
  have B6 := Lib.hid (B4.out.trans (E6.mono B4.out.size))
  have K6 := Lib.hid (kids_two (P := Any) (Blk.new w5 28 #[.int .i64 (bigT ns).tag, .slice A4 n4 c4, .slice K4 m4 d4, .int .i64 (intT e).tag, .slice A5 n5 c5, .slice K5 m5 d5]) trivial (T.InP.below E6 (fun _ h => h) _ I4.out) (T.InP.below A6 (Q := Any) (fun _ _ => trivial) _ hin5))
  clear hb5 hin5 B4 I4 E6
  refine ord_sole rfl (by rfl) (fun K1 hK1 => ?_)
  go_simp
  refine hK1 _ _ A6 ?_
  clear hK1 K1 A6
  generalize w5.alloc (.cells #[.int .i64 (bigT ns).tag, .slice A4 n4 c4, .slice K4 m4 d4, .int .i64 (intT e).tag, .slice A5 n5 c5, .slice K5 m5 d5] 28) = w6 at *
  generalize w5.heap.size = g9 at *
  refine ord_sole rfl (by rfl) (fun K1 hK1 => ?_)
  go_simp
  refine (sequence_any _ 2 2 w6).mono ?_
  rintro e1 w7 ⟨rfl, hb7⟩
  refine hK1 _ _ hb7 ?_
  have CW := Lib.hid (twrite_big (innerT ns e) _ w7 (T.InP.in _ ((K6.out.below hb7 (fun _ h => h)).node (z := 48) (by decide))) (by omega))
  have B7 := Lib.hid (B6.out.trans (hb7.mono B6.out.size))
  clear hK1 K1 B6 K6 hb7
  refine ord_sole rfl (by rfl) (fun K1 hK1 => ?_)
  go_simp
  refine CW.out.mono ?_
  rintro e1 w8 ⟨a8, c8, rfl, hr8, hn8, hb8, hc8⟩
  refine hK1 _ _ hb8 ?_
  have B8 := Lib.hid (B7.out.trans (hb8.mono B7.out.size))
  have R8 := Lib.hid hr8
  have N8 := Lib.hid hn8
  clear hK1 K1 CW B7 hb8 hr8 hn8
  repeat (refine ord_take _ rfl (by rfl) (fun W hW => by go_simp; first | done | rfl) ?_; simp only [Act.put, List.setIfInBounds_toArray, List.set_cons_zero, List.set_cons_succ])
  refine ord_end ?_
  go_wp2_with fail
  go_ret2
  rw [F.out]
  exact ⟨a8, c8, rfl, R8.out, N8.out, B8.out, hc8⟩
theorem gives_boxedE {w W : World} {tmps : Array Value} {fn : Func} {p u : Tmp} {g : Nat} {x y : T × Int} {v0 v1 v2 : Value} {A : Option Addr} {n c : Nat} {K : Option Addr} {m d : Nat} (hxy : y = x) (hf : fn.results = #[.cell p 28, .tmp u]) (hp : tmps.getD p undef = .pointer (some ⟨g, 0, none⟩)) (hu : tmps.getD u undef = .int .i64 x.2) (hblk : Blk W g 28 #[v0, v1, v2]) (hg : w.heap.size ≤ g) (hb : Below w.heap.size w W) (hin : x.1.InP (fun b => w.heap.size ≤ b ∧ b ≠ g) W (.agg #[.int .i64 x.1.tag, .slice A n c, .slice K m d])) :
    bodyPost Tryz.prog fn (GivesNodeE y w) .ret { tmps := tmps, defers := [] } (((W.setCell ⟨g, 0, none⟩ (.int .i64 x.1.tag)).setCell ⟨g, 1, none⟩ (.slice A n c)).setCell ⟨g, 2, none⟩ (.slice K m d)) := by
  subst hxy
  have h1 := ((hblk.set 0 (.int .i64 y.1.tag)).set 1 (.slice A n c)).set 2 (.slice K m d)
  have h2 := hb.trans (three_past (B := w.heap.size) W hg (.int .i64 y.1.tag) (.slice A n c) (.slice K m d))
  have h := results_nodee (P := Tryz.prog) hf tmps _ g 28 _ (0, 0) _ hp h1 Tryz.underlying28 rfl Tryz.sizeNode3
  rw [hu] at h
  have G := three_grow g W (.int .i64 y.1.tag) (.slice A n c) (.slice K m d)
  exact bodyPost_ret h rfl ⟨A, n, c, K, m, d, rfl, T.InP.below (w := _) (Below.refl _ _) (fun b (hb : w.heap.size ≤ b ∧ b ≠ g) => hb.1) _ (hin.grownP (fun b hb => hb.2) G), h2⟩
set_option maxHeartbeats 1000000 in
theorem node_any (a : Option Addr) (n c : Nat) (e : Int) (ns : List Int) (w : World) (hk : KeyAt w a n c e ns) (hn : n ≤ 100000) : Calls Tryz.prog 7 #[.agg #[.slice a n c, .int .u32 e]] w (GivesNodeE (nodeK ns e) w) := by
  have b1 : Below w.heap.size w (w.alloc (.cells #[.slice a n c, .int .u32 e] 25)) := (Below.refl _ _).alloc (Nat.le_refl _) _
  have X1 := (key_box w a n c e).alloc (.cells #[.int .i64 0, .slice none 0 0, .slice none 0 0] 28)
  have b2 := b1.alloc b1.size (.cells #[.int .i64 0, .slice none 0 0, .slice none 0 0] 28)
  have S2 := Blk.new (w.alloc (.cells #[.slice a n c, .int .u32 e] 25)) 28 #[.int .i64 0, .slice none 0 0, .slice none 0 0]
  rw [show (w.alloc (.cells #[.slice a n c, .int .u32 e] 25)).heap.size = w.heap.size + 1 by simp] at S2
  have CI := Lib.hid (inner_any a n c e ns _ (hk.below b2) hn)
  have hln := hk.1.1
  have B2 := Lib.hid b2
  have HS := Lib.hid S2
  have c0 := X1.cell 0
  have c1 := X1.cell 1
  simp only [List.getElem?_toArray, List.getElem?_cons_succ, List.getElem?_cons_zero] at c0 c1
  clear b1 b2 hk X1 S2
  go_enter Tryz.func7, Tryz.ntmps7
  go_wp2_with fail
  generalize hw2 : (w.alloc (.cells #[.slice a n c, .int .u32 e] 25)).alloc (.cells #[.int .i64 0, .slice none 0 0, .slice none 0 0] 28) = w2 at *
  refine CI.out.mono ?_
  rintro e1 w3 ⟨a3, c3, rfl, hr3, hn3, hb3, hc3⟩
  have S3 := Lib.hid (HS.out.below hb3 HS.out.lt)
  have B3 := Lib.hid (B2.out.trans (hb3.mono B2.out.size))
  obtain ⟨p0, p1, p2, f0, f1, f2⟩ := S3.out.facts
  have hs3 : Hid (w.heap.size + 1 < w3.heap.size) := S3.out.lt
  clear CI HS B2 hb3 hw2 c0 c1
  cases hrt : rightZ ns e
  · have F : Hid (nodeK ns e = (zeroT, 1)) := by unfold nodeK; rw [hrt]; exact Lib.hid rfl
    have G : innerZ ns e = ([], 1) := by unfold innerZ; rw [hrt]; rfl
    rw [G]
    clear hrt G hr3 hn3
    go_wp2_with fail
    have ZI : zeroT.InP (fun b => w.heap.size ≤ b ∧ b ≠ w.heap.size + 1) w3 (.agg #[.int .i64 0, .slice none 0 0, .slice none 0 0]) := leaf_inP (zs := []) rfl (Row.nil _ _) (by simp) ⟨fun _ => rfl, Nat.le_refl _⟩ (fun h => absurd h (by simp))
    exact gives_boxedE (x := (zeroT, 1)) (A := none) (n := 0) (c := 0) (K := none) (m := 0) (d := 0) F.out rfl rfl rfl S3.out (Nat.le_succ _) B3.out ZI
  have hl := (right_len hrt).2
  have F : Hid (nodeK ns e = (keyT ns e, 0)) := by unfold nodeK; rw [hrt]; exact Lib.hid rfl
  have G : innerZ ns e = (ownZ ns e, 0) := by unfold innerZ; rw [hrt]; rfl
  have ho := own_len (ns := ns) e (by omega)
  rw [G] at hr3 hc3 ⊢
  have R3 := Lib.hid hr3
  have N3 := Lib.hid hn3
  clear hrt G hr3 hn3 p0 p1 p2 f0 f1 f2
  have OZ : Hid (keyT ns e = .node 48 [] [algT 1, bitsT (ownZ ns e)]) := rfl
  generalize ownZ ns e = os at *
  go_wp2_with fail
  refine (algorithm_any 1 (by omega) (by omega) w3).mono ?_
  rintro e1 w4 ⟨A4, n4, c4, K4, m4, d4, rfl, hin4, hb4⟩
  have S4 := Lib.hid (S3.out.below hb4 S3.out.lt)
  have B4 := Lib.hid (B3.out.trans (hb4.mono B3.out.size))
  have R4 := Lib.hid (R3.out.below hb4)
  have I4 := Lib.hid (T.InP.below (Q := fun b => w.heap.size ≤ b ∧ b ≠ w.heap.size + 1) (w := w4) (Below.refl _ _) (fun b (hb : w3.heap.size ≤ b) => (by have := hs3.out; omega)) _ hin4)
  have hs4 : Hid (w.heap.size + 1 < w4.heap.size) := S4.out.lt
  clear S3 B3 R3 hin4 hb4 hs3
  go_wp2_with fail
  refine (allBits_any a3 os.length c3 os w4 R4.out (by omega) N3.out).mono ?_
  rintro e1 w5 ⟨A5, n5, c5, K5, m5, d5, rfl, hin5, hb5⟩
  have A6 : Below w5.heap.size w5 (w5.alloc (.cells #[.int .i64 (algT 1).tag, .slice A4 n4 c4, .slice K4 m4 d4, .int .i64 (bitsT os).tag, .slice A5 n5 c5, .slice K5 m5 d5] 28)) := (Below.refl _ _).alloc (Nat.le_refl _) _
  have E6 := hb5.trans (A6.mono hb5.size)
  have hs5 := Nat.lt_of_lt_of_le hs4.out hb5.size
  have S6 := Lib.hid (S4.out.below E6 S4.out.lt)
  have B6 := Lib.hid (B4.out.trans (E6.mono B4.out.size))
  have K6 := Lib.hid (kids_two (P := fun b => w.heap.size ≤ b ∧ b ≠ w.heap.size + 1) (Blk.new w5 28 #[.int .i64 (algT 1).tag, .slice A4 n4 c4, .slice K4 m4 d4, .int .i64 (bitsT os).tag, .slice A5 n5 c5, .slice K5 m5 d5]) ⟨by omega, by omega⟩ (T.InP.below E6 (fun _ h => h) _ I4.out) (T.InP.below A6 (Q := fun b => w.heap.size ≤ b ∧ b ≠ w.heap.size + 1) (fun b (hb : w4.heap.size ≤ b) => (by have := hs4.out; omega)) _ hin5))
  clear hb5 hin5 B4 I4 E6 S4 R4 A6 hs4 hs5
  go_wp2_with fail
  generalize w5.alloc (.cells #[.int .i64 (algT 1).tag, .slice A4 n4 c4, .slice K4 m4 d4, .int .i64 (bitsT os).tag, .slice A5 n5 c5, .slice K5 m5 d5] 28) = w6 at *
  generalize w5.heap.size = g9 at *
  refine (sequence_any _ 2 2 w6).mono ?_
  rintro e1 w7 ⟨rfl, hb7⟩
  have S7 := Lib.hid (S6.out.below hb7 S6.out.lt)
  have B7 := Lib.hid (B6.out.trans (hb7.mono B6.out.size))
  have K7 := Lib.hid (K6.out.below hb7 (fun _ h => h))
  obtain ⟨p0, p1, p2, f0, f1, f2⟩ := S7.out.facts
  clear S6 B6 K6 hb7
  go_wp2_with fail
  rw [F.out]
  exact gives_boxedE (x := (keyT ns e, 0)) rfl rfl rfl rfl S7.out (Nat.le_succ _) B7.out (by rw [OZ.out]; exact K7.out.node (by decide))
def nameK (ns : List Int) (e : Int) : List Int × Int := if rightZ ns e = true then (hexZ ((hashZ (ownZ ns e)).take 20), 0) else ([], 1)
set_option maxHeartbeats 1000000 in
theorem kname_any (a : Option Addr) (n c : Nat) (e : Int) (ns : List Int) (w : World) (hk : KeyAt w a n c e ns) (hn : n ≤ 100000) (ht : Tab w) : Calls Tryz.prog 10 #[.agg #[.slice a n c, .int .u32 e]] w fun r w' => r = .returned (.tuple #[.string (strOfNums (nameK ns e).1), .int .i64 (nameK ns e).2]) ∧ Below w.heap.size w w' := by
  have b1 : Below w.heap.size w (w.alloc (.cells #[.slice a n c, .int .u32 e] 25)) := (Below.refl _ _).alloc (Nat.le_refl _) _
  have X1 := key_box w a n c e
  have CI := Lib.hid (inner_any a n c e ns _ (hk.below b1) hn)
  have T1 := Lib.hid (ht.below b1)
  have B1 := Lib.hid b1
  have c0 := X1.cell 0
  have c1 := X1.cell 1
  simp only [List.getElem?_toArray, List.getElem?_cons_succ, List.getElem?_cons_zero] at c0 c1
  clear b1 hk X1 ht
  go_enter Tryz.func10, Tryz.ntmps10
  generalize hw1 : w.alloc (.cells #[.slice a n c, .int .u32 e] 25) = w1 at *
  go_wp2_with fail
  refine CI.out.mono ?_
  rintro e1 w3 ⟨a3, c3, rfl, hr3, hn3, hb3, hc3⟩
  have B3 := Lib.hid (B1.out.trans (hb3.mono B1.out.size))
  have T3 := Lib.hid (T1.out.below hb3)
  clear CI B1 T1 hb3 hw1 c0 c1
  cases hrt : rightZ ns e
  · have F : Hid (nameK ns e = ([], 1)) := by unfold nameK; rw [hrt]; exact Lib.hid rfl
    have G : innerZ ns e = ([], 1) := by unfold innerZ; rw [hrt]; rfl
    rw [G]
    clear hrt G hr3 hn3
    go_wp2_with fail
    go_ret2
    rw [F.out]
    exact ⟨rfl, B3.out⟩
  have hl := (right_len hrt).2
  have F : Hid (nameK ns e = (hexZ ((hashZ (ownZ ns e)).take 20), 0)) := by unfold nameK; rw [hrt]; exact Lib.hid rfl
  have G : innerZ ns e = (ownZ ns e, 0) := by unfold innerZ; rw [hrt]; rfl
  have ho := own_len (ns := ns) e (by omega)
  rw [G] at hr3 hc3 ⊢
  have R3 := Lib.hid hr3
  clear hrt G hr3 hn3
  generalize ownZ ns e = os at *
  go_wp2_with fail
  refine (name_any a3 os.length c3 os w3 R3.out hc3 (by omega) T3.out).mono ?_
  rintro e1 w4 ⟨rfl, hb4⟩
  have B4 := Lib.hid (B3.out.trans (hb4.mono B3.out.size))
  clear B3 hb4
  go_wp2_with fail
  go_ret2
  rw [F.out]
  exact ⟨rfl, B4.out⟩
end Go.Proofs.YtgmefdmeeihgoaaGreatDoor
namespace Go.Proofs.YtgmefdmeeihgoaaGreatDoor
open Go.RowKit
set_option linter.unusedVariables false
set_option linter.unusedSimpArgs false
set_option maxHeartbeats 400000 in
theorem must_u64 (x : Int) (w : World) : Calls Tryz.prog 58 #[.int .u64 x, .int .i64 0] w fun e w' => e = .returned (.int .u64 x) ∧ w' = w := by
  go_enter Tryz.func58, Tryz.ntmps58
  go_wp2_with fail
  refine (demand_yes _).mono ?_
  rintro e w2 ⟨rfl, rfl⟩
  go_wp2_with fail
  go_ret
  exact ⟨rfl, rfl⟩
set_option maxHeartbeats 400000 in
theorem must_u64_no (x z : Int) (h : ¬ z = 0) (w : World) : Calls Tryz.prog 58 #[.int .u64 x, .int .i64 z] w fun e w' => e = .panicked (errP 2) ∧ w' = w := by
  have F : Hid ((z == 0) = false) := by simpa [Hid] using h
  clear h
  go_enter Tryz.func58, Tryz.ntmps58
  go_wp2_with fail
  rw [F.out]
  refine (demand_no _).mono ?_
  rintro e w2 ⟨rfl, rfl⟩
  exact ⟨rfl, rfl, rfl⟩
set_option maxHeartbeats 1000000 in
theorem must_node_no (z0 z : Int) (A : Option Addr) (n c : Nat) (K : Option Addr) (m d : Nat) (h : ¬ z = 0) (w : World) : Calls Tryz.prog 54 #[.agg #[.int .i64 z0, .slice A n c, .slice K m d], .int .i64 z] w fun e w' => e = .panicked (errP 2) ∧ Below w.heap.size w w' := by
  have F : Hid ((z == 0) = false) := by simpa [Hid] using h
  have B := Lib.hid (((Below.refl w.heap.size w).alloc (Nat.le_refl _) (.cells #[.int .i64 z0, .slice A n c, .slice K m d] 28)).alloc (by simp) (.cells #[.int .i64 0, .slice none 0 0, .slice none 0 0] 28))
  clear h
  go_enter Tryz.func54, Tryz.ntmps54
  go_wp2_with fail
  rw [F.out]
  refine (demand_no _).mono ?_
  rintro e w2 ⟨rfl, rfl⟩
  exact ⟨rfl, rfl, B.out⟩
set_option maxHeartbeats 1000000 in
theorem must_node (z0 : Int) (A : Option Addr) (n c : Nat) (K : Option Addr) (m d : Nat) (w : World) : Calls Tryz.prog 54 #[.agg #[.int .i64 z0, .slice A n c, .slice K m d], .int .i64 0] w fun e w' => e = .returned (.agg #[.int .i64 z0, .slice A n c, .slice K m d]) ∧ Below w.heap.size w w' := by
  have b1 := (Below.refl w.heap.size w).alloc (Nat.le_refl _) (.cells #[.int .i64 z0, .slice A n c, .slice K m d] 28)
  have b2 := b1.alloc b1.size (.cells #[.int .i64 0, .slice none 0 0, .slice none 0 0] 28)
  have X1 := (Blk.new w 28 #[.int .i64 z0, .slice A n c, .slice K m d]).alloc (.cells #[.int .i64 0, .slice none 0 0, .slice none 0 0] 28)
  have S1 := Blk.new (w.alloc (.cells #[.int .i64 z0, .slice A n c, .slice K m d] 28)) 28 #[.int .i64 0, .slice none 0 0, .slice none 0 0]
  rw [show (w.alloc (.cells #[.int .i64 z0, .slice A n c, .slice K m d] 28)).heap.size = w.heap.size + 1 by simp] at S1
  obtain ⟨x0, x1, x2, _, _, _⟩ := X1.facts
  obtain ⟨p0, p1, p2, f0, f1, f2⟩ := S1.facts
  have B := Lib.hid b2
  have HS := Lib.hid S1
  clear b1 b2 X1 S1
  go_enter Tryz.func54, Tryz.ntmps54
  generalize hw2 : (w.alloc (.cells #[.int .i64 z0, .slice A n c, .slice K m d] 28)).alloc (.cells #[.int .i64 0, .slice none 0 0, .slice none 0 0] 28) = w2 at *
  go_wp2_with fail
  refine (demand_yes _).mono ?_
  rintro e w3 ⟨rfl, rfl⟩
  go_wp2_with fail
  have C := ((HS.out.set 0 (.int .i64 z0)).set 1 (.slice A n c)).set 2 (.slice K m d)
  exact bodyPost_ret (results_cell_row rfl _ _ (w.heap.size + 1) 28 _ (0, 0) _ rfl C Tryz.underlying28 rfl Tryz.sizeNode3) rfl ⟨rfl, B.out.trans (three_past (B := w.heap.size) _ (Nat.le_succ _) _ _ _)⟩
end Go.Proofs.YtgmefdmeeihgoaaGreatDoor
