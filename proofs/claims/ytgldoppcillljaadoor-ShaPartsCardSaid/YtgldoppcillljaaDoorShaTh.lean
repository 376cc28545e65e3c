/-
  What the reference's through answers, for stage 6 (sha).
-/
import Derived.Test.YtgldoppcillljaaDoorShaE
import Derived.Test.YtgldoppcillljaaDoorShaX
import Derived.Test.YtgldoppcillljaaDoorShaB
import Derived.Test.YtgldoppcillljaaDoorNum
namespace Go.Proofs.YtgldoppcillljaaDoor
open Go.RowKit
set_option linter.unusedVariables false

theorem num4 (a b c d : Int) (ha : 0 ≤ a ∧ a ≤ 255) (hb : 0 ≤ b ∧ b ≤ 255) (hc : 0 ≤ c ∧ c ≤ 255) (hd : 0 ≤ d ∧ d ≤ 255) : numZ 0 [a, b, c, d] = (((a * 256 + b) * 256 + c) * 256 + d, true) := by
  have B : B56 = 72057594037927936 := rfl
  rw [numZ, if_neg (by omega), numZ, if_neg (by omega), numZ, if_neg (by omega), numZ, if_neg (by omega), numZ]
  rw [show (0 : Int) * 256 + a = a by omega]
theorem four_of {zs : List Int} {i : Nat} (h : i + 4 ≤ zs.length) : (zs.drop i).take 4 = [zs[i]?.getD 0, zs[i + 1]?.getD 0, zs[i + 2]?.getD 0, zs[i + 3]?.getD 0] := by
  apply List.ext_getElem?
  intro j
  rw [List.getElem?_take]
  rcases j with _ | _ | _ | _ | j
  · simp [List.getElem?_eq_getElem (show i < zs.length by omega)]
  · simp [List.getElem?_eq_getElem (show i + 1 < zs.length by omega)]
  · simp [List.getElem?_eq_getElem (show i + 2 < zs.length by omega)]
  · simp [List.getElem?_eq_getElem (show i + 3 < zs.length by omega)]
  · simp
    omega
theorem num_word {zs : List Int} (h : ∀ x ∈ zs, 0 ≤ x ∧ x ≤ 255) (i : Nat) (hi : i + 4 ≤ zs.length) : numZ 0 ((zs.drop i).take 4) = (wordZ zs i, true) := by
  have g : ∀ k : Nat, 0 ≤ zs[k]?.getD 0 ∧ zs[k]?.getD 0 ≤ 255 := by
    intro k
    rcases Nat.lt_or_ge k zs.length with hk | hk
    · rw [List.getElem?_eq_getElem hk]
      exact h _ (List.getElem_mem hk)
    · rw [List.getElem?_eq_none hk]
      simp
  rw [four_of hi, num4 _ _ _ _ (g _) (g _) (g _) (g _)]
  rfl
theorem words_all {b : List Int} (h : ∀ x ∈ b, 0 ≤ x ∧ x ≤ 255) (k i : Nat) : W32 ((wordsZ8 b k)[i]?.getD 0) := by
  generalize hl : wordsZ8 b k = l
  have hr := words_range h k
  rw [hl] at hr
  rcases Nat.lt_or_ge i l.length with h | h
  · rw [List.getElem?_eq_getElem h]
    exact hr _ (List.getElem_mem h)
  · rw [List.getElem?_eq_none h]
    unfold W32
    simp

/-- Where through's loops over the words stand. -/
def WrdAt (w wr : World) (l : List Int) : Prop := Blk wr w.heap.size 53 (wcells l) ∧ Below w.heap.size w wr
theorem WrdAt.start (w : World) : WrdAt w (w.alloc (.cells Z64 53)) [] := ⟨Blk.new w _ _, (Below.refl _ _).alloc (Nat.le_refl _) _⟩
theorem WrdAt.drewN {w wr : World} {l : List Int} (h : WrdAt w wr l) (q : Nat) : WrdAt w (wr.drewN q) l := ⟨h.1, { h.2 with }⟩
theorem WrdAt.next {w wr : World} {l : List Int} (h : WrdAt w wr l) (x : Int) (k : Nat) (hk : k = l.length) (hl : k < 64) : WrdAt w (wr.setCell ⟨w.heap.size, k, none⟩ (.int .u32 x)) (l ++ [x]) := by
  subst hk
  refine ⟨?_, h.2.setCell (Nat.le_refl _) _⟩
  rw [← wcells_set l x hl]
  exact h.1.set _ _

/-- The first cells of a block stay. -/
def KeepB (g n : Nat) (a b : World) : Prop := ∀ i, i < n → b.cell? ⟨g, i, none⟩ = a.cell? ⟨g, i, none⟩
theorem KeepB.refl (g n : Nat) (w : World) : KeepB g n w w := fun _ _ => rfl
theorem KeepB.trans {g n : Nat} (a b c : World) (h : KeepB g n a b) (k : KeepB g n b c) : KeepB g n a c := fun i hi => (k i hi).trans (h i hi)
theorem KeepB.set (g n k : Nat) (w : World) (v : Value) (h : n ≤ k) : KeepB g n w (w.setCell ⟨g, k, none⟩ v) := fun i hi => World.cell?_setCell_other _ _ _ _ (fun e => by injection e with _ e; omega)
theorem rturni_any (x n : Int) (w : World) (hn : Turns n.toNat) (hn0 : 0 ≤ n) (h0 : 0 ≤ x) (h1 : x ≤ 4294967295) : Calls Tryd.prog 26 #[.int .u32 x, .int .i64 n] w fun e w' => e = .returned (.int .u32 (rotI x n)) ∧ ∃ q, w' = w.drewN q :=
  rturn_any x n n.toNat w (Int.toNat_of_nonneg hn0).symm hn h0 h1

theorem out_zero32 (w : World) : Out32 w (w.alloc (.cells #[] 37)) (.slice (some ⟨w.heap.size, 0, none⟩) 0 0) [] :=
  ⟨⟨rfl, .inr ⟨w.heap.size, 0, #[], rfl, Nat.le_refl _, heap_alloc_new w _, Nat.le_refl _, by unfold maxLen; omega, rfl, rfl⟩⟩, (Below.refl _ _).alloc (Nat.le_refl _) _⟩
theorem Out32.cell {W0 wr : World} {g cap n : Nat} {L : List Int} (h : Out32 W0 wr (.slice (some ⟨g, 0, none⟩) n cap) L) (j : Nat) (hj : j < L.length) : wr.cell? ⟨g, j, none⟩ = some (.int .u32 (L[j]?.getD 0)) ∧ wr.frozen? ⟨g, j, none⟩ = false := by
  have hn : n = L.length := by
    rcases h.1.2 with ⟨e, _⟩ | ⟨g, cap, cur, e, hb, _⟩
    · cases e
    · injection e
  subst hn
  refine ⟨?_, h.1.frozenAt j⟩
  rw [h.1.cellAt j (by omega), List.getElem?_map, List.getElem?_eq_getElem hj]
  rfl
theorem Out32.set {W0 wr : World} {g cap n : Nat} {L : List Int} (h : Out32 W0 wr (.slice (some ⟨g, 0, none⟩) n cap) L) (hg : W0.heap.size ≤ g) (j : Nat) (x : Int) : Out32 W0 (wr.setCell ⟨g, j, none⟩ (.int .u32 x)) (.slice (some ⟨g, 0, none⟩) n cap) (L.set j x) := by
  have hn : n = L.length := by
    rcases h.1.2 with ⟨e, _⟩ | ⟨g, cap, cur, e, hb, _⟩
    · cases e
    · injection e
  subst hn
  refine ⟨?_, h.2.setCell hg _⟩
  have := (h.1.stored j (.int .u32 x)).1
  rw [List.length_set, List.map_set]
  exact this
theorem Out32.drewN {W0 wr : World} {V : Value} {L : List Int} (h : Out32 W0 wr V L) (q : Nat) : Out32 W0 (wr.drewN q) V L := ⟨h.1, { h.2 with }⟩
theorem list_range {v : V8} (h : v.ok) : ∀ x ∈ v.list, 0 ≤ x ∧ x ≤ 4294967295 := by
  obtain ⟨ha, hb, hc, hd, he, hf, hg, hh⟩ := h
  intro x hx
  simp only [V8.list, List.mem_cons, List.not_mem_nil, or_false] at hx
  rcases hx with rfl | rfl | rfl | rfl | rfl | rfl | rfl | rfl
  all_goals assumption
/-- Where through's loop over the rounds stands. -/
def RndAt (w wr : World) (g3 : Nat) (V : Value) (s : V8) (l : List Int) : Prop :=
  Out32 w wr V s.list ∧ WrdAt w wr l ∧ Row32 wr (some ⟨g3, 0, none⟩) 64 CONSTS ∧ w.heap.size < wr.heap.size ∧ ∃ g cap, V = .slice (some ⟨g, 0, none⟩) 8 cap ∧ w.heap.size ≤ g
theorem RndAt.drewN {w wr : World} {g3 : Nat} {V : Value} {s : V8} {l : List Int} (h : RndAt w wr g3 V s l) (q : Nat) : RndAt w (wr.drewN q) g3 V s l :=
  ⟨h.1.drewN q, h.2.1.drewN q, h.2.2.1, h.2.2.2⟩
theorem words8_own (w wr : World) (s : V8) (hb : Below w.heap.size w wr) : Out32 w (wr.alloc (.cells s.cells 37)) (.slice (some ⟨wr.heap.size, 0, none⟩) 8 8) s.list :=
  ⟨⟨rfl, .inr ⟨wr.heap.size, 8, s.cells, rfl, hb.size, heap_alloc_new wr _, Nat.le_refl _, by unfold maxLen; omega, rfl, rfl⟩⟩, hb.alloc hb.size _⟩
theorem RndAt.next {w wr : World} {g3 : Nat} {V : Value} {s : V8} {l : List Int} (h : RndAt w wr g3 V s l) (s1 : V8) : RndAt w (wr.alloc (.cells s1.cells 37)) g3 (.slice (some ⟨wr.heap.size, 0, none⟩) 8 8) s1 l := by
  have hb := h.2.1.2
  have ba : Below wr.heap.size wr (wr.alloc (.cells s1.cells 37)) := (Below.refl _ _).alloc (Nat.le_refl _) _
  refine ⟨words8_own w wr s1 hb, ⟨h.2.1.1.alloc _, hb.alloc hb.size _⟩, h.2.2.1.below ba, Nat.lt_of_lt_of_le h.2.2.2.1 ba.size, wr.heap.size, 8, rfl, hb.size⟩
theorem RndAt.facts {w wr : World} {g3 g cap : Nat} {s : V8} {l : List Int} (h : RndAt w wr g3 (.slice (some ⟨g, 0, none⟩) 8 cap) s l) (k : Nat) (hk : k < 64) :
    wr.cell? ⟨g, 0, none⟩ = some (.int .u32 s.a) ∧ wr.cell? ⟨g, 1, none⟩ = some (.int .u32 s.b) ∧ wr.cell? ⟨g, 2, none⟩ = some (.int .u32 s.c) ∧ wr.cell? ⟨g, 3, none⟩ = some (.int .u32 s.d) ∧
    wr.cell? ⟨g, 4, none⟩ = some (.int .u32 s.e) ∧ wr.cell? ⟨g, 5, none⟩ = some (.int .u32 s.f) ∧ wr.cell? ⟨g, 6, none⟩ = some (.int .u32 s.g) ∧ wr.cell? ⟨g, 7, none⟩ = some (.int .u32 s.h) ∧
    wr.cell? ⟨w.heap.size, k, none⟩ = some (.int .u32 (l[k]?.getD 0)) ∧ wr.cell? ⟨g3, k, none⟩ = some (.int .u32 (CONSTS[k]?.getD 0)) := by
  refine ⟨(h.1.cell 0 (by show 0 < 8; omega)).1, (h.1.cell 1 (by show 1 < 8; omega)).1, (h.1.cell 2 (by show 2 < 8; omega)).1, (h.1.cell 3 (by show 3 < 8; omega)).1, (h.1.cell 4 (by show 4 < 8; omega)).1, (h.1.cell 5 (by show 5 < 8; omega)).1, (h.1.cell 6 (by show 6 < 8; omega)).1, (h.1.cell 7 (by show 7 < 8; omega)).1, (h.2.1.1.cell k).trans (wcells_get l k hk), ?_⟩
  obtain ⟨_, _, hgo, _, hcc⟩ := h.2.2.1.2.2 (by omega)
  injection hgo with hgo
  injection hgo with hgo1 hgo2
  subst hgo1 hgo2
  have e := hcc k hk
  rw [Nat.zero_add] at e
  exact e
theorem mixed_set (A B : List Int) (k : Nat) (hA : A.length = 8) (hB : B.length = 8) (hk : k < 8) : (A.take k ++ B.drop k).set k (A[k]?.getD 0) = A.take (k + 1) ++ B.drop (k + 1) := by
  have ht : (A.take k).length = k := by rw [List.length_take]; omega
  rw [List.set_append_right _ _ (by omega), ht, Nat.sub_self, List.drop_eq_getElem_cons (show k < B.length by omega), List.set_cons_zero, List.getElem?_eq_getElem (show k < A.length by omega), List.take_succ_eq_append_getElem (show k < A.length by omega), List.append_assoc]
  rfl
theorem mixed_get (A B : List Int) (k : Nat) (hA : A.length = 8) (hB : B.length = 8) (hk : k < 8) : (A.take k ++ B.drop k)[k]?.getD 0 = B[k]?.getD 0 := by
  have ht : (A.take k).length = k := by rw [List.length_take]; omega
  rw [List.getElem?_append_right (by omega), ht, Nat.sub_self, List.getElem?_drop, Nat.add_zero]
theorem addV_get (s v : V8) (k : Nat) (hk : k < 8) : (addV s v).list[k]?.getD 0 = m32 (s.list[k]?.getD 0 + v.list[k]?.getD 0) := by
  rcases k with _ | _ | _ | _ | _ | _ | _ | _ | k
  all_goals first | (exfalso; omega) | rfl

theorem wraps4 (A B C D : Int) : IntKind.u32.wrap (IntKind.u32.wrap (IntKind.u32.wrap (A + B) + C) + D) = m32 (A + B + C + D) := by
  simp only [IntKind.wrap_u32]
  unfold m32
  omega
set_option maxHeartbeats 1000000 in
set_option maxRecDepth 100000 in
theorem through_any (v : V8) (hv : v.ok) (a a2 : Option Addr) (ca cb : Nat) (zs : List Int) (w : World) (hs : Row32 w a 8 v.list) (hr : Row w a2 64 zs) (hcb : 64 ≤ cb) :
    Calls Tryd.prog 17 #[.slice a 8 ca, .slice a2 64 cb] w fun e w' => ∃ V, e = .returned V ∧ Out32 w w' V (blockV v zs).list := by
  have HB := Lib.hid hr.2.1
  have LZ := hr.1
  have RW := Lib.hid hr
  have RS := Lib.hid hs
  have OKV := Lib.hid hv
  obtain ⟨b, off, rfl, hb, hc⟩ := hr.2.2 (by omega)
  have W0 := Lib.hid (WrdAt.start w)
  clear hs hr hc hv
  go_enter Tryd.func17, Tryd.ntmps17
  go_wp2_with (refine Great.wpList_allocTo rfl (some 5) rfl (.pointer (some ⟨w.heap.size, 0, none⟩)) (.cells Z64 53) rfl ?_)
  generalize w.alloc (.cells Z64 53) = w0 at *
  go_loopw [6] (fun i wr => ∃ k : Nat, k ≤ 16 ∧ i = .int .i64 (k : Int) ∧ WrdAt w wr (wordsZ8 zs k)) (fun i _ => (17 - intOf i).toNat)
  case atStart => exact ⟨0, by omega, rfl, W0.out⟩
  case round =>
    obtain ⟨k, hk, rfl, he⟩ := hrel
    have E := Lib.hid he
    clear he W0
    by_cases hk2 : k < 16
    · have t0 : decide ((k : Int) < 16) = true := by simp; omega
      have RD := Lib.hid (((RW.out.below E.out.2).rest (4 * k) cb (by omega) hcb).first 4 (by omega))
      have h4 : IntKind.i64.wrap (4 * (k : Int)) = ((4 * k : Nat) : Int) := by rw [show ((4 * k : Nat) : Int) = 4 * (k : Int) by omega]; exact IntWalk.i64_in _ (by omega)
      have h8 : IntKind.i64.wrap (((4 * k : Nat) : Int) + 4) = ((4 * k + 4 : Nat) : Int) := by rw [show ((4 * k + 4 : Nat) : Int) = ((4 * k : Nat) : Int) + 4 by omega]; exact IntWalk.i64_in _ (by omega)
      have hne : ¬ cb = 4 * k := by omega
      have L := wordsZ8_len zs k
      rw [if_neg hne] at RD
      have CW := Lib.hid (rnum_any _ _ (cb - 4 * k) _ _ RD.out (by omega))
      rw [num_word HB.out (4 * k) (by omega)] at CW
      rw [Option.map_some, Addr.add_lit] at CW
      have wr32 := word_range HB.out (4 * k)
      have u32 : IntKind.u32.wrap (wordZ zs (4 * k)) = wordZ zs (4 * k) := IntWalk.u32_in _ (by unfold W32 at wr32; omega)
      have CC := (E.out.1.cell k).trans (wcells_get _ k (by omega))
      have FF := E.out.1.free k
      have EN : Hid (WrdAt w (wr.setCell ⟨w.heap.size, k, none⟩ (.int .u32 (wordZ zs (4 * k)))) (wordsZ8 zs (k + 1))) := by
        rw [words_first _ _ hk2]
        exact Lib.hid (E.out.next _ k L.symm (by omega))
      clear E RD L wr32
      generalize ho : 4 * k = o at *
      generalize wordZ zs o = x at *
      have kl : k < 64 := by omega
      have kI : (k : Int) < 64 := by omega
      have o1 : (o : Int) ≤ ((o + 4 : Nat) : Int) := by omega
      have o2 : ((o + 4 : Nat) : Int) ≤ (cb : Int) := by omega
      have o3 : o + 4 - o = 4 := by omega
      go_wp2_with fail
      refine CW.out.mono ?_
      rintro e w2 ⟨rfl, hw⟩
      subst hw
      go_wp2_with fail
      go_roundw
      case rel => exact ⟨k + 1, by omega, by first | rfl | go_num, EN.out⟩
      case measure => simp only [intOf]; omega
    · obtain rfl : k = 16 := by omega
      clear hk2
      rw [show ((16 : Nat) : Int) = 16 by rfl]
      go_wp2_with fail
      go_loopw [9] (fun i w2 => ∃ k : Nat, 16 ≤ k ∧ k ≤ 64 ∧ i = .int .i64 (k : Int) ∧ WrdAt w w2 (wordsZ8 zs k)) (fun i _ => (65 - intOf i).toNat)
      case atStart => exact ⟨16, by omega, by omega, rfl, E.out⟩
      case round =>
        obtain ⟨k, hk16, hk, rfl, he⟩ := hrel
        have E2 := Lib.hid he
        clear he E
        by_cases hk2 : k < 64
        · have WN := Lib.hid (words_next zs k hk16)
          have L := wordsZ8_len zs k
          have r := fun i => words_all HB.out k i
          obtain ⟨j, hj⟩ : ∃ j, k = j + 16 := ⟨k - 16, by omega⟩
          generalize hl1 : wordsZ8 zs (k + 1) = l1 at *
          have HL1 := Lib.hid hl1
          clear hl1
          generalize wordsZ8 zs k = l at *
          subst hj
          have t0 : decide ((j : Int) + 16 < 64) = true := by simp; omega
          have c0 := (E2.out.1.cell j).trans (wcells_get _ j (by omega))
          have c1 := (E2.out.1.cell (j + 1)).trans (wcells_get _ (j + 1) (by omega))
          have c9 := (E2.out.1.cell (j + 9)).trans (wcells_get _ (j + 9) (by omega))
          have c14 := (E2.out.1.cell (j + 14)).trans (wcells_get _ (j + 14) (by omega))
          have c16 := (E2.out.1.cell (j + 16)).trans (wcells_get _ (j + 16) (by omega))
          have f16 := E2.out.1.free (j + 16)
          have EN : Hid (∀ q, WrdAt w ((wr.drewN q).setCell ⟨w.heap.size, j + 16, none⟩ (.int .u32 (nextZ l (j + 16)))) l1) := by
            rw [WN.out]
            exact Lib.hid (fun q => (E2.out.drewN q).next _ (j + 16) L.symm (by omega))
          have N : nextZ l (j + 16) = m32 (l[j]?.getD 0 + lowS (l[j + 1]?.getD 0) + l[j + 9]?.getD 0 + highS (l[j + 14]?.getD 0)) := rfl
          rw [N] at EN
          have r0 := r j
          have r1 := r (j + 1)
          have r9 := r (j + 9)
          have r14 := r (j + 14)
          unfold W32 at r0 r1 r9 r14
          generalize l[j]?.getD 0 = x0 at *
          generalize l[j + 1]?.getD 0 = x1 at *
          generalize l[j + 9]?.getD 0 = x9 at *
          generalize l[j + 14]?.getD 0 = x14 at *
          generalize l[j + 16]?.getD 0 = x16 at *
          clear r N L WN E2
          rw [show ((j + 16 : Nat) : Int) = (j : Int) + 16 by omega]
          have e15 : IntKind.i64.wrap ((j : Int) + 16 - 15) = ((j + 1 : Nat) : Int) := by rw [show (j : Int) + 16 - 15 = (j : Int) + 1 by omega, Int.natCast_add]; exact IntWalk.i64_in _ (by omega)
          have e2 : IntKind.i64.wrap ((j : Int) + 16 - 2) = ((j + 14 : Nat) : Int) := by rw [show (j : Int) + 16 - 2 = (j : Int) + 14 by omega, Int.natCast_add]; exact IntWalk.i64_in _ (by omega)
          have e16 : IntKind.i64.wrap ((j : Int) + 16 - 16) = (j : Int) := by rw [show (j : Int) + 16 - 16 = (j : Int) by omega]; exact IntWalk.i64_in _ (by omega)
          have e7 : IntKind.i64.wrap ((j : Int) + 16 - 7) = ((j + 9 : Nat) : Int) := by rw [show (j : Int) + 16 - 7 = (j : Int) + 9 by omega, Int.natCast_add]; exact IntWalk.i64_in _ (by omega)
          go_wp2_with fail
          have wj : IntKind.i64.wrap (j : Int) = (j : Int) := IntWalk.i64_in _ (by omega)
          have w9 : IntKind.i64.wrap ((j : Int) + 9) = (j : Int) + 9 := IntWalk.i64_in _ (by omega)
          have w16 : IntKind.i64.wrap ((j : Int) + 16) = (j : Int) + 16 := IntWalk.i64_in _ (by omega)
          have b0 : (j : Int) < 64 := by omega
          have b9 : (j : Int) + 9 < 64 := by omega
          have b16 : (j : Int) + 16 < 64 := by omega
          have p9 : 0 ≤ (j : Int) + 9 := by omega
          have p16 : 0 ≤ (j : Int) + 16 := by omega
          have q9 : ((j : Int) + 9).toNat = j + 9 := by omega
          have q16 : ((j : Int) + 16).toNat = j + 16 := by omega
          have m0 : ∀ W, KeepB w.heap.size (j + 16) wr.drew W → W.cell? ⟨w.heap.size, j, none⟩ = some (.int .u32 x0) := fun W hW => (hW j (by omega)).trans c0
          have m9 : ∀ W, KeepB w.heap.size (j + 16) wr.drew W → W.cell? ⟨w.heap.size, j + 9, none⟩ = some (.int .u32 x9) := fun W hW => (hW (j + 9) (by omega)).trans c9
          refine wp_region_ord (KeepB w.heap.size (j + 16)) (KeepB.refl _ _) KeepB.trans ((0, false) :: (1, false) :: (2, false) :: (3, false) :: (4, false) :: (5, false) :: (7, false) :: (10, false) :: (11, false) :: (14, false) :: (15, false) :: (16, false) :: (17, false) :: (19, false) :: (21, false) :: (24, false) :: (25, false) :: (6, true) :: (8, true) :: (9, false) :: (12, false) :: (13, false) :: (18, false) :: (20, true) :: (22, true) :: (23, false) :: (26, false) :: (27, false) :: (28, false) :: (29, true) :: []) (by kernel_rfl) (by kernel_rfl) rfl (by kernel_rfl) (fun _ _ _ _ _ h => h) ?_
          repeat (refine ord_take _ rfl (by rfl) (fun W hW => by go_simp; first | done | rfl) ?_; simp only [Act.put, List.setIfInBounds_toArray, List.set_cons_zero, List.set_cons_succ])
          clear m0 m9
          refine ord_sole rfl (by rfl) (fun K1 hK1 => ?_)
          go_simp
          refine (rturni_any x1 7 _ (by unfold Turns; decide) (by decide) r1.1 r1.2).mono ?_
          rintro e w2 ⟨rfl, q1, hw⟩
          subst hw
          refine hK1 _ _ (fun _ _ => rfl) ?_
          clear hK1 K1
          refine ord_sole rfl (by rfl) (fun K1 hK1 => ?_)
          go_simp
          refine (rturni_any x1 18 _ (by unfold Turns; decide) (by decide) r1.1 r1.2).mono ?_
          rintro e w2 ⟨rfl, q2, hw⟩
          subst hw
          refine hK1 _ _ (fun _ _ => rfl) ?_
          clear hK1 K1
          repeat (refine ord_take _ rfl (by rfl) (fun W hW => by go_simp; first | done | rfl) ?_; simp only [Act.put, List.setIfInBounds_toArray, List.set_cons_zero, List.set_cons_succ])
          refine ord_sole rfl (by rfl) (fun K1 hK1 => ?_)
          go_simp
          refine (rturni_any x14 17 _ (by unfold Turns; decide) (by decide) r14.1 r14.2).mono ?_
          rintro e w2 ⟨rfl, q3, hw⟩
          subst hw
          refine hK1 _ _ (fun _ _ => rfl) ?_
          clear hK1 K1
          refine ord_sole rfl (by rfl) (fun K1 hK1 => ?_)
          go_simp
          refine (rturni_any x14 19 _ (by unfold Turns; decide) (by decide) r14.1 r14.2).mono ?_
          rintro e w2 ⟨rfl, q4, hw⟩
          subst hw
          refine hK1 _ _ (fun _ _ => rfl) ?_
          clear hK1 K1
          repeat (refine ord_take _ rfl (by rfl) (fun W hW => by go_simp; first | done | rfl) ?_; simp only [Act.put, List.setIfInBounds_toArray, List.set_cons_zero, List.set_cons_succ])
          refine ord_sole rfl (by rfl) (fun K1 hK1 => ?_)
          go_simp
          rw [wraps4]
          refine hK1 _ _ (KeepB.set _ _ _ _ _ (Nat.le_refl _)) ?_
          clear hK1 K1
          refine ord_end ?_
          go_wp2_with fail
          go_roundw
          case rel => exact ⟨j + 16 + 1, by omega, by omega, by first | rfl | go_num, by rw [HL1.out]; exact EN.out _⟩
          case measure => simp only [intOf]; omega
        · obtain rfl : k = 64 := by omega
          have L := wordsZ8_len zs 64
          have F : Hid (blockV v zs = addV (roundsV v (wordsZ8 zs 64) 64) v) := Lib.hid rfl
          have LR := Lib.hid (words_range HB.out 64)
          generalize wordsZ8 zs 64 = l at *
          clear hk16 hk2
          rw [show ((64 : Nat) : Int) = 64 by rfl]
          go_wp2_with fail
          refine (rconsts_any _).mono ?_
          rintro e w3 ⟨rfl, hw3⟩
          have B3 : Hid (Below wr.heap.size wr w3) := by rw [hw3]; exact Lib.hid ((Below.refl _ _).alloc (Nat.le_refl _) _)
          have C3 : Hid (Row32 w3 (some ⟨wr.heap.size, 0, none⟩) 64 CONSTS) := by rw [hw3]; exact Lib.hid (consts_row wr)
          clear hw3
          have ltw := E2.out.1.lt
          have lt3 : wr.heap.size ≤ w3.heap.size := B3.out.size
          have E3 : Hid (WrdAt w w3 l) := Lib.hid ⟨E2.out.1.below B3.out ltw, Below.step E2.out.2 B3.out⟩
          have R3 := Lib.hid (RS.out.below E3.out.2)
          have O3 := Lib.hid (out_zero32 w3)
          have R4 : Hid (Row32 (w3.alloc (.cells #[] 37)) a 8 v.list) := Lib.hid (R3.out.below ((Below.refl _ _).alloc (Nat.le_refl _) _))
          have NI : Hid (a = none → ca = 0) := Lib.hid (fun h => by obtain ⟨_, _, e, _⟩ := RS.out.2.2 (by omega); rw [h] at e; cases e)
          have HN : Hid (([] : List Int).length + 8 ≤ 1000000) := Lib.hid (by simp)
          clear B3 E2
          generalize wr.heap.size = g3 at *
          go_wp2_with (at_builtin; go_must (refine out_append32 (W0 := w3) (L := []) (zs := v.list) rfl _ _ rfl rfl O3.out rfl R4.out NI.out HN.out ?_; intro V4 w4 ho4; have O4 := Lib.hid ho4; clear ho4))
          have OV := O4.out
          rw [List.nil_append] at OV
          obtain ⟨g4, cap4, hV4, hg4⟩ := OV.form (by show 0 < 8; omega)
          have RA : Hid (RndAt w w4 g3 V4 v l) := Lib.hid ⟨OV.wider E3.out.2, ⟨E3.out.1.below OV.2 (by omega), Below.step E3.out.2 OV.2⟩, C3.out.below OV.2, Nat.lt_of_lt_of_le (by omega) OV.2.size, g4, cap4, hV4, by omega⟩
          clear OV hV4 hg4 O4 O3 R4 HN C3 E3 R3
          go_loopw [13, 14] (fun V i wr => ∃ k : Nat, k ≤ 64 ∧ i = .int .i64 (k : Int) ∧ RndAt w wr g3 V (roundsV v l k) l) (fun _ i _ => (65 - intOf i).toNat)
          case atStart => exact ⟨0, by omega, rfl, RA.out⟩
          case round =>
            obtain ⟨k, hk, rfl, hra⟩ := hrel
            have RB := Lib.hid hra
            clear hra RA
            by_cases hk2 : k < 64
            · have t0 : decide ((k : Int) < 64) = true := by simp; omega
              have kI : (k : Int) < 64 := by omega
              have kN : (0 : Int) ≤ (k : Int) := by omega
              have RN : Hid (roundsV v l (k + 1) = stepV (roundsV v l k) (CONSTS[k]?.getD 0) (l[k]?.getD 0)) := Lib.hid rfl
              have RO := ok_rounds OKV.out l k
              generalize hs1 : roundsV v l (k + 1) = s1 at *
              have HS1 := Lib.hid hs1
              clear hs1
              generalize roundsV v l k = s at *
              obtain ⟨g, cap, rfl, hgw⟩ := RB.out.2.2.2.2
              obtain ⟨c0, c1, c2, c3, c4, c5, c6, c7, d0, dc⟩ := RB.out.facts k hk2
              have F2 := fun q => (RB.out.drewN q).facts k hk2
              have RD := Lib.hid (fun q => RB.out.drewN q)
              obtain ⟨a1, b1, cc1, d1, e1, f1, g1, h1⟩ := s
              obtain ⟨ra, rb, rc, rd, re, rf, rg, rh⟩ := RO
              unfold W32 at ra rb rc rd re rf rg rh
              simp only at ra rb rc rd re rf rg rh c0 c1 c2 c3 c4 c5 c6 c7 F2
              generalize CONSTS[k]?.getD 0 = cc at *
              generalize l[k]?.getD 0 = ww at *
              have HF := Lib.hid F2
              clear F2 RB
              go_wp2_with fail
              go_quiet ((go_at_call 26; exact Calls.quiet_of (rturni_any _ _ _ (by unfold Turns; decide) (by decide) (by omega) (by omega))))
              have R2 := Lib.hid (RD.out nq)
              obtain ⟨c0, c1, c2, c3, c4, c5, c6, c7, d0, dc⟩ := HF.out nq
              clear HF RD
              generalize wr.drewN nq = wr2 at *
              have RD := Lib.hid (fun q => R2.out.drewN q)
              have HF := Lib.hid (fun q => (R2.out.drewN q).facts k hk2)
              clear R2
              go_wp2_with fail
              go_quiet ((go_at_call 26; exact Calls.quiet_of (rturni_any _ _ _ (by unfold Turns; decide) (by decide) (by omega) (by omega))))
              have R3 := Lib.hid (RD.out nq)
              obtain ⟨c0, c1, c2, c3, c4, c5, c6, c7, d0, dc⟩ := HF.out nq
              clear HF RD
              generalize wr2.drewN nq = wr3 at *
              go_wp2_with fail
              obtain ⟨p, hp⟩ : ∃ p, p = m32 (h1 + bigE e1 + choose e1 f1 g1 + cc + ww) := ⟨_, rfl⟩
              obtain ⟨q, hq⟩ : ∃ q, q = m32 (bigA a1 + most a1 b1 cc1) := ⟨_, rfl⟩
              have hp' : (h1 + bits .xor .u32 (bits .xor .u32 (rotI e1 6) (rotI e1 11)) (rotI e1 25) + bits .or .u32 (bits .and .u32 e1 f1) (bits .and .u32 (bits .xor .u32 IntKind.u32.max e1) g1) + cc + ww) % 4294967296 = p := hp.symm
              have hq' : (bits .xor .u32 (bits .xor .u32 (rotI a1 2) (rotI a1 13)) (rotI a1 22) + bits .or .u32 (bits .or .u32 (bits .and .u32 a1 b1) (bits .and .u32 a1 cc1)) (bits .and .u32 b1 cc1)) % 4294967296 = q := hq.symm
              rw [hp', hq']
              clear hp' hq'
              have S1 : Hid (s1 = ⟨m32 (p + q), a1, b1, cc1, m32 (d1 + p), e1, f1, g1⟩) := by
                rw [RN.out, hp, hq]
                exact Lib.hid rfl
              clear hp hq
              have wpq : IntKind.u32.wrap (p + q) = m32 (p + q) := wrap_m32 _
              have wdp : IntKind.u32.wrap (d1 + p) = m32 (d1 + p) := wrap_m32 _
              generalize m32 (p + q) = P at *
              generalize m32 (d1 + p) = D at *
              have n0 := cell_later c0
              have n1 := cell_later c1
              have n2 := cell_later c2
              have n3 := cell_later c3
              have n4 := cell_later c4
              have n5 := cell_later c5
              have n6 := cell_later c6
              refine wp_region_ord Ext Ext.refl (fun _ _ _ => Ext.trans) ((0, false) :: (1, false) :: (2, false) :: (3, false) :: (4, false) :: (5, false) :: (6, false) :: (7, false) :: (8, false) :: (9, false) :: (10, false) :: (11, false) :: (12, false) :: (13, false) :: (14, false) :: (15, false) :: (16, false) :: (17, false) :: (18, false) :: (19, false) :: (20, false) :: (21, false) :: (22, false) :: (23, false) :: (24, false) :: (25, false) :: (26, true) :: (27, false) :: []) (by kernel_rfl) (by kernel_rfl) rfl (by kernel_rfl) (fun _ _ _ _ _ h => h) ?_
              repeat (refine ord_take _ rfl (by rfl) (fun W hW => by go_simp; first | done | rfl) ?_; simp only [Act.put, List.setIfInBounds_toArray, List.set_cons_zero, List.set_cons_succ])
              clear n0 n1 n2 n3 n4 n5 n6
              refine ord_sole rfl (by rfl) (fun K1 hK1 => ?_)
              go_simp
              have EX : ∀ o : Obj, Ext wr3.drew (wr3.alloc o).drew := fun o => by
                have h := (Below.refl wr3.heap.size wr3).alloc (Nat.le_refl _) o
                exact ⟨h.os, h.tape, h.output, h.size, h.block⟩
              refine hK1 _ _ (EX _) ?_
              clear hK1 K1 EX
              repeat (refine ord_take _ rfl (by rfl) (fun W hW => by go_simp; first | done | rfl) ?_; simp only [Act.put, List.setIfInBounds_toArray, List.set_cons_zero, List.set_cons_succ])
              refine ord_end ?_
              have N4 := Lib.hid ((R3.out.next ⟨P, a1, b1, cc1, D, e1, f1, g1⟩).drewN 1)
              clear c0 c1 c2 c3 c4 c5 c6 c7 d0 dc
              go_wp2_with fail
              go_roundw
              case rel => exact ⟨k + 1, by omega, by first | rfl | go_num, by rw [HS1.out, S1.out]; exact N4.out⟩
              case measure => simp only [intOf]; omega
            · obtain rfl : k = 64 := by omega
              have F2 : Hid (blockV v zs = addV (roundsV v l 64) v) := F
              have OKS := Lib.hid (ok_rounds OKV.out l 64)
              generalize roundsV v l 64 = s at *
              obtain ⟨g, cap, rfl, hgw⟩ := RB.out.2.2.2.2
              have RS0 := Lib.hid (RS.out.below RB.out.2.1.2)
              have OO := Lib.hid RB.out.1
              have O0 : Hid (Out32 w wr (.slice (some ⟨g, 0, none⟩) 8 cap) ((addV s v).list.take 0 ++ s.list.drop 0)) := Lib.hid OO.out
              clear hk2 RB OO RS0
              rw [show ((64 : Nat) : Int) = 64 by rfl]
              obtain ⟨ab, ao, hae, halt, _⟩ := RS.out.2.2 (by omega)
              subst hae
              go_wp2_with fail
              go_loopw [19] (fun i w5 => ∃ k : Nat, k ≤ 8 ∧ i = .int .i64 (k : Int) ∧ Out32 w w5 (.slice (some ⟨g, 0, none⟩) 8 cap) ((addV s v).list.take k ++ s.list.drop k)) (fun i _ => (9 - intOf i).toNat)
              case atStart => exact ⟨0, by omega, rfl, O0.out⟩
              case round =>
                obtain ⟨k, hk, rfl, hoo⟩ := hrel
                have OB := Lib.hid hoo
                clear hoo O0
                by_cases hk2 : k < 8
                · have t0 : decide ((k : Int) < 8) = true := by simp; omega
                  have hA : (addV s v).list.length = 8 := rfl
                  have hS : s.list.length = 8 := rfl
                  have hll : ((addV s v).list.take k ++ s.list.drop k).length = 8 := by simp only [List.length_append, List.length_take, List.length_drop]; omega
                  obtain ⟨c0, f0⟩ := OB.out.cell k (by omega)
                  rw [mixed_get _ _ _ hA hS hk2] at c0
                  have AR := RS.out.below OB.out.2
                  obtain ⟨_, _, hae, _, hac⟩ := AR.2.2 (by omega)
                  injection hae with hae
                  injection hae with hae1 hae2
                  subst hae1 hae2
                  have a0 := hac k hk2
                  have AG := addV_get s v k hk2
                  have MS := mixed_set (addV s v).list s.list k hA hS hk2
                  rw [AG] at MS
                  have ST := fun x => OB.out.set hgw k x
                  have r0 := list_range OKS.out (s.list[k]?.getD 0) (by rw [List.getElem?_eq_getElem (show k < s.list.length by omega)]; exact List.getElem_mem _)
                  have r1 := AR.num k
                  generalize s.list[k]?.getD 0 = x at *
                  generalize v.list[k]?.getD 0 = y at *
                  have NX : Hid (Out32 w ((wr.setCell ⟨g, k, none⟩ (.int .u32 (m32 (x + y)))).drewN 1) (.slice (some ⟨g, 0, none⟩) 8 cap) ((addV s v).list.take (k + 1) ++ s.list.drop (k + 1))) := by
                    rw [← MS]
                    exact Lib.hid ((ST (m32 (x + y))).drewN 1)
                  clear MS ST AG OB AR hac hll
                  have kI : (k : Int) < 8 := by omega
                  have kN : (0 : Int) ≤ (k : Int) := by omega
                  have wxy : IntKind.u32.wrap (x + y) = m32 (x + y) := wrap_m32 _
                  generalize m32 (x + y) = z at *
                  go_wp2_with fail
                  go_region
                  go_wp2_with fail
                  go_roundw
                  case rel => exact ⟨k + 1, by omega, by first | rfl | go_num, NX.out⟩
                  case measure => simp only [intOf]; omega
                · obtain rfl : k = 8 := by omega
                  have OE : Hid (Out32 w wr (.slice (some ⟨g, 0, none⟩) 8 cap) (blockV v zs).list) := by rw [F2.out]; exact Lib.hid OB.out
                  clear OB
                  rw [show ((8 : Nat) : Int) = 8 by rfl]
                  go_wp2_with fail
                  go_ret
                  exact ⟨_, rfl, OE.out⟩

end Go.Proofs.YtgldoppcillljaaDoor
