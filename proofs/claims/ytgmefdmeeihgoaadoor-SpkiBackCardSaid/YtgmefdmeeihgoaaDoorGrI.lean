/-
  Merged texts: ShaOf, Out32, ShaTh, ShaRf, HexC, RhexC, ShaN, SkL, SkM, SkN, SkQ, SkU.
-/
import Derived.Test.YtgmefdmeeihgoaaDoorGrH
import Derived.Test.YtgmefdmeeihgoaaDoorGrB
import Derived.Test.YtgmefdmeeihgoaaDoorGrA
import Derived.Test.YtgmefdmeeihgoaaDoorRows
import Derived.WalkKit
import Derived.WalkSpells
import Derived.WalkLawsBesides
import Derived.Deep.QuietTactic
import Derived.BigQuiet
import Derived.Lib.Hide
import Derived.Deep.AppendLies
import Derived.Deep.RegionLaw
import Derived.OneCell
import Derived.ChangeKeysEq
import Derived.Test.YtgmefdmeeihgoaaDoorGrG
import Derived.Test.YtgmefdmeeihgoaaDoorGrC
namespace Go.Proofs.YtgmefdmeeihgoaaDoor
open Go.RowKit
set_option linter.unusedVariables false

set_option maxHeartbeats 300000 in
set_option maxRecDepth 100000 in
theorem hof_any (a : Option Addr) (n ca : Nat) (zs : List Int) (w : World) (hr : Row w a n zs) (hca : n ≤ ca) (hn : n ≤ 100000) (ht : Tab w) :
    Calls Tryd.prog 48 #[.slice a n ca] w (GivesHash (hashZ zs) w) := by
  have B1 : Hid (Below w.heap.size w (w.alloc (.cells Z32 79))) := Lib.hid ((Below.refl _ _).alloc (Nat.le_refl _) _)
  have A1 : Hid (Blk (w.alloc (.cells Z32 79)) w.heap.size 79 Z32) := Lib.hid (Blk.new _ _ _)
  have hs1 : (w.alloc (.cells Z32 79)).heap.size = w.heap.size + 1 := by simp
  have T1 := Lib.hid (ht.below B1.out)
  have HR := Lib.hid hr
  have hzn := hr.1
  have L32 : (hashZ zs).length ≤ 32 := by rw [hash_len]; omega
  have h2 := ht.1
  clear hr ht
  go_enter Tryd.func48, Tryd.ntmps48
  go_wp2_with (refine Great.wpList_allocTo rfl (some 2) rfl (.pointer (some ⟨w.heap.size, 0, none⟩)) (.cells Z32 79) rfl ?_)
  generalize w.alloc (.cells Z32 79) = w1 at *
  have HS1 := Lib.hid hs1
  clear hs1
  refine (new_any w1 T1.out).mono ?_
  rintro e w2 ⟨rfl, hw2⟩
  have H2 : Hid (Holds w2 w1.heap.size []) := by rw [hw2]; exact Lib.hid (new_holds w1)
  have B2 : Hid (Below w1.heap.size w1 w2) := by rw [hw2]; exact Lib.hid ((Below.refl _ _).alloc (Nat.le_refl _) _)
  clear hw2
  have T2 := Lib.hid (T1.out.below B2.out)
  have BW := Lib.hid (Below.step B1.out B2.out)
  have A2 := Lib.hid (A1.out.below B2.out A1.out.lt)
  have AP : Hid (ApartH w2 w1.heap.size a n zs) := Lib.hid ⟨HR.out.below BW.out, fun h0 => by
    obtain ⟨b, off, e, hb, _⟩ := HR.out.2.2 h0
    exact ⟨b, off, e, by have := HS1.out; omega⟩⟩
  clear B2 T1 A1 HR
  go_wp2_with fail
  refine (hwrite_any w1.heap.size [] a n ca zs w2 H2.out (by have := HS1.out; omega) AP.out hca T2.out (by simp; omega)).mono ?_
  rintro e w3 ⟨rfl, hh3, hg3⟩
  rw [List.nil_append] at hh3
  have H3 : Hid (Holds w3 w1.heap.size zs) := Lib.hid hh3
  have B3 : Hid (Below w.heap.size w w3) := Lib.hid (BW.out.grown hg3 BW.out.size (fun k e => by have := HS1.out; simp at e; omega))
  have A3 : Hid (Blk w3 w.heap.size 79 Z32) := Lib.hid ((hg3.block _ (Blk.lt A2.out) (by have := HS1.out; simp; omega)).trans A2.out)
  have T3 := Lib.hid (T2.out.grown hg3 (by have := HS1.out; omega))
  clear hh3 hg3 H2 AP T2 A2 BW
  go_wp2_with fail
  refine (sum_any w1.heap.size zs w3 H3.out T3.out (by omega)).mono ?_
  rintro e w4 ⟨rfl, hb4⟩
  have A4 := Lib.hid (A3.out.below hb4 A3.out.lt)
  have B4 := Lib.hid (Below.step B3.out hb4)
  clear hb4 A3 B3 H3 T3
  generalize hashZ zs = hz at *
  go_wp2_with (refine wpList_store_rowTo rfl 79 (.tmp 2) (.tmp 9) rfl rfl w.heap.size (bcells hz) rfl rfl 79 Z32 A4.out (Tryd.size24 hz L32) (by rw [bcells_size hz L32]; rfl) (bcells_one hz) ?_)
  exact bodyPost_ret (results_cell_row rfl _ _ w.heap.size 79 (bcells hz) (0, 0) (.array 32 5) rfl (setRow_heap _ _ _ _ 79 _ A4.out) Tryd.underlying79 rfl (Tryd.size24 hz L32)) rfl ⟨rfl, below_setRow B4.out (Nat.le_refl _) _⟩

end Go.Proofs.YtgmefdmeeihgoaaDoor

namespace Go.Proofs.YtgmefdmeeihgoaaDoor
open Go.RowKit
set_option linter.unusedVariables false

theorem out_zero32 (w : World) : Out32 w (w.alloc (.cells #[] 23)) (.slice (some ⟨w.heap.size, 0, none⟩) 0 0) [] :=
  ⟨⟨rfl, .inr ⟨w.heap.size, 0, #[], rfl, Nat.le_refl _, heap_alloc_new w _, Nat.le_refl _, by unfold maxLen; omega, rfl, rfl⟩⟩, (Below.refl _ _).alloc (Nat.le_refl _) _⟩
theorem Out32.cell {W0 wr : World} {g cap n : Nat} {L : List Int} (h : Out32 W0 wr (.slice (some ⟨g, 0, none⟩) n cap) L) (j : Nat) (hj : j < L.length) : wr.cell? ⟨g, j, none⟩ = some (.int .u32 (L[j]?.getD 0)) ∧ wr.frozen? ⟨g, j, none⟩ = false := by
  have hn : n = L.length := by
    rcases h.1.2 with ⟨e, _⟩ | ⟨g, cap, cur, e, hb, _⟩
    · cases e
    · injection e
  subst hn
  refine ⟨?_, h.1.frozenAt j⟩
  rw [h.1.cellAt j (by omega), List.getElem?_map, List.getElem?_eq_getElem hj]
  rfl
theorem Out32.set {W0 wr : World} {g cap n : Nat} {L : List Int} (h : Out32 W0 wr (.slice (some ⟨g, 0, none⟩) n cap) L) (hg : W0.heap.size ≤ g) (j : Nat) (x : Int) : Out32 W0 (wr.setCell ⟨g, j, none⟩ (.int .u32 x)) (.slice (some ⟨g, 0, none⟩) n cap) (L.set j x) := by
  have hn : n = L.length := by
    rcases h.1.2 with ⟨e, _⟩ | ⟨g, cap, cur, e, hb, _⟩
    · cases e
    · injection e
  subst hn
  refine ⟨?_, h.2.setCell hg _⟩
  have := (h.1.stored j (.int .u32 x)).1
  rw [List.length_set, List.map_set]
  exact this
theorem Out32.drewN {W0 wr : World} {V : Value} {L : List Int} (h : Out32 W0 wr V L) (q : Nat) : Out32 W0 (wr.drewN q) V L := ⟨h.1, { h.2 with }⟩

end Go.Proofs.YtgmefdmeeihgoaaDoor

namespace Go.Proofs.YtgmefdmeeihgoaaDoor
open Go.RowKit
set_option linter.unusedVariables false

theorem num4 (a b c d : Int) (ha : 0 ≤ a ∧ a ≤ 255) (hb : 0 ≤ b ∧ b ≤ 255) (hc : 0 ≤ c ∧ c ≤ 255) (hd : 0 ≤ d ∧ d ≤ 255) : numZ 0 [a, b, c, d] = (((a * 256 + b) * 256 + c) * 256 + d, true) := by
  have B : B56 = 72057594037927936 := rfl
  rw [numZ, if_neg (by omega), numZ, if_neg (by omega), numZ, if_neg (by omega), numZ, if_neg (by omega), numZ]
  rw [show (0 : Int) * 256 + a = a by omega]
theorem four_of {zs : List Int} {i : Nat} (h : i + 4 ≤ zs.length) : (zs.drop i).take 4 = [zs[i]?.getD 0, zs[i + 1]?.getD 0, zs[i + 2]?.getD 0, zs[i + 3]?.getD 0] := by
  apply List.ext_getElem?
  intro j
  rw [List.getElem?_take]
  rcases j with _ | _ | _ | _ | j
  · simp [List.getElem?_eq_getElem (show i < zs.length by omega)]
  · simp [List.getElem?_eq_getElem (show i + 1 < zs.length by omega)]
  · simp [List.getElem?_eq_getElem (show i + 2 < zs.length by omega)]
  · simp [List.getElem?_eq_getElem (show i + 3 < zs.length by omega)]
  · simp
    omega
theorem num_word {zs : List Int} (h : ∀ x ∈ zs, 0 ≤ x ∧ x ≤ 255) (i : Nat) (hi : i + 4 ≤ zs.length) : numZ 0 ((zs.drop i).take 4) = (wordZ zs i, true) := by
  have g : ∀ k : Nat, 0 ≤ zs[k]?.getD 0 ∧ zs[k]?.getD 0 ≤ 255 := by
    intro k
    rcases Nat.lt_or_ge k zs.length with hk | hk
    · rw [List.getElem?_eq_getElem hk]
      exact h _ (List.getElem_mem hk)
    · rw [List.getElem?_eq_none hk]
      simp
  rw [four_of hi, num4 _ _ _ _ (g _) (g _) (g _) (g _)]
  rfl
theorem words_all {b : List Int} (h : ∀ x ∈ b, 0 ≤ x ∧ x ≤ 255) (k i : Nat) : W32 ((wordsZ8 b k)[i]?.getD 0) := by
  generalize hl : wordsZ8 b k = l
  have hr := words_range h k
  rw [hl] at hr
  rcases Nat.lt_or_ge i l.length with h | h
  · rw [List.getElem?_eq_getElem h]
    exact hr _ (List.getElem_mem h)
  · rw [List.getElem?_eq_none h]
    unfold W32
    simp

/-- Where through's loops over the words stand. -/
def WrdAt (w wr : World) (l : List Int) : Prop := Blk wr w.heap.size 128 (wcells l) ∧ Below w.heap.size w wr
theorem WrdAt.start (w : World) : WrdAt w (w.alloc (.cells Z64 128)) [] := ⟨Blk.new w _ _, (Below.refl _ _).alloc (Nat.le_refl _) _⟩
theorem WrdAt.drewN {w wr : World} {l : List Int} (h : WrdAt w wr l) (q : Nat) : WrdAt w (wr.drewN q) l := ⟨h.1, { h.2 with }⟩
theorem WrdAt.next {w wr : World} {l : List Int} (h : WrdAt w wr l) (x : Int) (k : Nat) (hk : k = l.length) (hl : k < 64) : WrdAt w (wr.setCell ⟨w.heap.size, k, none⟩ (.int .u32 x)) (l ++ [x]) := by
  subst hk
  refine ⟨?_, h.2.setCell (Nat.le_refl _) _⟩
  rw [← wcells_set l x hl]
  exact h.1.set _ _

/-- The first cells of a block stay. -/
def KeepB (g n : Nat) (a b : World) : Prop := ∀ i, i < n → b.cell? ⟨g, i, none⟩ = a.cell? ⟨g, i, none⟩
theorem KeepB.refl (g n : Nat) (w : World) : KeepB g n w w := fun _ _ => rfl
theorem KeepB.trans {g n : Nat} (a b c : World) (h : KeepB g n a b) (k : KeepB g n b c) : KeepB g n a c := fun i hi => (k i hi).trans (h i hi)
theorem KeepB.set (g n k : Nat) (w : World) (v : Value) (h : n ≤ k) : KeepB g n w (w.setCell ⟨g, k, none⟩ v) := fun i hi => World.cell?_setCell_other _ _ _ _ (fun e => by injection e with _ e; omega)
theorem list_range {v : V8} (h : v.ok) : ∀ x ∈ v.list, 0 ≤ x ∧ x ≤ 4294967295 := by
  obtain ⟨ha, hb, hc, hd, he, hf, hg, hh⟩ := h
  intro x hx
  simp only [V8.list, List.mem_cons, List.not_mem_nil, or_false] at hx
  rcases hx with rfl | rfl | rfl | rfl | rfl | rfl | rfl | rfl
  all_goals assumption
/-- Where through's loop over the rounds stands. -/
def RndAt (w wr : World) (g3 : Nat) (V : Value) (s : V8) (l : List Int) : Prop :=
  Out32 w wr V s.list ∧ WrdAt w wr l ∧ Row32 wr (some ⟨g3, 0, none⟩) 64 CONSTS ∧ w.heap.size < wr.heap.size ∧ ∃ g cap, V = .slice (some ⟨g, 0, none⟩) 8 cap ∧ w.heap.size ≤ g
theorem RndAt.drewN {w wr : World} {g3 : Nat} {V : Value} {s : V8} {l : List Int} (h : RndAt w wr g3 V s l) (q : Nat) : RndAt w (wr.drewN q) g3 V s l :=
  ⟨h.1.drewN q, h.2.1.drewN q, h.2.2.1, h.2.2.2⟩
theorem words8_own (w wr : World) (s : V8) (hb : Below w.heap.size w wr) : Out32 w (wr.alloc (.cells s.cells 23)) (.slice (some ⟨wr.heap.size, 0, none⟩) 8 8) s.list :=
  ⟨⟨rfl, .inr ⟨wr.heap.size, 8, s.cells, rfl, hb.size, heap_alloc_new wr _, Nat.le_refl _, by unfold maxLen; omega, rfl, rfl⟩⟩, hb.alloc hb.size _⟩
theorem RndAt.next {w wr : World} {g3 : Nat} {V : Value} {s : V8} {l : List Int} (h : RndAt w wr g3 V s l) (s1 : V8) : RndAt w (wr.alloc (.cells s1.cells 23)) g3 (.slice (some ⟨wr.heap.size, 0, none⟩) 8 8) s1 l := by
  have hb := h.2.1.2
  have ba : Below wr.heap.size wr (wr.alloc (.cells s1.cells 23)) := (Below.refl _ _).alloc (Nat.le_refl _) _
  refine ⟨words8_own w wr s1 hb, ⟨h.2.1.1.alloc _, hb.alloc hb.size _⟩, h.2.2.1.below ba, Nat.lt_of_lt_of_le h.2.2.2.1 ba.size, wr.heap.size, 8, rfl, hb.size⟩
theorem RndAt.facts {w wr : World} {g3 g cap : Nat} {s : V8} {l : List Int} (h : RndAt w wr g3 (.slice (some ⟨g, 0, none⟩) 8 cap) s l) (k : Nat) (hk : k < 64) :
    wr.cell? ⟨g, 0, none⟩ = some (.int .u32 s.a) ∧ wr.cell? ⟨g, 1, none⟩ = some (.int .u32 s.b) ∧ wr.cell? ⟨g, 2, none⟩ = some (.int .u32 s.c) ∧ wr.cell? ⟨g, 3, none⟩ = some (.int .u32 s.d) ∧
    wr.cell? ⟨g, 4, none⟩ = some (.int .u32 s.e) ∧ wr.cell? ⟨g, 5, none⟩ = some (.int .u32 s.f) ∧ wr.cell? ⟨g, 6, none⟩ = some (.int .u32 s.g) ∧ wr.cell? ⟨g, 7, none⟩ = some (.int .u32 s.h) ∧
    wr.cell? ⟨w.heap.size, k, none⟩ = some (.int .u32 (l[k]?.getD 0)) ∧ wr.cell? ⟨g3, k, none⟩ = some (.int .u32 (CONSTS[k]?.getD 0)) := by
  refine ⟨(h.1.cell 0 (by show 0 < 8; omega)).1, (h.1.cell 1 (by show 1 < 8; omega)).1, (h.1.cell 2 (by show 2 < 8; omega)).1, (h.1.cell 3 (by show 3 < 8; omega)).1, (h.1.cell 4 (by show 4 < 8; omega)).1, (h.1.cell 5 (by show 5 < 8; omega)).1, (h.1.cell 6 (by show 6 < 8; omega)).1, (h.1.cell 7 (by show 7 < 8; omega)).1, (h.2.1.1.cell k).trans (wcells_get l k hk), ?_⟩
  obtain ⟨_, _, hgo, _, hcc⟩ := h.2.2.1.2.2 (by omega)
  injection hgo with hgo
  injection hgo with hgo1 hgo2
  subst hgo1 hgo2
  have e := hcc k hk
  rw [Nat.zero_add] at e
  exact e
theorem mixed_set (A B : List Int) (k : Nat) (hA : A.length = 8) (hB : B.length = 8) (hk : k < 8) : (A.take k ++ B.drop k).set k (A[k]?.getD 0) = A.take (k + 1) ++ B.drop (k + 1) := by
  have ht : (A.take k).length = k := by rw [List.length_take]; omega
  rw [List.set_append_right _ _ (by omega), ht, Nat.sub_self, List.drop_eq_getElem_cons (show k < B.length by omega), List.set_cons_zero, List.getElem?_eq_getElem (show k < A.length by omega), List.take_succ_eq_append_getElem (show k < A.length by omega), List.append_assoc]
  rfl
theorem mixed_get (A B : List Int) (k : Nat) (hA : A.length = 8) (hB : B.length = 8) (hk : k < 8) : (A.take k ++ B.drop k)[k]?.getD 0 = B[k]?.getD 0 := by
  have ht : (A.take k).length = k := by rw [List.length_take]; omega
  rw [List.getElem?_append_right (by omega), ht, Nat.sub_self, List.getElem?_drop, Nat.add_zero]
theorem addV_get (s v : V8) (k : Nat) (hk : k < 8) : (addV s v).list[k]?.getD 0 = m32 (s.list[k]?.getD 0 + v.list[k]?.getD 0) := by
  rcases k with _ | _ | _ | _ | _ | _ | _ | _ | k
  all_goals first | (exfalso; omega) | rfl

theorem wraps4 (A B C D : Int) : IntKind.u32.wrap (IntKind.u32.wrap (IntKind.u32.wrap (A + B) + C) + D) = m32 (A + B + C + D) := by
  simp only [IntKind.wrap_u32]
  unfold m32
  omega
end Go.Proofs.YtgmefdmeeihgoaaDoor

namespace Go.Proofs.YtgmefdmeeihgoaaDoor
open Go.RowKit
set_option linter.unusedVariables false

theorem H0_lit : (⟨0x6a09e667, 0xbb67ae85, 0x3c6ef372, 0xa54ff53a, 0x510e527f, 0x9b05688c, 0x1f83d9ab, 0x5be0cd19⟩ : V8) = H0 := rfl
theorem out_at (v : V8) (q : Nat) (hq : q < 8) : (outV v)[4 * q]?.getD 0 = v.list[q]?.getD 0 / 16777216 % 256 ∧ (outV v)[4 * q + 1]?.getD 0 = v.list[q]?.getD 0 / 65536 % 256 ∧ (outV v)[4 * q + 2]?.getD 0 = v.list[q]?.getD 0 / 256 % 256 ∧ (outV v)[4 * q + 3]?.getD 0 = v.list[q]?.getD 0 % 256 := by
  have e : outV v = beZ 4 v.a ++ beZ 4 v.b ++ beZ 4 v.c ++ beZ 4 v.d ++ beZ 4 v.e ++ beZ 4 v.f ++ beZ 4 v.g ++ beZ 4 v.h := by
    unfold outV V8.list
    simp
  rw [e, be4, be4, be4, be4, be4, be4, be4, be4]
  rcases q with _ | _ | _ | _ | _ | _ | _ | _ | q
  all_goals first | (exfalso; omega) | exact ⟨rfl, rfl, rfl, rfl⟩
theorem out_len (v : V8) : (outV v).length = 32 := by
  unfold outV V8.list
  simp [beZ_length]
theorem take_next (l : List Int) (k : Nat) (hk : k < l.length) : l.take (k + 1) = l.take k ++ [l[k]?.getD 0] := by
  rw [List.take_succ_eq_append_getElem hk, List.getElem?_eq_getElem hk]
  rfl

theorem Row32.setFar {w : World} {g S n j : Nat} {zs : List Int} {v : Value} (h : Row32 w (some ⟨g, 0, none⟩) n zs) (hne : g ≠ S) (hn : 0 < n) : Row32 (w.setCell ⟨S, j, none⟩ v) (some ⟨g, 0, none⟩) n zs := by
  refine ⟨h.1, h.2.1, fun _ => ?_⟩
  obtain ⟨b, off, e, hb, hc⟩ := h.2.2 hn
  injection e with e
  injection e with e1 e2
  subst e1 e2
  refine ⟨g, 0, rfl, by simpa using hb, fun i hi => ?_⟩
  rw [World.cell?_setCell_other _ _ _ _ (fun e => by injection e with e; exact hne e.symm)]
  exact hc i hi
theorem SumAt.put {w wr : World} {S : Nat} {L : List Int} {k : Nat} (h : SumAt w wr S (L.take k)) (hL : L.length = 32) (hk : k < 32) (hS : w.heap.size < S) : SumAt w (wr.setCell ⟨S, k, none⟩ (.int .u8 (L[k]?.getD 0))) S (L.take (k + 1)) := by
  refine ⟨h.1.far (by omega) _ _, ?_, h.2.2.setCell (by show w.heap.size ≤ S; omega) _⟩
  have ht : (L.take k).length = k := by rw [List.length_take]; omega
  have e := h.2.1.set k (.int .u8 (L[k]?.getD 0))
  rw [bcells_set _ _ _ ht.symm (by omega), ← take_next L k (by omega)] at e
  exact e
/-- Where the reference's Of stands, going through the blocks. -/
def GoAt (w wr : World) (af : Option Addr) (cf : Nat) (fl : List Int) (V : Value) (s : V8) : Prop :=
  (∃ g cap, V = .slice (some ⟨g, 0, none⟩) 8 cap ∧ Row32 wr (some ⟨g, 0, none⟩) 8 s.list) ∧ Row wr af fl.length fl ∧ Blk wr w.heap.size 79 Z32 ∧ Below w.heap.size w wr ∧ w.heap.size < wr.heap.size

end Go.Proofs.YtgmefdmeeihgoaaDoor

namespace Go.Proofs.YtgmefdmeeihgoaaDoor
open Go.RowKit

/-- The digit of a half byte. -/
def hd (v : Int) : Int := if v < 10 then 48 + v else 87 + v

/-- Hex' answer, as the numbers of its letters. -/
def hexZ : List Int → List Int
  | [] => []
  | x :: xs => hd (x / 16) :: hd (x % 16) :: hexZ xs

theorem hexZ_append (xs ys : List Int) : hexZ (xs ++ ys) = hexZ xs ++ hexZ ys := by
  induction xs with
  | nil => rfl
  | cons x xs ih => simp [hexZ, ih]

theorem hexZ_length (xs : List Int) : (hexZ xs).length = 2 * xs.length := by
  induction xs with
  | nil => rfl
  | cons x xs ih => simp [hexZ, ih]; omega

theorem take_snoc {zs : List Int} {k : Nat} (h : k < zs.length) : zs.take (k + 1) = zs.take k ++ [zs[k]?.getD 0] := by
  rw [List.take_succ_eq_append_getElem h]
  simp [List.getElem?_eq_getElem h]

theorem hexZ_take {zs : List Int} {k : Nat} (h : k < zs.length) : hexZ (zs.take (k + 1)) = hexZ (zs.take k) ++ [hd (zs[k]?.getD 0 / 16)] ++ [hd (zs[k]?.getD 0 % 16)] := by
  rw [take_snoc h, hexZ_append]
  simp [hexZ]

/-- The world in a call of Hex: the variable 'text' lies in the second new block and owns the letters L. -/
def Inv (w wr : World) (L : List Int) : Prop :=
  ∃ g cap, wr.heap[w.heap.size + 1]? = some (.cells #[.slice (some ⟨g, 0, none⟩) L.length cap] 22 (0, 0)) ∧
    wr.ownsRow w.heap.size 5 1 (.slice (some ⟨g, 0, none⟩) L.length cap) L.length (L.map (Value.int .u8)) ∧ Below w.heap.size w wr

theorem digit_at (v : Int) (h0 : 0 ≤ v) (h1 : v ≤ 15) (W : World) :
    (Instr.index 9 (.string ⟨#[48, 49, 50, 51, 52, 53, 54, 55, 56, 57, 97, 98, 99, 100, 101, 102]⟩) (.int .u8 v)).run Tryd.prog W = .ok (.int .u8 (hd v)) W := by
  obtain ⟨k, rfl⟩ := Int.eq_ofNat_of_zero_le h0
  have hk : k ≤ 15 := by omega
  clear h0 h1
  rw [run_index_string W 9 _ .u8 _ Tryd.underlying9, dif_pos ⟨by omega, by simp only [ByteArray.size_mk']; simp; omega⟩]
  congr 2
  rcases k with _ | _ | _ | _ | _ | _ | _ | _ | _ | _ | _ | _ | _ | _ | _ | _ | k
  all_goals first | rfl | (exfalso; omega)

/-- A row of bytes that is owned does not lie in the block of the variable. -/
theorem own_ne {w : World} {base B g n cap : Nat} {xs : List Value} {V : Value} (hv : w.heap[B]? = some (.cells #[V] 22 (0, 0))) (hown : w.ownsRow base 5 1 (.slice (some ⟨g, 0, none⟩) n cap) n xs) : g ≠ B := by
  rintro rfl
  rcases hown.2 with ⟨h, _⟩ | ⟨g', cap', cur, h, _, hg, _⟩
  · cases h
  · simp only [Value.slice.injEq, Option.some.injEq, Addr.mk.injEq, and_true, true_and] at h
    obtain ⟨rfl, rfl⟩ := h
    rw [hv] at hg
    injection hg with hg
    injection hg with _ ht
    cases ht

theorem put_kept {wr w1 : World} {base B g n cap : Nat} {xs : List Value} {V : Value} {o : Obj} (hv : wr.heap[B]? = some (.cells #[V] 22 (0, 0))) (hown : wr.ownsRow base 5 1 (.slice (some ⟨g, 0, none⟩) n cap) n xs)
    (hg : (wr.alloc o).drew.grownBy w1 (Value.slice (some ⟨g, 0, none⟩) n cap).ownBlock) : w1.heap[B]? = some (.cells #[V] 22 (0, 0)) := by
  have hlt := lt_of_block hv
  have hne := own_ne hv hown
  rw [hg.block B (by show B < (wr.alloc o).heap.size; simp; omega) (by simp [Value.ownBlock]; omega)]
  exact (Below.heap_alloc wr o B hlt).trans hv

theorem put_end {w wr w1 : World} {L : List Int} {g cap g1 cap1 : Nat} {v : Int} {o : Obj} {V : Value} (hv : wr.heap[w.heap.size + 1]? = some (.cells #[V] 22 (0, 0)))
    (hown : wr.ownsRow w.heap.size 5 1 (.slice (some ⟨g, 0, none⟩) L.length cap) L.length (L.map (Value.int .u8))) (hb : Below w.heap.size w wr)
    (hown1 : w1.ownsRow w.heap.size 5 1 (.slice (some ⟨g1, 0, none⟩) (L.length + 1) cap1) (L.length + 1) (L.map (Value.int .u8) ++ [Value.int .u8 (hd v)]))
    (hg : (wr.alloc o).drew.grownBy w1 (Value.slice (some ⟨g, 0, none⟩) L.length cap).ownBlock) :
    Inv w (w1.setCell ⟨w.heap.size + 1, 0, none⟩ (.slice (some ⟨g1, 0, none⟩) (L.length + 1) cap1)) (L ++ [hd v]) := by
  have hv1 := put_kept hv hown hg
  have hne := own_ne hv1 hown1
  have e : (L ++ [hd v]).length = L.length + 1 := by simp
  refine ⟨g1, cap1, ?_, ?_, ?_⟩
  · rw [e]
    exact one_setCell hv1
  · rw [e, List.map_append]
    exact ownsRow_setCell_other hown1 (by simp [Value.ownBlock]; omega) _
  · refine Below.setCell ?_ (Nat.le_succ _) _
    exact ((hb.alloc hb.size o).drew).grown hg (by show w.heap.size ≤ (wr.alloc o).heap.size; have := hb.size; simp; omega) (fun k hk => by simp [Value.ownBlock] at hk; subst hk; exact (hown.lt _ rfl).1)

set_option maxHeartbeats 400000 in
theorem put_any (w wr : World) (L : List Int) (v : Int) (h0 : 0 ≤ v) (h1 : v ≤ 15) (hi : Inv w wr L) (hl : L.length ≤ 1000000) :
    Calls Tryd.prog 76 #[.int .u8 v, .pointer (some ⟨w.heap.size + 1, 0, none⟩)] wr fun e w' => e = .returned (.tuple #[]) ∧ Inv w w' (L ++ [hd v]) := by
  obtain ⟨i0, hi5, hz0, hz1, hz2⟩ := info_parts Tryd.infoByte
  obtain ⟨g, cap, hv, hown, hb⟩ := hi
  have hc := cell_of_one hv
  have hf := free_of_one hv
  have hca : ∀ o, (wr.alloc o).cell? ⟨w.heap.size + 1, 0, none⟩ = some (.slice (some ⟨g, 0, none⟩) L.length cap) := fun o => (World.cell?_alloc_lt wr o _ (lt_of_block hv)).trans hc
  have HV := Lib.hid hv
  clear hv
  have hdig := digit_at v h0 h1
  have hlt := hb.size
  go_enter Tryd.func76, Tryd.ntmps76
  go_region_law (refine step_append_lies _ rfl _ _ 22 rfl w.heap.size 5 i0 (.int .u8 0) 1 1 Tryd.underlying22 hi5 hz0 hz1 hz2 rfl (by decide) _ L.length (L.map (Value.int .u8)) rfl (hown.alloc _) ⟨wr.heap.size, 0, none⟩ 1 1 [.int .u8 (hd v)] rfl rfl (cell_one_new _ _ _) (by simp [Value.oneCell']) (by decide) (by unfold maxLen; omega) (by omega) (by simp; omega) (wr.heap.size + 1) (by simp) ?_; intro g1 cap1 w1 hown1 hgrow1 _ _; have hc1 := cell_of_one (put_kept HV.out hown hgrow1); have hf1 := free_of_one (put_kept HV.out hown hgrow1))
  all_goals go_end0
  all_goals exact ⟨rfl, put_end HV.out hown hb (by assumption) (by assumption)⟩

/-- Hex' first two new blocks. -/
theorem hex_start (w : World) (c : Nat) (hc : c ≤ 1000000) :
    Inv w ((w.alloc (.cells (madeCells #[.int .u8 0] c) 5)).alloc (.cells #[.slice (some ⟨w.heap.size, 0, none⟩) 0 c] 22)) [] := by
  refine ⟨w.heap.size, c, ?_, ?_, ((Below.refl _ _).alloc (Nat.le_refl _) _).alloc (by simp) _⟩
  · have := heap_alloc_new (w.alloc (.cells (madeCells #[.int .u8 0] c) 5)) (.cells #[.slice (some ⟨w.heap.size, 0, none⟩) 0 c] 22)
    simpa using this
  · exact World.ownsRow.alloc (World.ownsRow_made w _ c (Nat.le_refl _) (by unfold maxLen; omega) (by rw [size_madeCells]; omega)) _

theorem and15 {x : Int} (h0 : 0 ≤ x) (h1 : x ≤ 255) : bits .and .u8 x 15 = x % 16 := u8_and15 x h0 (by omega)

theorem Inv.read {w wr : World} {L : List Int} (h : Inv w wr L) (hL : ∀ x ∈ L, 0 ≤ x ∧ x ≤ 255) :
    ∃ g cap, wr.cell? ⟨w.heap.size + 1, 0, none⟩ = some (.slice (some ⟨g, 0, none⟩) L.length cap) ∧
      (convert 22 9 (.slice (some ⟨g, 0, none⟩) L.length cap)).run Tryd.prog wr = .ok (.string (strOfNums L)) wr := by
  obtain ⟨g, cap, hv, hown, _⟩ := h
  exact ⟨g, cap, cell_of_one hv, (Row.of_own hown hL).conv 22 9 5 Tryd.underlying22 Tryd.underlying5 Tryd.underlying9⟩

theorem Inv.below {w wr : World} {L : List Int} (h : Inv w wr L) : Below w.heap.size w wr := by
  obtain ⟨_, _, _, _, h⟩ := h
  exact h
theorem Inv.cell_old {w wr : World} {L : List Int} (h : Inv w wr L) {b o : Nat} (hb : b < w.heap.size) : wr.cell? ⟨b, o, none⟩ = w.cell? ⟨b, o, none⟩ := h.below.cell (p := ⟨b, o, none⟩) hb

theorem hd_byte {v : Int} (h0 : 0 ≤ v) (h1 : v ≤ 15) : 0 ≤ hd v ∧ hd v ≤ 255 := by
  unfold hd
  split <;> omega

theorem hexZ_byte : ∀ zs : List Int, (∀ x ∈ zs, 0 ≤ x ∧ x ≤ 255) → ∀ x ∈ hexZ zs, 0 ≤ x ∧ x ≤ 255
  | [], _, x, hx => by simp [hexZ] at hx
  | y :: ys, h, x, hx => by
    have hy := h y (by simp)
    simp only [hexZ, List.mem_cons] at hx
    rcases hx with rfl | rfl | hx
    · exact hd_byte (by omega) (by omega)
    · exact hd_byte (by omega) (by omega)
    · exact hexZ_byte ys (fun z hz => h z (by simp [hz])) x hx

set_option maxHeartbeats 400000 in
theorem hex_any (a : Option Addr) (n ca : Nat) (zs : List Int) (w : World) (hx : Row w a n zs) (hn : n ≤ 10000) :
    Calls Tryd.prog 49 #[.slice a n ca] w fun e w' => e = .returned (.string (strOfNums (hexZ zs))) ∧ Below w.heap.size w w' := by
  have HX := Lib.hid hx
  clear hx
  have hmk := make_bytes (2 * n) (by omega)
  have e2 : ((2 * n : Nat) : Int) = 2 * (n : Int) := by omega
  rw [e2] at hmk
  clear e2
  have HS := Lib.hid (hex_start w (2 * n) (by omega))
  go_enter Tryd.func49, Tryd.ntmps49
  go_wp2
  clear hmk
  go_loopw [13] (fun i wr => ∃ k : Nat, k ≤ n ∧ i = .int .i64 k ∧ Inv w wr (hexZ (zs.take k))) (fun i _ => n - (intOf i).toNat)
  case atStart => exact ⟨0, Nat.zero_le _, rfl, by simpa [hexZ] using HS.out⟩
  case round =>
    obtain ⟨k, hk, rfl, hinv⟩ := hrel
    have HI := Lib.hid hinv
    clear hinv HS
    have hll : (hexZ (zs.take k)).length ≤ 2 * n := by rw [hexZ_length, List.length_take]; omega
    by_cases hlt : k < n
    · obtain ⟨b1, o1, rfl, hb1, hc1⟩ := HX.out.2.2 (by omega)
      have c0 := hc1 k hlt
      clear hc1
      have bx := HX.out.byte k
      have ST := Lib.hid (hexZ_take (zs := zs) (k := k) (by rw [HX.out.1]; exact hlt))
      generalize zs[k]?.getD 0 = x at c0 bx ST
      generalize hexZ (zs.take k) = L at HI hll ST
      have c1 := (HI.out.cell_old (o := o1 + k) hb1).trans c0
      have ha := and15 bx.1 bx.2
      go_wp2_with fail
      refine (put_any w _ L _ (by omega) (by omega) HI.out (by omega)).mono ?_
      rintro e w2 ⟨rfl, hinv2⟩
      have c2 := (hinv2.cell_old (o := o1 + k) hb1).trans c0
      have HI2 := Lib.hid hinv2
      clear hinv2
      go_wp2_with fail
      refine (put_any w _ _ _ (by omega) (by omega) HI2.out (by simp; omega)).mono ?_
      rintro e w3 ⟨rfl, hinv3⟩
      have HI3 := Lib.hid hinv3
      clear hinv3 ha
      go_wp2
      go_roundw
      case rel => exact ⟨k + 1, by omega, by go_num, by rw [ST.out]; exact HI3.out⟩
      case measure => simp [intOf]; omega
    · have hall : zs.take k = zs := List.take_of_length_le (by rw [HX.out.1]; omega)
      rw [hall] at HI
      clear hll hall
      obtain ⟨g, cap, hc, hconv⟩ := HI.out.read (hexZ_byte zs HX.out.2.1)
      have hbel := HI.out.below
      go_wp2
      go_ret
      exact ⟨rfl, hbel⟩

end Go.Proofs.YtgmefdmeeihgoaaDoor

namespace Go.Proofs.YtgmefdmeeihgoaaDoor
open Go.RowKit

theorem strOfNums_append (xs ys : List Int) : strOfNums (xs ++ ys) = strOfNums xs ++ strOfNums ys := by
  unfold strOfNums
  rw [List.map_append, ByteArray.mk_append_mk]

theorem digit_cut (v : Int) (h0 : 0 ≤ v) (h1 : v ≤ 15) (W : World) :
    (Instr.slice 9 (.string ⟨#[48, 49, 50, 51, 52, 53, 54, 55, 56, 57, 97, 98, 99, 100, 101, 102]⟩) (some (.int .u8 v)) (some (.int .u8 (v + 1))) none).run Tryd.prog W = .ok (.string (strOfNums [hd v])) W := by
  obtain ⟨k, rfl⟩ := Int.eq_ofNat_of_zero_le h0
  have hk : k ≤ 15 := by omega
  clear h0 h1
  rcases k with _ | _ | _ | _ | _ | _ | _ | _ | _ | _ | _ | _ | _ | _ | _ | _ | k
  all_goals first | (exfalso; omega) | (rw [run_slice_string W 9 _ .u8 .u8 _ _ Tryd.underlying9 (by decide) (by decide) (by decide)]; rfl)

theorem hex_str {zs : List Int} {k : Nat} (h : k < zs.length) {x : Int} (hx : x = zs[k]?.getD 0) :
    strOfNums (hexZ (zs.take k)) ++ strOfNums [hd (x / 16)] ++ strOfNums [hd (x % 16)] = strOfNums (hexZ (zs.take (k + 1))) := by
  rw [hexZ_take h, hx, strOfNums_append, strOfNums_append]

end Go.Proofs.YtgmefdmeeihgoaaDoor

namespace Go.Proofs.YtgmefdmeeihgoaaDoor
open Go.RowKit
set_option linter.unusedVariables false

theorem Tryd.info5s : (Tryd.prog.info? 5).isSome = true := by kernel_rfl
theorem Tryd.cells5 : Tryd.prog.cellsOf 5 = 1 := by kernel_rfl
theorem part5 (xs : Array Value) (j : Nat) (v : Int) (h : xs[j]? = some (.int .u8 v)) (w : World) : (part 5 xs j).run Tryd.prog w = .ok (.int .u8 v) w := by
  simp [part, h, go_sem]
theorem eq_items (zs : List Int) (w : World) : ∀ js : List Nat, (∀ j ∈ js, j < 32) → (Op.eqItems 9999 5 1 (bcells zs) (bcells zs) js).run Tryd.prog w = .ok true w := by
  intro js
  induction js with
  | nil => intro _; simp [Op.eqItems]
  | cons j js ih =>
    intro h
    have hj := bcells_get zs j (h j (by simp))
    have q : ∀ (a b : Int) (w : World), (Op.equalIn 9999 5 (.int .u8 a) (.int .u8 b)).run Tryd.prog w = .ok (a == b) w := fun a b w => run_equalIn_int w 9998 5 .u8 .u8 a b Tryd.underlying5
    simp only [Op.eqItems, Sem.run_bind, Nat.mul_one, part5 _ j _ hj, q, Result.andThen_ok]
    simpa using ih (fun i hi => h i (by simp [hi]))
theorem same_hash (zs : List Int) (w : World) : (Op.equalIn 10000 79 (.agg (bcells zs)) (.agg (bcells zs))).run Tryd.prog w = .ok true w := by
  obtain ⟨i0, hi⟩ := Option.isSome_iff_exists.1 Tryd.info5s
  rw [run_equalIn_array w 9999 _ _ Tryd.underlying79 hi, Tryd.cells5]
  exact eq_items zs w _ (fun j hj => List.mem_range.1 hj)

theorem hash_row {w : World} {S : Nat} {hz : List Int} (h : Blk w S 79 (bcells hz)) (hl : hz.length = 32) (hb : ∀ x ∈ hz, 0 ≤ x ∧ x ≤ 255) : Row w (some ⟨S, 0, none⟩) 32 hz :=
  ⟨hl, hb, fun _ => ⟨S, 0, rfl, h.lt, fun i hi => by rw [Nat.zero_add]; exact (h.cell i).trans (bcells_get hz i hi)⟩⟩

def GivesStr (zs : List Int) (w : World) (e : Ending) (w' : World) : Prop := e = .returned (.string (strOfNums zs)) ∧ Below w.heap.size w w'
set_option maxHeartbeats 500000 in
set_option maxRecDepth 100000 in
theorem name_any (a : Option Addr) (n ca : Nat) (zs : List Int) (w : World) (hr : Row w a n zs) (hca : n ≤ ca) (hn : n ≤ 100000) (ht : Tab w) :
    Calls Tryd.prog 27 #[.slice a n ca] w (GivesStr (hexZ ((hashZ zs).take 20)) w) := by
  have CO := Lib.hid (hof_any a n ca zs w hr hca hn ht)
  have HL := hash_len zs
  have HB := Lib.hid (hash_byte zs)
  clear hr ht
  generalize hashZ zs = hz at *
  have L32 : hz.length ≤ 32 := by omega
  go_enter Tryd.func27, Tryd.ntmps27
  go_wp2_with fail
  refine CO.out.mono ?_
  rintro e w1 ⟨rfl, hb1⟩
  have S1 := Lib.hid (Blk.new w1 79 Z32)
  have B1 := Lib.hid (below_setRow (hb1.alloc hb1.size (.cells Z32 79)) hb1.size (bcells hz))
  have K1 : Hid (Blk ((w1.alloc (.cells Z32 79)).setRow w1.heap.size (bcells hz)) w1.heap.size 79 (bcells hz)) := Lib.hid (setRow_heap _ _ _ _ _ _ S1.out)
  clear hb1 CO
  go_wp2_with (first
    | (refine Great.wpList_allocTo rfl (some 3) rfl (.pointer (some ⟨w1.heap.size, 0, none⟩)) (.cells Z32 79) rfl ?_)
    | (refine wpList_store_rowTo rfl 79 (.tmp 3) (.tmp 5) rfl rfl w1.heap.size (bcells hz) rfl rfl 79 Z32 S1.out (Tryd.size24 hz L32) (by rw [bcells_size hz L32]; rfl) (bcells_one hz) ?_))
  generalize (w1.alloc (.cells Z32 79)).setRow w1.heap.size (bcells hz) = w2 at *
  refine (hex_any (some ⟨w1.heap.size, 0, none⟩) 20 32 (hz.take 20) w2 ((hash_row K1.out HL HB.out).first 20 (by omega)) (by omega)).mono ?_
  rintro e w3 ⟨rfl, hb3⟩
  have B3 := Lib.hid (Below.step B1.out hb3)
  clear hb3
  go_wp2_with fail
  go_ret
  exact ⟨rfl, B3.out⟩
end Go.Proofs.YtgmefdmeeihgoaaDoor

namespace Go.Proofs.YtgmefdmeeihgoaaDoor
open Go.RowKit
set_option linter.unusedVariables false
set_option linter.unusedSimpArgs false

theorem KeyAt.drew {w : World} {a : Option Addr} {n c : Nat} {e : Int} {ns : List Int} (h : KeyAt w a n c e ns) : KeyAt w.drew a n c e ns := h.below (w := w) (w' := w.drew) (Below.refl _ _).drew

set_option maxHeartbeats 2000000 in
theorem inner_any (a : Option Addr) (n c : Nat) (e : Int) (ns : List Int) (w : World) (hk : KeyAt w a n c e ns) (hn : n ≤ 100000) : Calls Tryd.prog 16 #[.agg #[.slice a n c, .int .u32 e]] w (GivesWr (innerZ ns e) w) := by
  have b1 : Below w.heap.size w (w.alloc (.cells #[.slice a n c, .int .u32 e] 25)) := (Below.refl _ _).alloc (Nat.le_refl _) _
  have X1 := Lib.hid (key_box w a n c e)
  have K1 := Lib.hid (hk.below b1)
  have he0 := hk.2.2.2.1
  have he1 := hk.2.2.2.2
  have hln := hk.1.1
  have CR := Lib.hid (kright_any a n c e ns _ K1.out (by omega))
  have B1 := Lib.hid b1
  have c0 := X1.out.cell 0
  have c1 := X1.out.cell 1
  simp only [List.getElem?_toArray, List.getElem?_cons_succ, List.getElem?_cons_zero] at c0 c1
  clear b1 hk
  go_enter Tryd.func16, Tryd.ntmps16
  generalize hw1 : w.alloc (.cells #[.slice a n c, .int .u32 e] 25) = w1 at *
  go_wp2_with fail
  refine CR.out.mono ?_
  rintro e1 w2 ⟨rfl, hb2⟩
  have X2 := Lib.hid (X1.out.below hb2 X1.out.lt)
  have K2 := Lib.hid (K1.out.below hb2)
  have B2 := Lib.hid (B1.out.trans (hb2.mono B1.out.size))
  clear CR X1 K1 B1 hb2 hw1 c0 c1
  cases hrt : rightZ ns e
  · have F : Hid (innerZ ns e = ([], 1)) := by unfold innerZ; rw [hrt]; exact Lib.hid rfl
    clear hrt
    go_wp2_with fail
    go_ret2
    exact gives_none' F.out B2.out
  have hl := (right_len hrt).2
  have F : Hid (innerZ ns e = writeZ (innerT ns e)) := by
    unfold innerZ
    rw [if_pos hrt, inner_writes e (by omega)]
    exact Lib.hid rfl
  have hwi := wt_inner ns e
  clear hrt
  have hwr : IntKind.u64.wrap e = e := by rw [IntKind.wrap_u64]; omega
  go_wp2_with fail
  have l0 : ∀ W, Ext w2.drew W → W.cell? ⟨w.heap.size, 0, none⟩ = some (.slice a n c) := cell_later (X2.out.cell 0)
  have l1 : ∀ W, Ext w2.drew W → W.cell? ⟨w.heap.size, 1, none⟩ = some (.int .u32 e) := cell_later (X2.out.cell 1)
  refine wp_region_ord Ext Ext.refl (fun _ _ _ => Ext.trans) ((0, false) :: (1, false) :: (3, false) :: (4, false) :: (5, false) :: (2, true) :: (6, true) :: (7, true) :: (8, true) :: (9, true) :: (10, false) :: (11, false) :: (12, false) :: (13, false) :: []) (by kernel_rfl) (by kernel_rfl) rfl (by kernel_rfl) (fun _ _ _ _ _ h => h) ?_
  repeat (refine ord_take _ rfl (by rfl) (fun W hW => by go_simp; first | done | rfl) ?_; simp only [Act.put, List.setIfInBounds_toArray, List.set_cons_zero, List.set_cons_succ])
  clear l0 l1 X2
  have B3 : Hid (Below w.heap.size w w2.drew) := B2.out.drew
  have K3 := Lib.hid K2.out.drew
  clear B2 K2
  generalize w2.drew = w3 at *
  refine ord_sole rfl (by rfl) (fun K1 hK1 => ?_)
  go_simp
  refine (big_any a n c ns w3 K3.out.1 K3.out.2.1 (by omega) K3.out.2.2.1).mono ?_
  rintro e1 w4 ⟨A4, n4, c4, K4, m4, d4, rfl, hin4, hb4⟩
  refine hK1 _ _ hb4 ?_
  have B4 := Lib.hid (B3.out.trans (hb4.mono B3.out.size))
  have I4 := Lib.hid (T.InP.below (Q := Any) (w := w4) (Below.refl _ _) (fun _ _ => trivial) _ hin4)
  clear hK1 K1 B3 K3 hin4 hb4
  refine ord_sole rfl (by rfl) (fun K1 hK1 => ?_)
  go_simp
  refine (int_any e w4 he0 (by omega)).mono ?_
  rintro e1 w5 ⟨A5, n5, c5, K5, m5, d5, rfl, hin5, hb5⟩
  refine hK1 _ _ hb5 ?_
  clear hK1 K1
  have A6 : Below w5.heap.size w5 (w5.alloc (.cells #[.int .i64 (bigT ns).tag, .slice A4 n4 c4, .slice K4 m4 d4, .int .i64 (intT e).tag, .slice A5 n5 c5, .slice K5 m5 d5] 28)) := (Below.refl _ _).alloc (Nat.le_refl _) _
  have E6 := hb5.trans (A6.mono hb5.size)
  have B6 := Lib.hid (B4.out.trans (E6.mono B4.out.size))
  have K6 := Lib.hid (kids_two (P := Any) (Blk.new w5 28 #[.int .i64 (bigT ns).tag, .slice A4 n4 c4, .slice K4 m4 d4, .int .i64 (intT e).tag, .slice A5 n5 c5, .slice K5 m5 d5]) trivial (T.InP.below E6 (fun _ h => h) _ I4.out) (T.InP.below A6 (Q := Any) (fun _ _ => trivial) _ hin5))
  clear hb5 hin5 B4 I4 E6
  refine ord_sole rfl (by rfl) (fun K1 hK1 => ?_)
  go_simp
  refine hK1 _ _ A6 ?_
  clear hK1 K1 A6
  generalize w5.alloc (.cells #[.int .i64 (bigT ns).tag, .slice A4 n4 c4, .slice K4 m4 d4, .int .i64 (intT e).tag, .slice A5 n5 c5, .slice K5 m5 d5] 28) = w6 at *
  generalize w5.heap.size = g9 at *
  refine ord_sole rfl (by rfl) (fun K1 hK1 => ?_)
  go_simp
  refine (sequence_any _ 2 2 w6).mono ?_
  rintro e1 w7 ⟨rfl, hb7⟩
  refine hK1 _ _ hb7 ?_
  have CW := Lib.hid (twrite_big (innerT ns e) _ w7 (T.InP.in _ ((K6.out.below hb7 (fun _ h => h)).node (z := 48) (by decide))) (by omega))
  have B7 := Lib.hid (B6.out.trans (hb7.mono B6.out.size))
  clear hK1 K1 B6 K6 hb7
  refine ord_sole rfl (by rfl) (fun K1 hK1 => ?_)
  go_simp
  refine CW.out.mono ?_
  rintro e1 w8 ⟨a8, c8, rfl, hr8, hn8, hb8, hc8⟩
  refine hK1 _ _ hb8 ?_
  have B8 := Lib.hid (B7.out.trans (hb8.mono B7.out.size))
  have R8 := Lib.hid hr8
  have N8 := Lib.hid hn8
  clear hK1 K1 CW B7 hb8 hr8 hn8
  repeat (refine ord_take _ rfl (by rfl) (fun W hW => by go_simp; first | done | rfl) ?_; simp only [Act.put, List.setIfInBounds_toArray, List.set_cons_zero, List.set_cons_succ])
  refine ord_end ?_
  go_wp2_with fail
  go_ret2
  rw [F.out]
  exact ⟨a8, c8, rfl, R8.out, N8.out, B8.out, hc8⟩

/-- The end of a way that hands back an element that was stored into block g, and an error. -/
theorem gives_boxedE {w W : World} {tmps : Array Value} {fn : Func} {p u : Tmp} {g : Nat} {x y : T × Int} {v0 v1 v2 : Value} {A : Option Addr} {n c : Nat} {K : Option Addr} {m d : Nat} (hxy : y = x) (hf : fn.results = #[.cell p 28, .tmp u]) (hp : tmps.getD p undef = .pointer (some ⟨g, 0, none⟩)) (hu : tmps.getD u undef = .int .i64 x.2) (hblk : Blk W g 28 #[v0, v1, v2]) (hg : w.heap.size ≤ g) (hb : Below w.heap.size w W) (hin : x.1.InP (fun b => w.heap.size ≤ b ∧ b ≠ g) W (.agg #[.int .i64 x.1.tag, .slice A n c, .slice K m d])) :
    bodyPost Tryd.prog fn (GivesNodeE y w) .ret { tmps := tmps, defers := [] } (((W.setCell ⟨g, 0, none⟩ (.int .i64 x.1.tag)).setCell ⟨g, 1, none⟩ (.slice A n c)).setCell ⟨g, 2, none⟩ (.slice K m d)) := by
  subst hxy
  have h1 := ((hblk.set 0 (.int .i64 y.1.tag)).set 1 (.slice A n c)).set 2 (.slice K m d)
  have h2 := hb.trans (three_past (B := w.heap.size) W hg (.int .i64 y.1.tag) (.slice A n c) (.slice K m d))
  have h := results_nodee (P := Tryd.prog) hf tmps _ g 28 _ (0, 0) _ hp h1 Tryd.underlying28 rfl Tryd.sizeNode3
  rw [hu] at h
  have G := three_grow g W (.int .i64 y.1.tag) (.slice A n c) (.slice K m d)
  exact bodyPost_ret h rfl ⟨A, n, c, K, m, d, rfl, T.InP.below (w := _) (Below.refl _ _) (fun b (hb : w.heap.size ≤ b ∧ b ≠ g) => hb.1) _ (hin.grownP (fun b hb => hb.2) G), h2⟩
set_option maxHeartbeats 1000000 in
theorem node_any (a : Option Addr) (n c : Nat) (e : Int) (ns : List Int) (w : World) (hk : KeyAt w a n c e ns) (hn : n ≤ 100000) : Calls Tryd.prog 8 #[.agg #[.slice a n c, .int .u32 e]] w (GivesNodeE (nodeK ns e) w) := by
  have b1 : Below w.heap.size w (w.alloc (.cells #[.slice a n c, .int .u32 e] 25)) := (Below.refl _ _).alloc (Nat.le_refl _) _
  have X1 := (key_box w a n c e).alloc (.cells #[.int .i64 0, .slice none 0 0, .slice none 0 0] 28)
  have b2 := b1.alloc b1.size (.cells #[.int .i64 0, .slice none 0 0, .slice none 0 0] 28)
  have S2 := Blk.new (w.alloc (.cells #[.slice a n c, .int .u32 e] 25)) 28 #[.int .i64 0, .slice none 0 0, .slice none 0 0]
  rw [show (w.alloc (.cells #[.slice a n c, .int .u32 e] 25)).heap.size = w.heap.size + 1 by simp] at S2
  have CI := Lib.hid (inner_any a n c e ns _ (hk.below b2) hn)
  have hln := hk.1.1
  have B2 := Lib.hid b2
  have HS := Lib.hid S2
  have c0 := X1.cell 0
  have c1 := X1.cell 1
  simp only [List.getElem?_toArray, List.getElem?_cons_succ, List.getElem?_cons_zero] at c0 c1
  clear b1 b2 hk X1 S2
  go_enter Tryd.func8, Tryd.ntmps8
  go_wp2_with fail
  generalize hw2 : (w.alloc (.cells #[.slice a n c, .int .u32 e] 25)).alloc (.cells #[.int .i64 0, .slice none 0 0, .slice none 0 0] 28) = w2 at *
  refine CI.out.mono ?_
  rintro e1 w3 ⟨a3, c3, rfl, hr3, hn3, hb3, hc3⟩
  have S3 := Lib.hid (HS.out.below hb3 HS.out.lt)
  have B3 := Lib.hid (B2.out.trans (hb3.mono B2.out.size))
  obtain ⟨p0, p1, p2, f0, f1, f2⟩ := S3.out.facts
  have hs3 : Hid (w.heap.size + 1 < w3.heap.size) := S3.out.lt
  clear CI HS B2 hb3 hw2 c0 c1
  cases hrt : rightZ ns e
  · have F : Hid (nodeK ns e = (zeroT, 1)) := by unfold nodeK; rw [hrt]; exact Lib.hid rfl
    have G : innerZ ns e = ([], 1) := by unfold innerZ; rw [hrt]; rfl
    rw [G]
    clear hrt G hr3 hn3
    go_wp2_with fail
    have ZI : zeroT.InP (fun b => w.heap.size ≤ b ∧ b ≠ w.heap.size + 1) w3 (.agg #[.int .i64 0, .slice none 0 0, .slice none 0 0]) := leaf_inP (zs := []) rfl (Row.nil _ _) (by simp) ⟨fun _ => rfl, Nat.le_refl _⟩ (fun h => absurd h (by simp))
    exact gives_boxedE (x := (zeroT, 1)) (A := none) (n := 0) (c := 0) (K := none) (m := 0) (d := 0) F.out rfl rfl rfl S3.out (Nat.le_succ _) B3.out ZI
  have hl := (right_len hrt).2
  have F : Hid (nodeK ns e = (keyT ns e, 0)) := by unfold nodeK; rw [hrt]; exact Lib.hid rfl
  have G : innerZ ns e = (ownZ ns e, 0) := by unfold innerZ; rw [hrt]; rfl
  have ho := own_len (ns := ns) e (by omega)
  rw [G] at hr3 hc3 ⊢
  have R3 := Lib.hid hr3
  have N3 := Lib.hid hn3
  clear hrt G hr3 hn3 p0 p1 p2 f0 f1 f2
  have OZ : Hid (keyT ns e = .node 48 [] [algT 1, bitsT (ownZ ns e)]) := rfl
  generalize ownZ ns e = os at *
  go_wp2_with fail
  refine (algorithm_any 1 (by omega) (by omega) w3).mono ?_
  rintro e1 w4 ⟨A4, n4, c4, K4, m4, d4, rfl, hin4, hb4⟩
  have S4 := Lib.hid (S3.out.below hb4 S3.out.lt)
  have B4 := Lib.hid (B3.out.trans (hb4.mono B3.out.size))
  have R4 := Lib.hid (R3.out.below hb4)
  have I4 := Lib.hid (T.InP.below (Q := fun b => w.heap.size ≤ b ∧ b ≠ w.heap.size + 1) (w := w4) (Below.refl _ _) (fun b (hb : w3.heap.size ≤ b) => (by have := hs3.out; omega)) _ hin4)
  have hs4 : Hid (w.heap.size + 1 < w4.heap.size) := S4.out.lt
  clear S3 B3 R3 hin4 hb4 hs3
  go_wp2_with fail
  refine (allBits_any a3 os.length c3 os w4 R4.out (by omega) N3.out).mono ?_
  rintro e1 w5 ⟨A5, n5, c5, K5, m5, d5, rfl, hin5, hb5⟩
  have A6 : Below w5.heap.size w5 (w5.alloc (.cells #[.int .i64 (algT 1).tag, .slice A4 n4 c4, .slice K4 m4 d4, .int .i64 (bitsT os).tag, .slice A5 n5 c5, .slice K5 m5 d5] 28)) := (Below.refl _ _).alloc (Nat.le_refl _) _
  have E6 := hb5.trans (A6.mono hb5.size)
  have hs5 := Nat.lt_of_lt_of_le hs4.out hb5.size
  have S6 := Lib.hid (S4.out.below E6 S4.out.lt)
  have B6 := Lib.hid (B4.out.trans (E6.mono B4.out.size))
  have K6 := Lib.hid (kids_two (P := fun b => w.heap.size ≤ b ∧ b ≠ w.heap.size + 1) (Blk.new w5 28 #[.int .i64 (algT 1).tag, .slice A4 n4 c4, .slice K4 m4 d4, .int .i64 (bitsT os).tag, .slice A5 n5 c5, .slice K5 m5 d5]) ⟨by omega, by omega⟩ (T.InP.below E6 (fun _ h => h) _ I4.out) (T.InP.below A6 (Q := fun b => w.heap.size ≤ b ∧ b ≠ w.heap.size + 1) (fun b (hb : w4.heap.size ≤ b) => (by have := hs4.out; omega)) _ hin5))
  clear hb5 hin5 B4 I4 E6 S4 R4 A6 hs4 hs5
  go_wp2_with fail
  generalize w5.alloc (.cells #[.int .i64 (algT 1).tag, .slice A4 n4 c4, .slice K4 m4 d4, .int .i64 (bitsT os).tag, .slice A5 n5 c5, .slice K5 m5 d5] 28) = w6 at *
  generalize w5.heap.size = g9 at *
  refine (sequence_any _ 2 2 w6).mono ?_
  rintro e1 w7 ⟨rfl, hb7⟩
  have S7 := Lib.hid (S6.out.below hb7 S6.out.lt)
  have B7 := Lib.hid (B6.out.trans (hb7.mono B6.out.size))
  have K7 := Lib.hid (K6.out.below hb7 (fun _ h => h))
  obtain ⟨p0, p1, p2, f0, f1, f2⟩ := S7.out.facts
  clear S6 B6 K6 hb7
  go_wp2_with fail
  rw [F.out]
  exact gives_boxedE (x := (keyT ns e, 0)) rfl rfl rfl rfl S7.out (Nat.le_succ _) B7.out (by rw [OZ.out]; exact K7.out.node (by decide))

/-- What Name hands back. -/
def nameK (ns : List Int) (e : Int) : List Int × Int := if rightZ ns e = true then (hexZ ((hashZ (ownZ ns e)).take 20), 0) else ([], 1)
set_option maxHeartbeats 1000000 in
theorem kname_any (a : Option Addr) (n c : Nat) (e : Int) (ns : List Int) (w : World) (hk : KeyAt w a n c e ns) (hn : n ≤ 100000) (ht : Tab w) : Calls Tryd.prog 14 #[.agg #[.slice a n c, .int .u32 e]] w fun r w' => r = .returned (.tuple #[.string (strOfNums (nameK ns e).1), .int .i64 (nameK ns e).2]) ∧ Below w.heap.size w w' := by
  have b1 : Below w.heap.size w (w.alloc (.cells #[.slice a n c, .int .u32 e] 25)) := (Below.refl _ _).alloc (Nat.le_refl _) _
  have X1 := key_box w a n c e
  have CI := Lib.hid (inner_any a n c e ns _ (hk.below b1) hn)
  have T1 := Lib.hid (ht.below b1)
  have B1 := Lib.hid b1
  have c0 := X1.cell 0
  have c1 := X1.cell 1
  simp only [List.getElem?_toArray, List.getElem?_cons_succ, List.getElem?_cons_zero] at c0 c1
  clear b1 hk X1 ht
  go_enter Tryd.func14, Tryd.ntmps14
  generalize hw1 : w.alloc (.cells #[.slice a n c, .int .u32 e] 25) = w1 at *
  go_wp2_with fail
  refine CI.out.mono ?_
  rintro e1 w3 ⟨a3, c3, rfl, hr3, hn3, hb3, hc3⟩
  have B3 := Lib.hid (B1.out.trans (hb3.mono B1.out.size))
  have T3 := Lib.hid (T1.out.below hb3)
  clear CI B1 T1 hb3 hw1 c0 c1
  cases hrt : rightZ ns e
  · have F : Hid (nameK ns e = ([], 1)) := by unfold nameK; rw [hrt]; exact Lib.hid rfl
    have G : innerZ ns e = ([], 1) := by unfold innerZ; rw [hrt]; rfl
    rw [G]
    clear hrt G hr3 hn3
    go_wp2_with fail
    go_ret2
    rw [F.out]
    exact ⟨rfl, B3.out⟩
  have hl := (right_len hrt).2
  have F : Hid (nameK ns e = (hexZ ((hashZ (ownZ ns e)).take 20), 0)) := by unfold nameK; rw [hrt]; exact Lib.hid rfl
  have G : innerZ ns e = (ownZ ns e, 0) := by unfold innerZ; rw [hrt]; rfl
  have ho := own_len (ns := ns) e (by omega)
  rw [G] at hr3 hc3 ⊢
  have R3 := Lib.hid hr3
  clear hrt G hr3 hn3
  generalize ownZ ns e = os at *
  go_wp2_with fail
  refine (name_any a3 os.length c3 os w3 R3.out hc3 (by omega) T3.out).mono ?_
  rintro e1 w4 ⟨rfl, hb4⟩
  have B4 := Lib.hid (B3.out.trans (hb4.mono B3.out.size))
  clear B3 hb4
  go_wp2_with fail
  go_ret2
  rw [F.out]
  exact ⟨rfl, B4.out⟩

end Go.Proofs.YtgmefdmeeihgoaaDoor

namespace Go.Proofs.YtgmefdmeeihgoaaDoor
open Go.RowKit
set_option linter.unusedVariables false
set_option linter.unusedSimpArgs false

set_option maxHeartbeats 400000 in
theorem must_u64 (x : Int) (w : World) : Calls Tryd.prog 39 #[.int .u64 x, .int .i64 0] w fun e w' => e = .returned (.int .u64 x) ∧ w' = w := by
  go_enter Tryd.func39, Tryd.ntmps39
  go_wp2_with fail
  refine (demand_yes _).mono ?_
  rintro e w2 ⟨rfl, rfl⟩
  go_wp2_with fail
  go_ret
  exact ⟨rfl, rfl⟩
set_option maxHeartbeats 400000 in
theorem must_u64_no (x z : Int) (h : ¬ z = 0) (w : World) : Calls Tryd.prog 39 #[.int .u64 x, .int .i64 z] w fun e w' => e = .panicked (errP 2) ∧ w' = w := by
  have F : Hid ((z == 0) = false) := by simpa [Hid] using h
  clear h
  go_enter Tryd.func39, Tryd.ntmps39
  go_wp2_with fail
  rw [F.out]
  refine (demand_no _).mono ?_
  rintro e w2 ⟨rfl, rfl⟩
  exact ⟨rfl, rfl, rfl⟩

set_option maxHeartbeats 1000000 in
theorem must_node_no (z0 z : Int) (A : Option Addr) (n c : Nat) (K : Option Addr) (m d : Nat) (h : ¬ z = 0) (w : World) : Calls Tryd.prog 35 #[.agg #[.int .i64 z0, .slice A n c, .slice K m d], .int .i64 z] w fun e w' => e = .panicked (errP 2) ∧ Below w.heap.size w w' := by
  have F : Hid ((z == 0) = false) := by simpa [Hid] using h
  have B := Lib.hid (((Below.refl w.heap.size w).alloc (Nat.le_refl _) (.cells #[.int .i64 z0, .slice A n c, .slice K m d] 28)).alloc (by simp) (.cells #[.int .i64 0, .slice none 0 0, .slice none 0 0] 28))
  clear h
  go_enter Tryd.func35, Tryd.ntmps35
  go_wp2_with fail
  rw [F.out]
  refine (demand_no _).mono ?_
  rintro e w2 ⟨rfl, rfl⟩
  exact ⟨rfl, rfl, B.out⟩
set_option maxHeartbeats 1000000 in
theorem must_node (z0 : Int) (A : Option Addr) (n c : Nat) (K : Option Addr) (m d : Nat) (w : World) : Calls Tryd.prog 35 #[.agg #[.int .i64 z0, .slice A n c, .slice K m d], .int .i64 0] w fun e w' => e = .returned (.agg #[.int .i64 z0, .slice A n c, .slice K m d]) ∧ Below w.heap.size w w' := by
  have b1 := (Below.refl w.heap.size w).alloc (Nat.le_refl _) (.cells #[.int .i64 z0, .slice A n c, .slice K m d] 28)
  have b2 := b1.alloc b1.size (.cells #[.int .i64 0, .slice none 0 0, .slice none 0 0] 28)
  have X1 := (Blk.new w 28 #[.int .i64 z0, .slice A n c, .slice K m d]).alloc (.cells #[.int .i64 0, .slice none 0 0, .slice none 0 0] 28)
  have S1 := Blk.new (w.alloc (.cells #[.int .i64 z0, .slice A n c, .slice K m d] 28)) 28 #[.int .i64 0, .slice none 0 0, .slice none 0 0]
  rw [show (w.alloc (.cells #[.int .i64 z0, .slice A n c, .slice K m d] 28)).heap.size = w.heap.size + 1 by simp] at S1
  obtain ⟨x0, x1, x2, _, _, _⟩ := X1.facts
  obtain ⟨p0, p1, p2, f0, f1, f2⟩ := S1.facts
  have B := Lib.hid b2
  have HS := Lib.hid S1
  clear b1 b2 X1 S1
  go_enter Tryd.func35, Tryd.ntmps35
  generalize hw2 : (w.alloc (.cells #[.int .i64 z0, .slice A n c, .slice K m d] 28)).alloc (.cells #[.int .i64 0, .slice none 0 0, .slice none 0 0] 28) = w2 at *
  go_wp2_with fail
  refine (demand_yes _).mono ?_
  rintro e w3 ⟨rfl, rfl⟩
  go_wp2_with fail
  have C := ((HS.out.set 0 (.int .i64 z0)).set 1 (.slice A n c)).set 2 (.slice K m d)
  exact bodyPost_ret (results_cell_row rfl _ _ (w.heap.size + 1) 28 _ (0, 0) _ rfl C Tryd.underlying28 rfl Tryd.sizeNode3) rfl ⟨rfl, B.out.trans (three_past (B := w.heap.size) _ (Nat.le_succ _) _ _ _)⟩

end Go.Proofs.YtgmefdmeeihgoaaDoor

namespace Go.Proofs.YtgmefdmeeihgoaaDoor
open Go.RowKit
set_option linter.unusedVariables false
set_option linter.unusedSimpArgs false

theorem readK_nil {t : T} (h : t.kids = []) : readK t = none := by unfold readK; rw [h]
theorem readK_one {t a : T} (h : t.kids = [a]) : readK t = none := by unfold readK; rw [h]
theorem readK_two {t a b : T} {r : List T} (h : t.kids = a :: b :: r) : readK t = if (ofZ b).2.2 = 0 then keyWithin t (readZ (ofZ b).1) else none := by unfold readK; rw [h]
theorem within_nil {t y : T} (h : y.kids = []) : keyWithin t (.ok y) = none := by unfold keyWithin; simp only [h]
theorem within_one {t y p : T} (h : y.kids = [p]) : keyWithin t (.ok y) = none := by unfold keyWithin; simp only [h]
theorem within_two {t y p q : T} {r : List T} (h : y.kids = p :: q :: r) : keyWithin t (.ok y) = keyIn t p q := by unfold keyWithin; simp only [h]
theorem T.In.cappedD {w : World} {t : T} {v : Value} (h : t.In w v) : Capped v := by
  obtain ⟨A, n, c, K, m, d, rfl, _, _, _, _, _, hcc, _⟩ := h.open
  intro z' A' n' c' y' e
  simp only [Value.agg.injEq] at e
  have e' := congrArg Array.toList e
  simp only [List.cons.injEq, and_true, Value.slice.injEq] at e'
  obtain ⟨_, ⟨_, rfl, rfl⟩, _⟩ := e'
  exact hcc.2.1
theorem T.In.bytes {w : World} {t : T} {v : Value} (h : t.In w v) : ∀ x ∈ t.body, 0 ≤ x ∧ x ≤ 255 := by
  obtain ⟨A, n, c, K, m, d, _, _, hr, _⟩ := h.open
  exact hr.2.1
theorem slice_zeros {K : Option Addr} {m d : Nat} : ∀ (j : Nat) (x : Int), (#[Value.slice K m d] : Array Value)[j]? ≠ some (.int .u8 x) := by
  intro j x h
  rcases j with _ | j <;> simp at h
theorem uint_rangeK (t : T) (hb : ∀ x ∈ t.body, 0 ≤ x ∧ x ≤ 255) : 0 ≤ (uintZ t).1 ∧ (uintZ t).1 ≤ 18446744073709551615 := by
  unfold uintZ
  split
  · exact numZ_range t.body hb 0 (by omega) (by omega)
  · simp
theorem two_grow (g : Nat) (W : World) (a b : Value) : GrowR g W ((W.setCell ⟨g, 0, none⟩ a).setCell ⟨g, 1, none⟩ b) := grown_trans (grown_set W g 0 a) (grown_set _ g 1 b)
theorem key_zeros : ∀ (j : Nat) (x : Int), (#[Value.slice none 0 0, .int .u32 0] : Array Value)[j]? ≠ some (.int .u8 x) := by
  intro j x h
  rcases j with _ | _ | j <;> simp at h
theorem Tryd.sizeKey : (Tryd.prog.info? 25).map (·.size) = some 2 := by kernel_rfl
theorem great_len (t : T) : (greatZ t).1.length ≤ t.body.length := by
  unfold greatZ
  split
  · exact bare_le _
  · simp

/-- Where keyOf stands: its argument's box, and its result's. -/
structure KP (w wr : World) (x : T) (A : Option Addr) (nb c : Nat) (K : Option Addr) (m d : Nat) : Prop where
  box : Blk wr w.heap.size 28 #[.int .i64 x.tag, .slice A nb c, .slice K m d]
  res : Blk wr (w.heap.size + 1) 25 #[.slice none 0 0, .int .u32 0]
  below : Below w.heap.size w wr
  has : x.InP (· < w.heap.size) wr (.agg #[.int .i64 x.tag, .slice A nb c, .slice K m d])
theorem KP.grow {w wr w' : World} {g : Nat} {x : T} {A : Option Addr} {nb c : Nat} {K : Option Addr} {m d : Nat} (h : KP w wr x A nb c K m d) (hf : w.heap.size + 1 < g) (hg : GrowR g wr w') : KP w w' x A nb c K m d :=
  ⟨h.box.grown hg (by omega), h.res.grown hg (by omega), h.below.trans (grown_below hg _ (by omega) h.below.size), h.has.grownP (fun b hb => by have hb' : b < w.heap.size := hb; omega) hg⟩
theorem KP.go {w wr w' : World} {x : T} {A : Option Addr} {nb c : Nat} {K : Option Addr} {m d : Nat} (h : KP w wr x A nb c K m d) (hb : Below wr.heap.size wr w') : KP w w' x A nb c K m d :=
  h.grow (g := w.heap.size + 2) (by omega) (GrowR.below hb)

def GivesKeyOf (x : Option (List Int × Int)) (w : World) (e : Ending) (w' : World) : Prop := Below w.heap.size w w' ∧
  ((x = none ∧ e = .panicked (errP 2)) ∨
   (∃ (ns : List Int) (ex : Int) (a : Option Addr) (c : Nat), x = some (ns, ex) ∧ e = .returned (.agg #[.slice a ns.length c, .int .u32 ex]) ∧ KeyAt w' a ns.length c ex ns))

set_option maxRecDepth 100000 in
set_option maxHeartbeats 4000000 in
theorem keyOf_any (t : T) (v : Value) (w : World) (hin : t.In w v) (hwt : wt t < 30000) : Calls Tryd.prog 21 #[v] w (GivesKeyOf (readK t) w) := by
  obtain ⟨A, nb, c, K, m, d, rfl⟩ := (T.In.inP t hin).form
  have X0 := (Blk.new w 28 #[.int .i64 t.tag, .slice A nb c, .slice K m d]).alloc (.cells #[.slice none 0 0, .int .u32 0] 25)
  have S0 := Blk.new (w.alloc (.cells #[.int .i64 t.tag, .slice A nb c, .slice K m d] 28)) 25 #[.slice none 0 0, .int .u32 0]
  rw [show (w.alloc (.cells #[.int .i64 t.tag, .slice A nb c, .slice K m d] 28)).heap.size = w.heap.size + 1 by simp] at S0
  have b2 : Below w.heap.size w ((w.alloc (.cells #[.int .i64 t.tag, .slice A nb c, .slice K m d] 28)).alloc (.cells #[.slice none 0 0, .int .u32 0] 25)) := ((Below.refl _ _).alloc (Nat.le_refl _) _).alloc (by simp) _
  have P2 := Lib.hid (KP.mk X0 S0 b2 (T.InP.below b2 (fun _ h => h) _ (T.In.inP t hin)))
  obtain ⟨g0, g1, g2, _, _, _⟩ := X0.facts
  have HWT := Lib.hid hwt
  clear b2 S0 X0 hin
  go_enter Tryd.func21, Tryd.ntmps21
  go_wp2_with fail
  generalize hw2 : (w.alloc (.cells #[.int .i64 t.tag, .slice A nb c, .slice K m d] 28)).alloc (.cells #[.slice none 0 0, .int .u32 0] 25) = w2 at *
  clear hw2
  have hsz : w.heap.size + 1 < w2.heap.size := P2.out.res.lt
  refine (partsOf_any _ _ K m d w2).mono ?_
  rintro e w3 ⟨rfl, hg3, hb3⟩
  have P3 := Lib.hid (P2.out.go hb3)
  obtain ⟨g, hg⟩ : ∃ g, w2.heap.size + 1 = g := ⟨_, rfl⟩
  rw [hg] at hg3
  rw [hg]
  have HG : Hid (w.heap.size + 1 < g) := by show w.heap.size + 1 < g; omega
  have HO : Hid (∀ b, b < w.heap.size → b ≠ g) := Lib.hid (fun b hb => by have := HG.out; omega)
  clear hg hb3 P2 hsz g0 g1 g2
  have KK := P3.out.has.kidsP
  rcases hks : t.kids with _ | ⟨ka, ks⟩
  · have F := Lib.hid (readK_nil hks)
    rw [hks] at KK
    obtain rfl : m = 0 := KK.1.symm
    have CN := Lib.hid (next_no g K d w3 hg3)
    clear hks KK hg3
    go_wp2_with fail
    refine CN.out.mono ?_
    rintro e w4 ⟨rfl, hb4⟩
    exact ⟨rfl, (P3.out.go hb4).below, .inl ⟨F.out, rfl⟩⟩
  rw [hks] at KK
  have CN := Lib.hid (next_ok _ g K m d ka ks w3 HO.out hg3 KK)
  have HK := Lib.hid hks
  clear hks KK hg3
  go_wp2_with fail
  refine CN.out.mono ?_
  rintro e w4 ⟨An, nn, cn, Kn, mn, dn, K2, m2, d2, rfl, hin4, hg4, hk4, hgr4⟩
  have P4 := Lib.hid (P3.out.grow HG.out hgr4)
  clear CN P3 hin4 hgr4
  go_wp2_with fail
  rcases ks with _ | ⟨kb, ks⟩
  · have F := Lib.hid (readK_one HK.out)
    obtain rfl : m2 = 0 := hk4.1.symm
    refine (next_no g K2 d2 w4 hg4).mono ?_
    rintro e w5 ⟨rfl, hb5⟩
    exact ⟨rfl, (P4.out.go hb5).below, .inl ⟨F.out, rfl⟩⟩
  have F0 := Lib.hid (readK_two HK.out)
  have hmem : kb ∈ t.kids := by rw [HK.out]; simp
  have hbody : kb.body.length ≤ 30000 := by have h1 := wt_kid hmem; have h2 := wt_eq kb; have h3 := wtAll_pos kb.kids; omega
  refine (next_ok _ g K2 m2 d2 kb ks w4 HO.out hg4 hk4).mono ?_
  rintro e w5 ⟨Ab, n5, c5, Kb, mb, db, K3, m3, d3, rfl, hin5, hg5, hk5, hgr5⟩
  have P5 := Lib.hid (P4.out.grow HG.out hgr5)
  have CB := Lib.hid (bytesOf_any kb _ w5 (T.InP.in _ hin5) hbody)
  have hsl := Nat.le_trans (of_len kb) hbody
  clear P4 hg4 hk4 hin5 hg5 hk5 hgr5 HK hmem hbody hwt
  go_wp2_with fail
  refine CB.out.mono ?_
  rintro e w6 ⟨hb6, hways⟩
  have P6 := Lib.hid (P5.out.go hb6)
  clear CB P5 hb6
  rcases hways with ⟨h0, a6, c6, rfl, hr6, hn6, hc6⟩ | ⟨h0, rfl⟩
  rotate_left
  · have F2 : Hid (readK t = none) := by rw [F0.out]; exact if_neg h0
    exact ⟨rfl, P6.out.below, .inl ⟨F2.out, rfl⟩⟩
  have F1 : Hid (readK t = keyWithin t (readZ (ofZ kb).1)) := by rw [F0.out]; exact if_pos h0
  clear h0 F0
  have HBy := Lib.hid hr6.2.1
  have CR := Lib.hid (tread_any a6 _ c6 _ w6 hr6 hc6 hsl hn6)
  clear hr6 hn6
  generalize (ofZ kb).1 = bs at *
  go_wp2_with fail
  refine CR.out.mono ?_
  rintro e w7 ⟨hb7, hways⟩
  have P7 := Lib.hid (P6.out.go hb7)
  have hs6 : Hid (w.heap.size + 1 < w6.heap.size) := P6.out.res.lt
  clear CR P6 hb7
  rcases hways with ⟨z, hz, rfl⟩ | ⟨y, v, hy, rfl, hin7⟩
  · have F2 : Hid (readK t = none) := by rw [F1.out, hz]; exact Lib.hid rfl
    have CM := Lib.hid (must_node_no 0 z none 0 0 none 0 0 (read_err hz) w7)
    clear hz F1
    go_wp2_with fail
    refine CM.out.mono ?_
    rintro e w8 ⟨rfl, hb8⟩
    exact ⟨rfl, (P7.out.go hb8).below, .inl ⟨F2.out, rfl⟩⟩
  obtain ⟨Ay, ny, cy, Ky, my, dy, rfl⟩ := hin7.form
  have F2 : Hid (readK t = keyWithin t (.ok y)) := by rw [F1.out, hy]; exact Lib.hid rfl
  have hwy := (read_fit HBy.out hy).1
  clear F1 HBy hy
  have CM := Lib.hid (must_node y.tag Ay ny cy Ky my dy w7)
  go_wp2_with fail
  refine CM.out.mono ?_
  rintro e w8 ⟨rfl, hb8⟩
  have P8 := Lib.hid (P7.out.go hb8)
  have I8 := Lib.hid (T.InP.below hb8 (fun _ h => h) _ hin7)
  clear CM P7 hb8 hin7
  go_wp2_with fail
  refine (partsOf_any _ _ Ky my dy w8).mono ?_
  rintro e w9 ⟨rfl, hg9, hb9⟩
  have hs8 : w.heap.size + 1 < w8.heap.size := P8.out.res.lt
  obtain ⟨h, hh⟩ : ∃ h, w8.heap.size + 1 = h := ⟨_, rfl⟩
  have I9 := T.InP.keep (Q := (· ≠ h)) (fun b hb _ => ⟨by omega, hb9.block b hb⟩) hb9.size _ I8.out
  have P9 := Lib.hid (P8.out.go hb9)
  rw [hh] at hg9
  rw [hh]
  have HH : Hid (w.heap.size + 1 < h) := by show w.heap.size + 1 < h; omega
  have HQ : Hid (∀ b, b ≠ h → b ≠ h) := Lib.hid (fun _ h => h)
  have KY := I9.kidsP
  clear hh hb9 P8 I8 I9 hs8 HG HO
  rcases hks : y.kids with _ | ⟨kp, ks⟩
  · have F := Lib.hid (F2.out.trans (within_nil hks))
    rw [hks] at KY
    obtain rfl : my = 0 := KY.1.symm
    have CN := Lib.hid (next_no h Ky dy w9 hg9)
    clear hks KY hg9 F2
    go_wp2_with fail
    refine CN.out.mono ?_
    rintro e w10 ⟨rfl, hb10⟩
    exact ⟨rfl, (P9.out.go hb10).below, .inl ⟨F.out, rfl⟩⟩
  rw [hks] at KY
  have CN := Lib.hid (next_ok _ h Ky my dy kp ks w9 HQ.out hg9 KY)
  have HK := Lib.hid hks
  have hmp : kp ∈ y.kids := by rw [hks]; simp
  have hbp : kp.body.length ≤ 30000 := by have h1 := wt_kid hmp; have h2 := wt_eq kp; have h3 := wtAll_pos kp.kids; omega
  have hgl := Nat.le_trans (great_len kp) hbp
  clear hks KY hg9 hmp
  go_wp2_with fail
  refine CN.out.mono ?_
  rintro e w10 ⟨Ap, np, cp, Kp, mp, dp, K11, m11, d11, rfl, hin10, hg10, hk10, hgr10⟩
  have P10 := Lib.hid (P9.out.grow HH.out hgr10)
  have CG := Lib.hid (great_any kp _ w10 (T.InP.in _ hin10) (T.InP.in _ hin10).cappedD hbp)
  have G10 := Lib.hid hg10
  have KK10 := Lib.hid hk10
  clear CN P9 hin10 hgr10 hg10 hk10 hbp
  go_wp2_with fail
  refine CG.out.mono ?_
  rintro e w11 ⟨a11, c11, rfl, hr11, hn11, hc11, hb11⟩
  have P11 := Lib.hid (P10.out.go hb11)
  have G11 := Lib.hid (G10.out.below hb11 G10.out.lt)
  have KK11 := Lib.hid (KK10.out.below hb11 (fun _ h => h))
  have R11 := Lib.hid hr11
  have N11 := Lib.hid hn11
  clear CG P10 G10 KK10 hb11 hr11 hn11
  by_cases hgp : (greatZ kp).2 = 0
  rotate_left
  · have F : Hid (readK t = none) := by
      rw [F2.out]
      rcases ks with _ | ⟨kq, ks⟩
      · exact Lib.hid (within_one HK.out)
      · rw [within_two HK.out]
        exact Lib.hid (if_neg (fun h => hgp h.1))
    have CM := Lib.hid (must_bytes_no a11 (greatZ kp).1.length c11 (greatZ kp).2 hgp w11)
    clear hgp F2
    go_wp2_with fail
    refine CM.out.mono ?_
    rintro e w12 ⟨rfl, rfl⟩
    exact ⟨rfl, P11.out.below, .inl ⟨F.out, rfl⟩⟩
  rw [hgp]
  have CM := Lib.hid (must_bytes a11 (greatZ kp).1.length c11 w11)
  have HGP := Lib.hid hgp
  clear hgp
  go_wp2_with fail
  refine CM.out.mono ?_
  rintro e w12 ⟨rfl, rfl⟩
  clear CM
  go_wp2_with fail
  rcases ks with _ | ⟨kq, ks⟩
  · have F := Lib.hid (F2.out.trans (within_one HK.out))
    obtain rfl : m11 = 0 := KK11.out.1.symm
    refine (next_no h K11 d11 w12 G11.out).mono ?_
    rintro e w13 ⟨rfl, hb13⟩
    exact ⟨rfl, (P11.out.go hb13).below, .inl ⟨F.out, rfl⟩⟩
  have F3 := Lib.hid (F2.out.trans (within_two HK.out))
  have hmq : kq ∈ y.kids := by rw [HK.out]; simp
  have hbq : kq.body.length ≤ 1000000 := by have h1 := wt_kid hmq; have h2 := wt_eq kq; have h3 := wtAll_pos kq.kids; omega
  refine (next_ok _ h K11 m11 d11 kq ks w12 HQ.out G11.out KK11.out).mono ?_
  rintro e w13 ⟨Aq, nq, cq, Kq, mq, dq, K13, m13, d13, rfl, hin13, hg13, hk13, hgr13⟩
  have P13 := Lib.hid (P11.out.grow HH.out hgr13)
  have R13 := Lib.hid (row_grown R11.out (row_off R11.out G11.out slice_zeros) hgr13)
  have UB := Lib.hid (uint_rangeK kq (T.InP.in _ hin13).bytes)
  have CU := Lib.hid (uint_any kq _ w13 (T.InP.in _ hin13) hbq)
  clear P11 G11 KK11 R11 hin13 hg13 hk13 hgr13 hmq hbq HK F2 hwy HH HQ
  go_wp2_with fail
  refine CU.out.mono ?_
  rintro e w14 ⟨rfl, hb14⟩
  have P14 := Lib.hid (P13.out.go hb14)
  have R14 := Lib.hid (R13.out.below hb14)
  clear CU P13 R13 hb14
  by_cases hgq : (uintZ kq).2 = 0
  rotate_left
  · have F : Hid (readK t = none) := by rw [F3.out]; exact Lib.hid (if_neg (fun h => hgq h.2.1))
    have CM := Lib.hid (must_u64_no (uintZ kq).1 (uintZ kq).2 hgq w14)
    clear hgq F3
    go_wp2_with fail
    refine CM.out.mono ?_
    rintro e w15 ⟨rfl, rfl⟩
    exact ⟨rfl, P14.out.below, .inl ⟨F.out, rfl⟩⟩
  rw [hgq]
  have CM := Lib.hid (must_u64 (uintZ kq).1 w14)
  have F4 : Hid (readK t = if rightZ (greatZ kp).1 ((uintZ kq).1 % 4294967296) = true ∧ sameT (keyT (greatZ kp).1 ((uintZ kq).1 % 4294967296)) t = true then some ((greatZ kp).1, (uintZ kq).1 % 4294967296) else none) := by
    rw [F3.out]
    unfold keyIn
    simp [HGP.out, hgq, Hid]
  clear hgq F3 HGP
  go_wp2_with fail
  refine CM.out.mono ?_
  rintro e w15 ⟨rfl, rfl⟩
  clear CM
  generalize (greatZ kp).1 = ns at *
  generalize (uintZ kq).1 = u at *
  obtain ⟨ex, hex⟩ : ∃ ex, u % 4294967296 = ex := ⟨_, rfl⟩
  have hwr : IntKind.u32.wrap u = ex := by rw [IntKind.wrap_u32]; omega
  have hx0 : 0 ≤ ex ∧ ex ≤ 4294967295 := by omega
  rw [hex] at F4
  have A16 : Below w15.heap.size w15 (w15.alloc (.cells #[.slice a11 ns.length c11, .int .u32 ex] 25)) := (Below.refl _ _).alloc (Nat.le_refl _) _
  have P16 := Lib.hid (P14.out.go A16)
  have K16 : Hid (KeyAt (w15.alloc (.cells #[.slice a11 ns.length c11, .int .u32 ex] 25)) a11 ns.length c11 ex ns) := ⟨R14.out.below A16, hc11, N11.out, hx0.1, hx0.2⟩
  have X16 := Lib.hid (Blk.new w15 25 #[.slice a11 ns.length c11, .int .u32 ex])
  have L16 : Hid (w15.heap.size ≠ w.heap.size + 1) := by have := P14.out.res.lt; show w15.heap.size ≠ _; omega
  clear hex UB A16 P14 R14 N11 hx0
  go_wp2_with fail
  clear hwr
  generalize w15.alloc (.cells #[.slice a11 ns.length c11, .int .u32 ex] 25) = w16 at *
  generalize w15.heap.size = g7 at *
  have CN := Lib.hid (node_any a11 ns.length c11 ex ns w16.drew K16.out.drew (by omega))
  have l0 : ∀ W, GrowR (w.heap.size + 1) w16.drew W → W.cell? ⟨g7, 0, none⟩ = some (.slice a11 ns.length c11) := fun W hW => GrowR.cell hW L16.out (X16.out.cell 0)
  have l1 : ∀ W, GrowR (w.heap.size + 1) w16.drew W → W.cell? ⟨g7, 1, none⟩ = some (.int .u32 ex) := fun W hW => GrowR.cell hW L16.out (X16.out.cell 1)
  have k0 : ∀ W, GrowR (w.heap.size + 1) w16.drew W → W.cell? ⟨w.heap.size, 0, none⟩ = some (.int .i64 t.tag) := fun W hW => GrowR.cell hW (by omega) (P16.out.box.cell 0)
  have k1 : ∀ W, GrowR (w.heap.size + 1) w16.drew W → W.cell? ⟨w.heap.size, 1, none⟩ = some (.slice A nb c) := fun W hW => GrowR.cell hW (by omega) (P16.out.box.cell 1)
  have k2 : ∀ W, GrowR (w.heap.size + 1) w16.drew W → W.cell? ⟨w.heap.size, 2, none⟩ = some (.slice K m d) := fun W hW => GrowR.cell hW (by omega) (P16.out.box.cell 2)
  refine wp_region_ord (GrowR (w.heap.size + 1)) (GrowR.refl _) GrowR.trans ((0, false) :: (5, false) :: (1, true) :: (2, false) :: (3, false) :: (4, true) :: (6, true) :: (7, true) :: []) (by kernel_rfl) (by kernel_rfl) rfl (by kernel_rfl) (fun _ _ _ _ _ h => h) ?_
  repeat (refine ord_take _ rfl (by rfl) (fun W hW => by go_simp; first | done | rfl) ?_; simp only [Act.put, List.setIfInBounds_toArray, List.set_cons_zero, List.set_cons_succ])
  clear l0 l1 k0 k1 k2
  have P17 : Hid (KP w w16.drew t A nb c K m d) := P16.out.go (wr := w16) (w' := w16.drew) (Below.refl _ _).drew
  have K17 := Lib.hid K16.out.drew
  have X17 : Hid (Blk w16.drew g7 25 #[.slice a11 ns.length c11, .int .u32 ex]) := X16.out
  clear P16 K16 X16
  generalize w16.drew = w17 at *
  refine ord_sole rfl (by rfl) (fun K1 hK1 => ?_)
  go_simp
  refine CN.out.mono ?_
  rintro e w18 ⟨A18, n18, c18, K18, m18, d18, rfl, hin18, hb18⟩
  refine hK1 _ _ (GrowR.below hb18) ?_
  have P18 := Lib.hid (P17.out.go hb18)
  have Q18 := Lib.hid (K17.out.below hb18)
  have X18 := Lib.hid (X17.out.below hb18 X17.out.lt)
  have I18 := Lib.hid (T.InP.in _ hin18)
  clear hK1 K1 CN P17 K17 X17 hin18 hb18
  repeat (refine ord_take _ rfl (by rfl) (fun W hW => by go_simp; first | done | rfl) ?_; simp only [Act.put, List.setIfInBounds_toArray, List.set_cons_zero, List.set_cons_succ])
  cases hrt : rightZ ns ex
  · have F : Hid (readK t = none) := by rw [F4.out, hrt]; simp [Hid]
    have N0 : nodeK ns ex = (zeroT, 1) := by unfold nodeK; rw [hrt]; rfl
    have CM := Lib.hid (must_node_no zeroT.tag 1 A18 n18 c18 K18 m18 d18 (by decide) w18)
    refine ord_sole rfl (by rfl) (fun K1 hK1 => ?_)
    go_simp
    refine CM.out.mono ?_
    rintro e w19 ⟨rfl, hb19⟩
    exact ⟨rfl, (P18.out.go hb19).below, .inl ⟨F.out, rfl⟩⟩
  have F5 : Hid (readK t = if sameT (keyT ns ex) t = true then some (ns, ex) else none) := by rw [F4.out, hrt]; simp [Hid]
  have N0 : nodeK ns ex = (keyT ns ex, 0) := by unfold nodeK; rw [hrt]; rfl
  rw [N0] at I18 ⊢
  have CM := Lib.hid (must_node (keyT ns ex).tag A18 n18 c18 K18 m18 d18 w18)
  clear hrt N0 F4
  refine ord_sole rfl (by rfl) (fun K1 hK1 => ?_)
  go_simp
  refine CM.out.mono ?_
  rintro e w19 ⟨rfl, hb19⟩
  refine hK1 _ _ (GrowR.below hb19) ?_
  have P19 := Lib.hid (P18.out.go hb19)
  have Q19 := Lib.hid (Q18.out.below hb19)
  have X19 := Lib.hid (X18.out.below hb19 X18.out.lt)
  have CE := Lib.hid (eqT_any (keyT ns ex) t _ _ w19 (T.In.below hb19 _ I18.out) (T.InP.in _ P19.out.has))
  clear hK1 K1 CM P18 Q18 X18 I18 hb19
  refine ord_sole rfl (by rfl) (fun K1 hK1 => ?_)
  go_simp
  refine CE.out.mono ?_
  rintro e w20 ⟨rfl, hb20⟩
  refine hK1 _ _ (GrowR.below hb20) ?_
  have P20 := Lib.hid (P19.out.go hb20)
  have Q20 := Lib.hid (Q19.out.below hb20)
  have X20 := Lib.hid (X19.out.below hb20 X19.out.lt)
  clear hK1 K1 CE P19 Q19 X19 hb20
  refine ord_sole rfl (by rfl) (fun K1 hK1 => ?_)
  go_simp
  refine (demand_any _ w20).mono ?_
  rintro e w21 ⟨rfl, ⟨hb, rfl⟩ | ⟨hb, rfl⟩⟩
  rotate_left
  · have F6 : Hid (readK t = none) := by rw [F5.out, hb]; rfl
    exact ⟨rfl, P20.out.below, .inl ⟨F6.out, rfl⟩⟩
  refine hK1 _ _ (GrowR.refl _ _) ?_
  have F6 : Hid (readK t = some (ns, ex)) := by rw [F5.out, hb]; rfl
  clear hK1 K1 hb F5
  refine ord_end ?_
  have x0 := X20.out.cell 0
  have x1 := X20.out.cell 1
  have p0 := P20.out.res.cell 0
  have p1 := P20.out.res.cell 1
  have f0 := P20.out.res.free 0
  have f1 := P20.out.res.free 1
  simp only [List.getElem?_toArray, List.getElem?_cons_succ, List.getElem?_cons_zero] at x0 x1 p0 p1
  go_wp2_with fail
  have G := two_grow (w.heap.size + 1) w21 (.slice a11 ns.length c11) (.int .u32 ex)
  have C := (P20.out.res.set 0 (.slice a11 ns.length c11)).set 1 (.int .u32 ex)
  exact bodyPost_ret (results_cell_row rfl _ _ (w.heap.size + 1) 25 _ (0, 0) _ rfl C Tryd.underlying25 rfl Tryd.sizeKey) rfl ⟨P20.out.below.trans (grown_below G _ (Nat.le_succ _) P20.out.below.size), .inr ⟨ns, ex, a11, c11, F6.out, rfl, row_grown Q20.out.1 (row_off Q20.out.1 P20.out.res key_zeros) G, Q20.out.2⟩⟩

end Go.Proofs.YtgmefdmeeihgoaaDoor

namespace Go.Proofs.YtgmefdmeeihgoaaDoor
open Go.RowKit
set_option linter.unusedVariables false
set_option linter.unusedSimpArgs false

/-- What the deferred closure leaves behind a panic: nothing, and the error. -/
def caughtK (w : World) (p q : Nat) : World := ((((w.alloc (.cells #[.slice none 0 0, .int .u32 0] 25)).setCell ⟨p, 0, none⟩ (.slice none 0 0)).setCell ⟨p, 1, none⟩ (.int .u32 0)).setCell ⟨q, 0, none⟩ (.int .i64 2))
theorem Blk.pair {w : World} {g : Nat} {t : TypeId} {a b : Value} (h : Blk w g t #[a, b]) : w.cell? ⟨g, 0, none⟩ = some a ∧ w.cell? ⟨g, 1, none⟩ = some b ∧ w.frozen? ⟨g, 0, none⟩ = false ∧ w.frozen? ⟨g, 1, none⟩ = false :=
  ⟨h.cell 0, h.cell 1, h.free 0, h.free 1⟩

set_option maxRecDepth 100000 in
set_option maxHeartbeats 1000000 in
theorem kcatch_panicking (p q : Nat) (y : Int) (a b : Value) (w : World) (hp : Blk w p 25 #[a, b]) (hq : Blk w q 32 #[.int .i64 y]) (hne : q ≠ p) :
    CallsD Tryd.prog 33 #[.pointer (some ⟨p, 0, none⟩), .pointer (some ⟨q, 0, none⟩)] (.panicking (errP 2)) w fun e u' w' =>
      e = .returned (.tuple #[]) ∧ u' = .panicking [{ v := .iface 32 (.int .i64 2), recovered := true }] ∧ w' = caughtK w p q := by
  have hp2 := hp.alloc (.cells #[.slice none 0 0, .int .u32 0] 25)
  have hq2 := hq.alloc (.cells #[.slice none 0 0, .int .u32 0] 25)
  obtain ⟨p0, p1, f0, f1⟩ := hp2.pair
  have q0 := hq2.cell 0
  have g0 := hq2.free 0
  simp only [List.getElem?_toArray, List.getElem?_cons_zero] at q0
  refine callsD_of_wpS Tryd.func33 rfl fun c₀ cs hu => ?_
  unfold errP at hu
  apply wpS_seq
  apply wpS_region
  simp [wpOpsS, go_sem, recoverD, hu, Tryd.ntmps33, Exit.thenS]
  refine wpS_of_wp ?_
  change Code.wp Tryd.prog _ _ ⟨#[.pointer (some ⟨p, 0, none⟩), .pointer (some ⟨q, 0, none⟩), undef, .iface 32 (.int .i64 2), .bool true, undef], []⟩ w
  go_wp2_with fail
  exact ⟨rfl, _, rfl, .tuple #[], by simp [results, Tryd.results33], rfl, rfl, rfl⟩

set_option maxRecDepth 100000 in
set_option maxHeartbeats 1000000 in
theorem kcatch_idle (p q : Nat) (w : World) :
    CallsD Tryd.prog 33 #[.pointer (some ⟨p, 0, none⟩), .pointer (some ⟨q, 0, none⟩)] .returning w fun e u' w' => e = .returned (.tuple #[]) ∧ u' = .returning ∧ w' = w := by
  refine callsD_of_wpS Tryd.func33 rfl fun c₀ cs hu => ?_
  apply wpS_seq
  apply wpS_region
  simp [wpOpsS, go_sem, recoverD, hu, Tryd.ntmps33, Exit.thenS]
  refine wpS_of_wp ?_
  change Code.wp Tryd.prog _ _ ⟨#[.pointer (some ⟨p, 0, none⟩), .pointer (some ⟨q, 0, none⟩), undef, .nilIface, .bool false, undef], []⟩ w
  go_wp2_with fail
  refine ⟨rfl, .returning, ?_, .tuple #[], by simp [results, Tryd.results33], rfl, rfl, rfl⟩
  cases c₀
  simp_all

theorem caught_key {w : World} {p q : Nat} {y : Int} {a b : Value} (hp : Blk w p 25 #[a, b]) (hq : Blk w q 32 #[.int .i64 y]) (hne : q ≠ p) :
    Blk (caughtK w p q) p 25 #[.slice none 0 0, .int .u32 0] ∧ Blk (caughtK w p q) q 32 #[.int .i64 2] ∧ ∀ B, B ≤ p → B ≤ q → B ≤ w.heap.size → Below B w (caughtK w p q) := by
  have hp2 := hp.alloc (.cells #[.slice none 0 0, .int .u32 0] 25)
  have hq2 := hq.alloc (.cells #[.slice none 0 0, .int .u32 0] 25)
  refine ⟨((hp2.set 0 _).set 1 _).far (Ne.symm hne) 0 _, ((hq2.far hne 0 _).far hne 1 _).set 0 _, fun B h1 h2 h3 => ?_⟩
  exact ((((Below.refl B w).alloc h3 _).setCell h1 _).setCell h1 _).setCell h2 _
theorem stored_key {w : World} {p q B : Nat} (hp : Blk w p 25 #[.slice none 0 0, .int .u32 0]) (hq : Blk w q 32 #[.int .i64 0]) (hne : q ≠ p) (h1 : B ≤ p) (h2 : B ≤ q) (h3 : B ≤ w.heap.size) (a b : Value) :
    Blk (((w.setCell ⟨p, 0, none⟩ a).setCell ⟨p, 1, none⟩ b).setCell ⟨q, 0, none⟩ (.int .i64 0)) p 25 #[a, b] ∧
    Blk (((w.setCell ⟨p, 0, none⟩ a).setCell ⟨p, 1, none⟩ b).setCell ⟨q, 0, none⟩ (.int .i64 0)) q 32 #[.int .i64 0] ∧
    Below B w (((w.setCell ⟨p, 0, none⟩ a).setCell ⟨p, 1, none⟩ b).setCell ⟨q, 0, none⟩ (.int .i64 0)) ∧
      ∀ (r : Option Addr) (k : Nat) (zs : List Int), Row w r k zs → Row (((w.setCell ⟨p, 0, none⟩ a).setCell ⟨p, 1, none⟩ b).setCell ⟨q, 0, none⟩ (.int .i64 0)) r k zs := by
  have G5 := two_grow p w a b
  have hqf := (hq.far hne 0 a).far hne 1 b
  have G6 := grown_set ((w.setCell ⟨p, 0, none⟩ a).setCell ⟨p, 1, none⟩ b) q 0 (.int .i64 0)
  refine ⟨((hp.set 0 a).set 1 b).far (Ne.symm hne) 0 _, hqf.set 0 _, (grown_below G5 B h1 h3).trans (grown_below G6 B h2 (by have := G5.size; omega)), fun r k zs hr => ?_⟩
  have h := row_grown hr (row_off hr hp key_zeros) G5
  exact row_grown h (row_off h hqf errno_zero) G6

/-- What Read hands back. -/
def GivesKey (x : Option (List Int × Int)) (w : World) (e : Ending) (w' : World) : Prop := Below w.heap.size w w' ∧
  ((x = none ∧ e = .returned (.tuple #[.agg #[.slice none 0 0, .int .u32 0], .int .i64 2])) ∨
   (∃ (ns : List Int) (ex : Int) (a : Option Addr) (c : Nat), x = some (ns, ex) ∧ e = .returned (.tuple #[.agg #[.slice a ns.length c, .int .u32 ex], .int .i64 0]) ∧ KeyAt w' a ns.length c ex ns))

set_option maxRecDepth 100000 in
set_option maxHeartbeats 2000000 in
theorem kparsed_any (x : T) (v : Value) (w : World) (hin : x.In w v) (hwt : wt x < 30000) : Calls Tryd.prog 20 #[v, .func (.func 21) #[] #[]] w (GivesKey (readK x) w) := by
  have hmf : ∀ (fn : Fn) (first cap : Array Value) (w : World), (Instr.makeFunc fn first cap).run Tryd.prog w = .ok (.func fn first cap) w := fun _ _ _ _ => rfl
  obtain ⟨A, nb, c, K, m, d, rfl⟩ := (T.In.inP x hin).form
  have BX := Lib.hid (Box.start hin)
  have P0 := Blk.new (w.alloc (.cells #[.int .i64 x.tag, .slice A nb c, .slice K m d] 28)) 25 #[.slice none 0 0, .int .u32 0]
  have Q0 := Blk.new ((w.alloc (.cells #[.int .i64 x.tag, .slice A nb c, .slice K m d] 28)).alloc (.cells #[.slice none 0 0, .int .u32 0] 25)) 32 #[.int .i64 0]
  have P1 := P0.alloc (.cells #[.int .i64 0] 32)
  rw [show (w.alloc (.cells #[.int .i64 x.tag, .slice A nb c, .slice K m d] 28)).heap.size = w.heap.size + 1 by simp] at P1
  rw [show ((w.alloc (.cells #[.int .i64 x.tag, .slice A nb c, .slice K m d] 28)).alloc (.cells #[.slice none 0 0, .int .u32 0] 25)).heap.size = w.heap.size + 1 + 1 by simp] at Q0
  have b2 : Below w.heap.size w (((w.alloc (.cells #[.int .i64 x.tag, .slice A nb c, .slice K m d] 28)).alloc (.cells #[.slice none 0 0, .int .u32 0] 25)).alloc (.cells #[.int .i64 0] 32)) := (((Below.refl _ _).alloc (Nat.le_refl _) _).alloc (by simp) _).alloc (by simp; omega) _
  have CO := Lib.hid (keyOf_any x _ _ (T.In.below b2 x hin) hwt)
  have P2 := Lib.hid P1
  have Q2 := Lib.hid Q0
  have B2 := Lib.hid b2
  clear P0 P1 Q0 b2 hin
  go_enter_defers Tryd.func20, Tryd.ntmps20
  obtain ⟨g0, g1, g2⟩ := BX.out.cells
  go_wp2_with fail
  refine CO.out.mono ?_
  rintro e w3 ⟨hb3, hways⟩
  have P3 := Lib.hid (P2.out.below hb3 P2.out.lt)
  have Q3 := Lib.hid (Q2.out.below hb3 Q2.out.lt)
  have B3 := Lib.hid (B2.out.trans (hb3.mono B2.out.size))
  clear CO P2 Q2 B2 hb3 g0 g1 g2 BX
  rcases hways with ⟨hz, rfl⟩ | ⟨ns, ex, a, c3, hz, rfl, hk⟩
  · refine leaves_cons (f := 33) (args := #[.pointer (some ⟨w.heap.size + 1, 0, none⟩), .pointer (some ⟨w.heap.size + 1 + 1, 0, none⟩)]) (by simp) (by simp [go_sem]) ?_
    refine (kcatch_panicking (w.heap.size + 1) (w.heap.size + 1 + 1) 0 _ _ _ P3.out Q3.out (by omega)).mono ?_
    rintro e u' w5 ⟨rfl, rfl, rfl⟩
    have C := caught_key P3.out Q3.out (by omega)
    exact ⟨_, results_two rfl _ _ (w.heap.size + 1) (w.heap.size + 1 + 1) 25 _ (0, 0) _ 2 rfl C.1 rfl (C.2.1.cell 0) Tryd.underlying25 rfl Tryd.sizeKey Tryd.underlying32, B3.out.trans (C.2.2 _ (by omega) (by omega) B3.out.size), .inl ⟨hz, rfl⟩⟩
  · obtain ⟨p0, p1, f0, f1⟩ := P3.out.pair
    have q0 := Q3.out.cell 0
    have h0 := Q3.out.free 0
    simp only [List.getElem?_toArray, List.getElem?_cons_zero] at q0
    have HZ := Lib.hid hz
    have HK := Lib.hid hk
    clear hz hk
    go_wp2_with fail
    refine leaves_cons (f := 33) (args := #[.pointer (some ⟨w.heap.size + 1, 0, none⟩), .pointer (some ⟨w.heap.size + 1 + 1, 0, none⟩)]) (by simp) (by simp [go_sem]) ?_
    refine (kcatch_idle (w.heap.size + 1) (w.heap.size + 1 + 1) _).mono ?_
    rintro e u' w5 ⟨rfl, rfl, rfl⟩
    obtain ⟨C1, C2, C3, C4⟩ := stored_key (B := w.heap.size) P3.out Q3.out (by omega) (by omega) (by omega) B3.out.size (.slice a ns.length c3) (.int .u32 ex)
    exact ⟨_, results_two rfl _ _ (w.heap.size + 1) (w.heap.size + 1 + 1) 25 _ (0, 0) _ 0 rfl C1 rfl (C2.cell 0) Tryd.underlying25 rfl Tryd.sizeKey Tryd.underlying32, B3.out.trans C3, .inr ⟨ns, ex, a, c3, HZ.out, rfl, C4 _ _ _ HK.out.1, HK.out.2⟩⟩

set_option maxHeartbeats 1000000 in
theorem kread_any (x : T) (v : Value) (w : World) (hin : x.In w v) (hwt : wt x < 30000) : Calls Tryd.prog 9 #[v] w (GivesKey (readK x) w) := by
  obtain ⟨A, nb, c, K, m, d, rfl⟩ := (T.In.inP x hin).form
  have X0 := (Blk.new w 28 #[.int .i64 x.tag, .slice A nb c, .slice K m d]).alloc (.cells #[.slice none 0 0, .int .u32 0] 25)
  have S0 := Blk.new (w.alloc (.cells #[.int .i64 x.tag, .slice A nb c, .slice K m d] 28)) 25 #[.slice none 0 0, .int .u32 0]
  rw [show (w.alloc (.cells #[.int .i64 x.tag, .slice A nb c, .slice K m d] 28)).heap.size = w.heap.size + 1 by simp] at S0
  have b2 : Below w.heap.size w ((w.alloc (.cells #[.int .i64 x.tag, .slice A nb c, .slice K m d] 28)).alloc (.cells #[.slice none 0 0, .int .u32 0] 25)) := ((Below.refl _ _).alloc (Nat.le_refl _) _).alloc (by simp) _
  have CP := Lib.hid (kparsed_any x _ _ (T.In.below b2 x hin) hwt)
  obtain ⟨g0, g1, g2, _, _, _⟩ := X0.facts
  have S2 := Lib.hid S0
  have B2 := Lib.hid b2
  clear b2 S0 X0 hin
  go_enter Tryd.func9, Tryd.ntmps9
  go_wp2_with fail
  generalize hw2 : (w.alloc (.cells #[.int .i64 x.tag, .slice A nb c, .slice K m d] 28)).alloc (.cells #[.slice none 0 0, .int .u32 0] 25) = w2 at *
  refine CP.out.mono ?_
  rintro e w3 ⟨hb3, hways⟩
  have S3 := Lib.hid (S2.out.below hb3 S2.out.lt)
  have B3 := Lib.hid (B2.out.trans (hb3.mono B2.out.size))
  obtain ⟨p0, p1, f0, f1⟩ := S3.out.pair
  clear CP S2 B2 hb3 hw2 g0 g1 g2
  rcases hways with ⟨hz, rfl⟩ | ⟨ns, ex, a, c3, hz, rfl, hk⟩
  · have HZ := Lib.hid hz
    clear hz
    go_wp2_with fail
    have G := two_grow (w.heap.size + 1) w3 (.slice none 0 0) (.int .u32 0)
    have C := (S3.out.set 0 (.slice none 0 0)).set 1 (.int .u32 0)
    exact bodyPost_ret (results_nodee rfl _ _ (w.heap.size + 1) 25 _ (0, 0) _ rfl C Tryd.underlying25 rfl Tryd.sizeKey) rfl ⟨B3.out.trans (grown_below G _ (Nat.le_succ _) B3.out.size), .inl ⟨HZ.out, rfl⟩⟩
  · have HZ := Lib.hid hz
    have HK := Lib.hid hk
    clear hz hk
    go_wp2_with fail
    have G := two_grow (w.heap.size + 1) w3 (.slice a ns.length c3) (.int .u32 ex)
    have C := (S3.out.set 0 (.slice a ns.length c3)).set 1 (.int .u32 ex)
    exact bodyPost_ret (results_nodee rfl _ _ (w.heap.size + 1) 25 _ (0, 0) _ rfl C Tryd.underlying25 rfl Tryd.sizeKey) rfl ⟨B3.out.trans (grown_below G _ (Nat.le_succ _) B3.out.size), .inr ⟨ns, ex, a, c3, HZ.out, rfl, row_grown HK.out.1 (row_off HK.out.1 S3.out key_zeros) G, HK.out.2⟩⟩

end Go.Proofs.YtgmefdmeeihgoaaDoor

namespace Go.Proofs.YtgmefdmeeihgoaaDoor
open Go.RowKit
set_option linter.unusedVariables false
set_option linter.unusedSimpArgs false

def sameK (ns : List Int) (e : Int) (ms : List Int) (f : Int) : Bool := (ns == ms) && (e == f)
theorem sameK_is {ns ms : List Int} {e f : Int} (h : sameK ns e ms f = true) : ns = ms ∧ e = f := by
  simpa [sameK] using h
theorem sameK_refl (ns : List Int) (e : Int) : sameK ns e ns e = true := by simp [sameK]

set_option maxHeartbeats 1000000 in
theorem ksame_any (a : Option Addr) (n c : Nat) (e : Int) (ns : List Int) (b : Option Addr) (m d : Nat) (f : Int) (ms : List Int) (w : World) (h1 : KeyAt w a n c e ns) (h2 : KeyAt w b m d f ms) : Calls Tryd.prog 10 #[.agg #[.slice a n c, .int .u32 e], .agg #[.slice b m d, .int .u32 f]] w fun r w' => r = .returned (.bool (sameK ns e ms f)) ∧ Below w.heap.size w w' := by
  have X1 := (key_box w a n c e).alloc (.cells #[.slice b m d, .int .u32 f] 25)
  have Y1 := key_box (w.alloc (.cells #[.slice a n c, .int .u32 e] 25)) b m d f
  rw [show (w.alloc (.cells #[.slice a n c, .int .u32 e] 25)).heap.size = w.heap.size + 1 by simp] at Y1
  have b2 : Below w.heap.size w ((w.alloc (.cells #[.slice a n c, .int .u32 e] 25)).alloc (.cells #[.slice b m d, .int .u32 f] 25)) := ((Below.refl _ _).alloc (Nat.le_refl _) _).alloc (by simp) _
  obtain ⟨x0, x1, _, _⟩ := X1.pair
  obtain ⟨y0, y1, _, _⟩ := Y1.pair
  have kx := conv_at c (h1.1.below b2)
  have ky := conv_at d (h2.1.below b2)
  have ts := strs_test h1.1.2.1 h2.1.2.1
  have B2 := Lib.hid b2
  clear b2 X1 Y1 h1 h2
  go_enter Tryd.func10, Tryd.ntmps10
  by_cases e1 : ns = ms
  rotate_left
  · have t1 : (ns == ms) = false := by simpa using e1
    have F : Hid (sameK ns e ms f = false) := by unfold sameK; rw [t1]; rfl
    rw [t1] at ts
    clear t1 e1
    go_wp2_with fail
    go_ret
    exact ⟨ret_bool F.out.symm, B2.out⟩
  have t1 : (ns == ms) = true := by simpa using e1
  rw [t1] at ts
  by_cases e2 : e = f
  rotate_left
  · have t2 : (e == f) = false := by simpa using e2
    have F : Hid (sameK ns e ms f = false) := by unfold sameK; rw [t1, t2]; rfl
    clear t1 e1 e2
    go_wp2_with fail
    go_ret
    exact ⟨ret_bool F.out.symm, B2.out⟩
  have t2 : (e == f) = true := by simpa using e2
  have F : Hid (sameK ns e ms f = true) := by unfold sameK; rw [t1, t2]; rfl
  clear t1 e1 e2
  go_wp2_with fail
  go_ret
  exact ⟨ret_bool F.out.symm, B2.out⟩

end Go.Proofs.YtgmefdmeeihgoaaDoor
