/-
  Merged texts: RsC, LimP, LimQ, LimR, LimS, LimT, LimU, LimV, LimW, LimX, LnA, LnB.
-/
import Derived.Test.YtdhablbfblkagaaDoorGrC
import Derived.Test.YtdhablbfblkagaaDoorGrA
import Derived.Deep.QuietTactic
import Derived.BigQuiet
import Derived.Laws.BitsLemmas
namespace Go.Proofs.YtdhablbfblkagaaDoor
open Go.RowKit
set_option linter.unusedVariables false

/-- Bytes are appended; what else lies in memory stays. -/
theorem out_append_at {ops : Array Oper} {rest : List Oper} {o : Oper} {a : Act} {Q : Exit → Act → World → Prop} {W0 w : World} {V : Value} {L zs : List Int} {A : Option Addr} {m c : Nat} (hgd : o.guard = none) (s x : Operand)
    (hop : o.op = .call { callee := .builtin .append, args := #[s, x], argTypes := #[22, 22] }) (hs : a.eval s = V) (hout : Out W0 w V L) (hx : a.eval x = .slice A m c) (hr : Row w A m zs) (hnil : A = none → c = 0) (hl : L.length + m ≤ 1000000)
    (h : ∀ V' w', Out W0 w' V' (L ++ zs) → w.grownBy w' V.ownBlock → wpList Tryd.prog ops Q rest (a.put o.dst V') w') : wpList Tryd.prog ops Q (o :: rest) a w := by
  obtain ⟨i0, hi5, hz0, hz1, hz2⟩ := info_parts Tryd.infoByte
  cases A with
  | none =>
    obtain rfl := hnil rfl
    have hm : m = 0 := by
      rcases Nat.eq_zero_or_pos m with h0 | h0
      · exact h0
      · obtain ⟨_, _, e, _⟩ := hr.2.2 h0
        cases e
    subst hm
    obtain rfl : zs = [] := List.eq_nil_of_length_eq_zero hr.1
    refine wpList_append_own_none hgd s x 22 hop W0.heap.size 5 i0 1 Tryd.underlying22 hi5 V L.length _ hs hout.1 hx ?_
    exact h V w (by simpa using hout) (World.grownBy.refl w _)
  | some ad =>
    refine wpList_append_own _ hgd s x 22 hop W0.heap.size 5 i0 (.int .u8 0) 1 1 Tryd.underlying22 hi5 hz0 hz1 hz2 rfl (by decide) V L.length (L.map (Value.int .u8)) hs hout.1 ad m c (zs.map (Value.int .u8)) hx (by rw [List.length_map, hr.1, Nat.mul_one]) hr.cells ?_ (by unfold maxLen; omega) (by omega) hout.2.size ?_
    · intro u hu
      obtain ⟨_, _, rfl⟩ := List.mem_map.1 hu
      rfl
    · intro V' w' hown hg _
      refine h V' w' ⟨?_, hout.2.grown hg hout.2.size (fun k hk => (hout.1.lt k hk).1)⟩ hg
      rw [List.length_append, hr.1, List.map_append]
      exact hown
/-- A row of bytes does not lie in a block of another kind. -/
theorem out_apart {W0 w : World} {V : Value} {L : List Int} {q : Nat} {cs : Array Value} (h : Out W0 w V L) (k : Blk w q 22 cs) : V.ownBlock ≠ some q := by
  intro e
  rcases h.1.2 with ⟨rfl, _⟩ | ⟨g', cap, cur, rfl, _, hg, _⟩
  · simp [Value.ownBlock] at e
  · simp [Value.ownBlock] at e
    subst e
    unfold Blk at k
    rw [k] at hg
    injection hg with hg
    injection hg with _ ht
    cases ht
/-- The row and the variable that holds it. -/
def Held (W0 w : World) (q : Nat) (L : List Int) : Prop := ∃ V, Out W0 w V L ∧ Blk w q 22 #[V] ∧ W0.heap.size ≤ q
theorem held_set {W0 w : World} {q : Nat} {V V' : Value} {L : List Int} (h : Out W0 w V' L) (hb : Blk w q 22 #[V]) (hq : W0.heap.size ≤ q) : Held W0 (w.setCell ⟨q, 0, none⟩ V') q L := by
  refine ⟨V', ⟨h.1.kept (row := some q) ⟨rfl, rfl, rfl, by simp, fun k hk hne => heap_setCell_other w ⟨q, 0, none⟩ k V' (fun e => hne (by simp [e]))⟩ (.inr (out_apart h hb)), h.2.setCell hq _⟩, ?_, hq⟩
  have := hb.set 0 V'
  simpa using this
theorem Held.alloc {W0 w : World} {q : Nat} {L : List Int} (h : Held W0 w q L) (o : Obj) : Held W0 (w.alloc o) q L := by
  obtain ⟨V, h1, h2, h3⟩ := h
  exact ⟨V, h1.alloc o, h2.alloc o, h3⟩
theorem Held.below {W0 w : World} {q : Nat} {L : List Int} (h : Held W0 w q L) : Below W0.heap.size W0 w := by
  obtain ⟨V, h1, _⟩ := h
  exact h1.2

set_option maxHeartbeats 400000 in
set_option maxRecDepth 100000 in
theorem add_any (W0 w : World) (q : Nat) (L zs : List Int) (A : Option Addr) (m c : Nat) (hh : Held W0 w q L) (hr : Row w A m zs) (hnil : A = none → c = 0) (hl : L.length + m ≤ 1000000) :
    Calls Tryd.prog 39 #[.slice A m c, .pointer (some ⟨q, 0, none⟩)] w fun e w' => e = .returned (.tuple #[]) ∧ Held W0 w' q (L ++ zs) := by
  obtain ⟨V, ho, hb, hq⟩ := hh
  obtain ⟨a', c', rfl⟩ := ho.shape
  have HO := Lib.hid ho
  have HR := Lib.hid hr
  have HB := Lib.hid hb
  have HN := Lib.hid hnil
  have HL := Lib.hid hl
  have HQ := Lib.hid hq
  have c0 := hb.cell 0
  simp only [List.getElem?_toArray, List.getElem?_cons_zero] at c0
  clear hnil hl hr ho hb hq
  go_enter Tryd.func39, Tryd.ntmps39
  go_wp2_with (at_builtin; go_must (refine out_append_at (W0 := W0) (L := L) (zs := zs) rfl _ _ rfl rfl HO.out rfl HR.out HN.out HL.out ?_; intro V4 w4 ho4 hg4; obtain ⟨a4, c4, e4⟩ := ho4.shape; rw [List.length_append] at e4; subst e4; have B4 : Hid (Blk w4 q 22 _) := Lib.hid ((hg4.block _ HB.out.lt (out_apart HO.out HB.out).symm).trans HB.out); have d0 := B4.out.cell 0; have f0 := B4.out.free 0; simp only [List.getElem?_toArray, List.getElem?_cons_zero] at d0; have O4 := Lib.hid ho4; clear ho4 hg4 c0))

  go_end0
  exact ⟨rfl, held_set O4.out B4.out HQ.out⟩

def H19 : Array Value := (HEAD.map (Value.int .u8)).toArray
def Z19 : Array Value := (List.replicate 19 (Value.int .u8 0)).toArray
theorem Tryd.size19 : (Tryd.prog.info? 59).map (·.size) = some H19.size := by kernel_rfl
theorem one19 : H19.all (·.oneCell') = true := all_oneCell_toArray (u8_one _)
theorem head_row {w : World} {g : Nat} (h : Blk w g 59 H19) : Row w (some ⟨g, 0, none⟩) 19 HEAD := by
  refine ⟨rfl, by intro x hx; simp [HEAD] at hx; omega, fun _ => ⟨g, 0, rfl, h.lt, fun i hi => ?_⟩⟩
  rw [Nat.zero_add, h.cell i]
  unfold H19
  have hi' : i < HEAD.length := hi
  rw [List.getElem?_toArray, List.getElem?_map, List.getElem?_eq_getElem hi']
  rfl

set_option maxHeartbeats 1000000 in
set_option maxRecDepth 100000 in
theorem frame_any (hz : List Int) (s : Int) (w : World) (hl : hz.length = 32) (hb : ∀ x ∈ hz, 0 ≤ x ∧ x ≤ 255) (s0 : -9223372036854775808 ≤ s) (s1 : s ≤ 9223372036854775807) :
    Calls Tryd.prog 16 #[.agg (bcells hz), .int .i64 s] w (GivesE (frB hz s) (frE s) w) := by
  have BX := Lib.hid (Blk.new w 36 (bcells hz))
  have BW := Lib.hid (box_below w (.cells (bcells hz) 36))
  have HR := Lib.hid (hash_row BX.out hl hb)
  have FB := Lib.hid (frame_byte hb)
  have FS := Lib.hid (frame_split hz)
  have HL := Lib.hid hl
  clear hl hb BX
  go_enter Tryd.func16, Tryd.ntmps16
  generalize hw2 : w.alloc (.cells (bcells hz) 36) = w2 at *
  have CS := Lib.hid (size_any s w2 s0 s1)
  by_cases h1 : 62 ≤ s ∧ s ≤ 512
  · obtain ⟨k, rfl⟩ : ∃ k : Nat, s = (k : Int) := ⟨s.toNat, by omega⟩
    have F1 : Hid (frE (k : Int) = 0) := Lib.hid (if_pos h1)
    have F2 : Hid (frB hz (k : Int) = frameZ hz k) := Lib.hid (if_pos h1)
    have t1 : (decide ((62 : Int) ≤ (k : Int)) && decide ((k : Int) ≤ 512)) = true := by simp; omega
    rw [t1] at CS
    clear t1
    go_wp2_with fail
    refine CS.out.mono ?_
    rintro r w3 ⟨rfl, rfl⟩
    clear CS hw2
    have MK := Lib.hid (make_bytes k (by omega))
    have S3 := Lib.hid (Blk.new w3 59 Z19)
    have S4 : Hid (Blk ((w3.alloc (.cells Z19 59)).setRow w3.heap.size H19) w3.heap.size 59 H19) := Lib.hid (setRow_heap _ _ _ _ _ _ S3.out)
    have B4 : Hid (Below w3.heap.size w3 ((w3.alloc (.cells Z19 59)).setRow w3.heap.size H19)) := Lib.hid (below_setRow (box_below w3 (.cells Z19 59)) (Nat.le_refl _) _)
    go_wp2_with (first
      | (refine wpList_buildTo rfl 59 #[(0, .const (.int .u8 48)), (1, .const (.int .u8 49)), (2, .const (.int .u8 48)), (3, .const (.int .u8 13)), (4, .const (.int .u8 6)), (5, .const (.int .u8 9)), (6, .const (.int .u8 96)), (7, .const (.int .u8 134)), (8, .const (.int .u8 72)), (9, .const (.int .u8 1)), (10, .const (.int .u8 101)), (11, .const (.int .u8 3)), (12, .const (.int .u8 4)), (13, .const (.int .u8 2)), (14, .const (.int .u8 1)), (15, .const (.int .u8 5)), (16, .const (.int .u8 0)), (17, .const (.int .u8 4)), (18, .const (.int .u8 32))] rfl (some 12) rfl H19 (by kernel_rfl) ?_)
      | (refine Great.wpList_allocTo rfl (some 6) rfl (.pointer (some ⟨w3.heap.size, 0, none⟩)) (.cells Z19 59) rfl ?_)
      | (refine wpList_store_rowTo rfl 59 (.tmp 6) (.tmp 12) rfl rfl w3.heap.size H19 rfl rfl 59 Z19 S3.out Tryd.size19 rfl one19 ?_))
    generalize (w3.alloc (.cells Z19 59)).setRow w3.heap.size H19 = w4 at *
    have HD := Lib.hid (head_row S4.out)
    have H4 := Lib.hid (HR.out.below B4.out)
    have B5 := Lib.hid (Below.step BW.out B4.out)
    generalize w3.heap.size = g6 at *
    clear S3 S4 B4 HR BW
    have mk := MK.out
    have O5 := Lib.hid (Out.made (W0 := w4) k (by omega))
    have D5 := Lib.hid (box_below w4 (.cells (madeCells #[.int .u8 0] k) 5))
    clear MK
    simp only [mk, Result.andThen_ok]
    clear mk
    generalize hw5 : w4.alloc (.cells (madeCells #[.int .u8 0] k) 5) = w5 at *
    go_wp2_with fail
    clear hw5
    have H6 : Hid (Held w4 ((w5.alloc (.cells #[.slice (some ⟨w4.heap.size, 0, none⟩) 0 k] 22)).alloc (.cells #[.int .u8 0, .int .u8 1] 5)) w5.heap.size []) :=
      Lib.hid (Held.alloc ⟨_, O5.out.alloc _, Blk.new _ _ _, D5.out.size⟩ _)
    have R6 : Hid (Row ((w5.alloc (.cells #[.slice (some ⟨w4.heap.size, 0, none⟩) 0 k] 22)).alloc (.cells #[.int .u8 0, .int .u8 1] 5)) (some ⟨w5.heap.size + 1, 0, none⟩) 2 [0, 1]) := by
      have := row_const (w5.alloc (.cells #[.slice (some ⟨w4.heap.size, 0, none⟩) 0 k] 22)) [0, 1] (0, 0) (by intro y hy; simp at hy; omega)
      rw [show (w5.alloc (.cells #[.slice (some ⟨w4.heap.size, 0, none⟩) 0 k] 22)).heap.size = w5.heap.size + 1 by simp] at this
      exact Lib.hid this
    clear O5 D5
    generalize w5.heap.size = q at *
    refine (add_any w4 _ q [] [0, 1] _ 2 2 H6.out R6.out (fun e => by cases e) (by simp)).mono ?_
    rintro r w6 ⟨rfl, h7⟩
    rw [List.nil_append] at h7
    have H7 := Lib.hid h7
    clear h7 H6 R6
    go_wp2_with fail
    go_loopg [] (k - 54) (fun gk wr => ∃ j : Nat, gk + j = k - 54 ∧ Held w4 wr q (0 :: 1 :: List.replicate j 255))
    case atStart => exact ⟨0, by omega, H7.out⟩
    case round =>
      obtain ⟨j, hj, V, ho, hb, hqq⟩ := hrel
      have HH : Hid (Held w4 wr q (0 :: 1 :: List.replicate j 255)) := Lib.hid ⟨V, ho, hb, hqq⟩
      have hll : (0 :: 1 :: List.replicate j (255 : Int)).length = j + 2 := by simp
      obtain ⟨a', c', rfl⟩ := ho.shape
      have c0 := hb.cell 0
      simp only [List.getElem?_toArray, List.getElem?_cons_zero] at c0
      clear ho hb
      have NE := Lib.hid (frame_more j)
      have FX := Lib.hid (FS.out k)
      have FY := Lib.hid (FB.out k)
      have JK : Hid (j = k - 54 → 0 :: 1 :: List.replicate (k - 54) (255 : Int) = 0 :: 1 :: List.replicate j 255) := Lib.hid (fun e => by rw [e])
      generalize 0 :: 1 :: List.replicate (k - 54) (255 : Int) = L2 at *
      generalize 0 :: 1 :: List.replicate j (255 : Int) = L at *
      by_cases hlt : j < k - 54
      · have t0 : decide ((L.length : Int) + 1 + 19 + 32 < (k : Int)) = true := decide_eq_true (by omega)
        have hl1 : L.length ≤ 600 := by omega
        clear hll
        go_wp2_with fail
        refine (add_any w4 _ q L [255] _ 1 1 (HH.out.alloc _) (row_const wr [255] (0, 0) (by intro y hy; simp at hy; omega)) (fun e => by cases e) (by omega)).mono ?_
        rintro r w8 ⟨rfl, h8⟩
        have H8 := Lib.hid h8
        clear h8 HH c0
        go_wp2_with fail
        go_roundg (gk - 1)
        case measure => omega
        case rel => exact ⟨j + 1, by omega, by rw [NE.out]; exact H8.out⟩
      · have t0 : decide ((L.length : Int) + 1 + 19 + 32 < (k : Int)) = false := decide_eq_false (by omega)
        have hl1 : L.length ≤ 600 := by omega
        clear hll
        obtain rfl : L2 = L := JK.out (by omega)
        go_wp2_with fail
        refine (add_any w4 _ q L2 [0] _ 1 1 (HH.out.alloc _) (row_const wr [0] (0, 0) (by intro y hy; simp at hy; omega)) (fun e => by cases e) (by omega)).mono ?_
        rintro r w8 ⟨rfl, h8⟩
        have H8 := Lib.hid h8
        have R8 := Lib.hid (HD.out.below h8.below)
        clear h8 HH c0
        go_wp2_with fail
        refine (add_any w4 w8 q (L2 ++ [0]) HEAD (some ⟨g6, 0, none⟩) 19 19 H8.out R8.out (fun e => by cases e) (by simp; omega)).mono ?_
        rintro r w9 ⟨rfl, h9⟩
        have H9 := Lib.hid h9
        have R9 := Lib.hid (H4.out.below h9.below)
        clear h9 H8 R8
        go_wp2_with fail
        refine (add_any w4 w9 q (L2 ++ [0] ++ HEAD) hz (some ⟨w.heap.size, 0, none⟩) 32 32 H9.out R9.out (fun e => by cases e) (by simp [HEAD]; omega)).mono ?_
        rintro r w10 ⟨rfl, V1, ho1, hb1, _⟩
        have HX : Hid (frameZ hz k = L2 ++ [0] ++ HEAD ++ hz) := by
          rw [FX.out]
          simp [HEAD, Hid]
        rw [← HX.out] at ho1
        obtain ⟨a1, d1, rfl⟩ := ho1.shape
        have O1 := Lib.hid ho1
        have c1 := hb1.cell 0
        simp only [List.getElem?_toArray, List.getElem?_cons_zero] at c1
        clear ho1 hb1 H9 R9 HX FX
        generalize frameZ hz k = F at *
        go_wp2_with fail
        go_ret2
        rw [F1.out, F2.out]
        exact out_gives O1.out FY.out B5.out
  · have t1 : (decide ((62 : Int) ≤ s) && decide (s ≤ 512)) = false := by
      simp only [Bool.and_eq_false_iff, decide_eq_false_iff_not]
      omega
    rw [t1] at CS
    have F1 : Hid (frE s = 1) := Lib.hid (if_neg h1)
    have F2 : Hid (frB hz s = []) := Lib.hid (if_neg h1)
    go_wp2_with fail
    refine CS.out.mono ?_
    rintro r w3 ⟨rfl, rfl⟩
    go_wp2_with fail
    go_ret2
    rw [F1.out, F2.out]
    exact gives_err BW.out

end Go.Proofs.YtdhablbfblkagaaDoor

namespace Go.Proofs.YtdhablbfblkagaaDoor
open Go.RowKit
set_option linter.unusedVariables false

/-- The number of a row of limbs. -/
def valZ : List Int → Int
  | [] => 0
  | x :: xs => x + 4294967296 * valZ xs
/-- Each is a limb. -/
def Limbs (l : List Int) : Prop := ∀ x ∈ l, 0 ≤ x ∧ x ≤ 4294967295
/-- The last one is not 0. -/
def Normal (l : List Int) : Prop := ∀ x, l.getLast? = some x → x ≠ 0

theorem Limbs.nil : Limbs [] := fun x h => by cases h
theorem Limbs.cons {x : Int} {xs : List Int} (hx : 0 ≤ x ∧ x ≤ 4294967295) (h : Limbs xs) : Limbs (x :: xs) := by
  intro y hy
  rcases List.mem_cons.1 hy with rfl | hy
  · exact hx
  · exact h y hy
theorem Limbs.append {xs ys : List Int} (h : Limbs xs) (k : Limbs ys) : Limbs (xs ++ ys) := by
  intro y hy
  rcases List.mem_append.1 hy with hy | hy
  · exact h y hy
  · exact k y hy
theorem Limbs.take {xs : List Int} (h : Limbs xs) (k : Nat) : Limbs (xs.take k) := fun y hy => h y (List.mem_of_mem_take hy)
theorem Limbs.drop {xs : List Int} (h : Limbs xs) (k : Nat) : Limbs (xs.drop k) := fun y hy => h y (List.mem_of_mem_drop hy)
theorem Limbs.at {xs : List Int} (h : Limbs xs) (k : Nat) : 0 ≤ xs[k]?.getD 0 ∧ xs[k]?.getD 0 ≤ 4294967295 := by
  rcases Nat.lt_or_ge k xs.length with hk | hk
  · rw [List.getElem?_eq_getElem hk]
    exact h _ (List.getElem_mem hk)
  · rw [List.getElem?_eq_none hk]
    simp
theorem Limbs.one {x : Int} (h0 : 0 ≤ x) (h1 : x ≤ 4294967295) : Limbs [x] := Limbs.nil.cons ⟨h0, h1⟩
theorem Limbs.zeros (n : Nat) : Limbs (List.replicate n 0) := fun y hy => by have := List.eq_of_mem_replicate hy; omega

theorem valZ_append (xs ys : List Int) : valZ (xs ++ ys) = valZ xs + 4294967296 ^ xs.length * valZ ys := by
  induction xs with
  | nil => simp [valZ]
  | cons x xs ih => rw [List.cons_append, valZ, valZ, ih, List.length_cons, Int.pow_succ, Int.mul_add, Int.mul_comm (4294967296 ^ xs.length) 4294967296, Int.mul_assoc, Int.add_assoc]
theorem valZ_one (x : Int) : valZ [x] = x := by simp [valZ]
theorem valZ_zeros (n : Nat) : valZ (List.replicate n 0) = 0 := by
  induction n with
  | zero => rfl
  | succ n ih => rw [List.replicate_succ, valZ, ih]; rfl
theorem valZ_nonneg {xs : List Int} (h : Limbs xs) : 0 ≤ valZ xs := by
  induction xs with
  | nil => exact Int.le_refl _
  | cons x xs ih =>
    have hx := h x (by simp)
    have := ih (fun y hy => h y (by simp [hy]))
    rw [valZ]
    omega
theorem pow_pos32 (n : Nat) : (0 : Int) < 4294967296 ^ n := Int.pow_pos (by decide)
theorem valZ_lt {xs : List Int} (h : Limbs xs) : valZ xs < 4294967296 ^ xs.length := by
  induction xs with
  | nil => decide
  | cons x xs ih =>
    have hx := h x (by simp)
    have := ih (fun y hy => h y (by simp [hy]))
    rw [valZ, List.length_cons, Int.pow_succ]
    omega
/-- The next limb of a beginning. -/
theorem take_snoc32 {zs : List Int} {k : Nat} (h : k < zs.length) : zs.take (k + 1) = zs.take k ++ [zs[k]?.getD 0] := by
  rw [List.take_succ_eq_append_getElem h]
  simp [List.getElem?_eq_getElem h]
theorem valZ_take (zs : List Int) (k : Nat) : valZ (zs.take (k + 1)) = valZ (zs.take k) + 4294967296 ^ k * zs[k]?.getD 0 := by
  rcases Nat.lt_or_ge k zs.length with h | h
  · rw [take_snoc32 h, valZ_append, valZ_one, List.length_take, Nat.min_eq_left (by omega)]
  · rw [List.take_of_length_le (by omega), List.take_of_length_le h, List.getElem?_eq_none h]
    simp
theorem valZ_all {zs : List Int} {k : Nat} (h : zs.length ≤ k) : valZ (zs.take k) = valZ zs := by rw [List.take_of_length_le h]
theorem valZ_split (zs : List Int) (k : Nat) (h : k ≤ zs.length) : valZ zs = valZ (zs.take k) + 4294967296 ^ k * valZ (zs.drop k) := by
  conv => lhs; rw [← List.take_append_drop k zs]
  rw [valZ_append, List.length_take, Nat.min_eq_left h]

/-- Two rows of limbs whose last is not 0 have the same number just if they are the same. -/
theorem normal_tail {x : Int} {xs : List Int} (h : Normal (x :: xs)) : Normal xs := by
  intro y hy
  refine h y ?_
  cases xs with
  | nil => cases hy
  | cons z zs => rw [List.getLast?_cons_cons]; exact hy
theorem val_pos {xs : List Int} (h : Limbs xs) (hn : Normal xs) (hne : xs ≠ []) : 0 < valZ xs := by
  induction xs with
  | nil => exact absurd rfl hne
  | cons x xs ih =>
    have hx := h x (by simp)
    rw [valZ]
    cases xs with
    | nil =>
      have := hn x rfl
      simp [valZ]
      omega
    | cons z zs =>
      have := ih (fun y hy => h y (by simp [hy])) (normal_tail hn) (by simp)
      omega
theorem normal_unique : ∀ {a b : List Int}, Limbs a → Limbs b → Normal a → Normal b → valZ a = valZ b → a = b
  | [], [], _, _, _, _, _ => rfl
  | [], y :: ys, _, hb, _, nb, e => by
    have := val_pos hb nb (by simp)
    rw [← e] at this
    exact absurd this (by simp [valZ])
  | x :: xs, [], ha, _, na, _, e => by
    have := val_pos ha na (by simp)
    rw [e] at this
    exact absurd this (by simp [valZ])
  | x :: xs, y :: ys, ha, hb, na, nb, e => by
    have hx := ha x (by simp)
    have hy := hb y (by simp)
    rw [valZ, valZ] at e
    obtain rfl : x = y := by omega
    have e' : valZ xs = valZ ys := by omega
    rw [normal_unique (fun z hz => ha z (by simp [hz])) (fun z hz => hb z (by simp [hz])) (normal_tail na) (normal_tail nb) e']

/-- The limbs of a number, the last not 0. -/
def limN (n : Nat) : List Int := if h : n = 0 then [] else ((n % 4294967296 : Nat) : Int) :: limN (n / 4294967296)
termination_by n
decreasing_by omega
def limZ (n : Int) : List Int := limN n.toNat
theorem limN_limbs (n : Nat) : Limbs (limN n) := by
  induction n using Nat.strongRecOn with
  | ind n ih =>
    rw [limN]
    split
    · exact Limbs.nil
    · exact (ih _ (by omega)).cons (by omega)
theorem limN_val (n : Nat) : valZ (limN n) = (n : Int) := by
  induction n using Nat.strongRecOn with
  | ind n ih =>
    rw [limN]
    split
    · rename_i h
      rw [h]
      rfl
    · rw [valZ, ih _ (by omega)]
      omega
theorem limN_normal (n : Nat) : Normal (limN n) := by
  induction n using Nat.strongRecOn with
  | ind n ih =>
    intro x hx
    rw [limN] at hx
    split at hx
    · cases hx
    · rename_i h
      by_cases h2 : n / 4294967296 = 0
      · rw [h2, limN, dif_pos rfl] at hx
        simp at hx
        omega
      · have hne : limN (n / 4294967296) ≠ [] := by
          rw [limN, dif_neg h2]
          simp
        obtain ⟨y, ys, hys⟩ := List.exists_cons_of_ne_nil hne
        rw [hys, List.getLast?_cons_cons, ← hys] at hx
        exact ih _ (by omega) x hx
theorem limZ_limbs (n : Int) : Limbs (limZ n) := limN_limbs _
theorem limZ_normal (n : Int) : Normal (limZ n) := limN_normal _
theorem limZ_val {n : Int} (h : 0 ≤ n) : valZ (limZ n) = n := by
  unfold limZ
  rw [limN_val]
  omega
/-- A row of limbs whose last is not 0 is that of its number. -/
theorem limZ_of {l : List Int} (h : Limbs l) (hn : Normal l) : l = limZ (valZ l) := normal_unique h (limZ_limbs _) hn (limZ_normal _) (limZ_val (valZ_nonneg h)).symm
theorem normal_of {l : List Int} (h : l = [] ∨ l[l.length - 1]?.getD 0 ≠ 0) : Normal l := by
  intro x hx
  rcases h with rfl | h
  · cases hx
  · rw [List.getLast?_eq_getElem?] at hx
    rw [hx] at h
    exact h
/-- What is left when the noughts at the end are struck. -/
theorem bare_is {l : List Int} (hl : Limbs l) {k : Nat} (hk : k ≤ l.length) (hz : ∀ i, k ≤ i → l[i]?.getD 0 = 0) (hne : k = 0 ∨ l[k - 1]?.getD 0 ≠ 0) : l.take k = limZ (valZ l) := by
  have hd : l.drop k = List.replicate (l.length - k) 0 := by
    apply List.ext_getElem?
    intro i
    rw [List.getElem?_drop, List.getElem?_replicate]
    have := hz (k + i) (by omega)
    split
    · rename_i h
      rw [List.getElem?_eq_getElem (by omega)] at this ⊢
      simpa using this
    · rw [List.getElem?_eq_none (by omega)]
  have hv : valZ l = valZ (l.take k) := by rw [valZ_split l k hk, hd, valZ_zeros]; simp
  rw [hv]
  refine limZ_of (hl.take k) (normal_of ?_)
  rcases hne with h | h
  · left
    rw [h]
    rfl
  · by_cases h0 : k = 0
    · left
      rw [h0]
      rfl
    · right
      rw [List.length_take, Nat.min_eq_left hk, List.getElem?_take, if_pos (by omega)]
      exact h

end Go.Proofs.YtdhablbfblkagaaDoor

namespace Go.Proofs.YtdhablbfblkagaaDoor
open Go.RowKit
set_option linter.unusedVariables false

theorem pow_mono32 {i j : Nat} (h : i ≤ j) : (4294967296 : Int) ^ i ≤ 4294967296 ^ j := by
  obtain ⟨d, rfl⟩ := Nat.exists_eq_add_of_le h
  rw [Int.pow_add]
  have h1 := pow_pos32 i
  have h2 := pow_pos32 d
  have := Int.mul_le_mul_of_nonneg_left (show (1 : Int) ≤ 4294967296 ^ d by omega) (Int.le_of_lt h1)
  rw [Int.mul_one] at this
  exact this
theorem valZ_parts (zs : List Int) (k : Nat) : valZ zs = valZ (zs.take k) + 4294967296 ^ k * valZ (zs.drop k) := by
  rcases Nat.le_total k zs.length with h | h
  · exact valZ_split zs k h
  · rw [List.take_of_length_le h, List.drop_of_length_le h]
    simp [valZ]
theorem valZ_drop (zs : List Int) (k : Nat) : valZ (zs.drop k) = zs[k]?.getD 0 + 4294967296 * valZ (zs.drop (k + 1)) := by
  rcases Nat.lt_or_ge k zs.length with h | h
  · rw [List.drop_eq_getElem_cons h, valZ, List.getElem?_eq_getElem h]
    rfl
  · rw [List.drop_of_length_le h, List.drop_of_length_le (by omega), List.getElem?_eq_none h]
    rfl
theorem take_lt {zs : List Int} (h : Limbs zs) (k : Nat) : 0 ≤ valZ (zs.take k) ∧ valZ (zs.take k) < 4294967296 ^ k := by
  refine ⟨valZ_nonneg (h.take k), Int.lt_of_lt_of_le (valZ_lt (h.take k)) (pow_mono32 ?_)⟩
  rw [List.length_take]
  omega

/-- How two numbers are ordered. -/
def cmpI (x y : Int) : Int := if x < y then -1 else if y < x then 1 else 0
theorem cmp_less {ps bs : List Int} (ha : Limbs ps) (hb : Limbs bs) {k : Nat} (hd : valZ (ps.drop (k + 1)) = valZ (bs.drop (k + 1))) (h : ps[k]?.getD 0 < bs[k]?.getD 0) : valZ ps < valZ bs := by
  rw [valZ_parts ps k, valZ_parts bs k, valZ_drop ps k, valZ_drop bs k, hd]
  have h1 := take_lt ha k
  have h2 := take_lt hb k
  have hp := pow_pos32 k
  generalize (4294967296 : Int) ^ k = P at *
  generalize valZ (bs.drop (k + 1)) = u at *
  have := Int.mul_le_mul_of_nonneg_left (show ps[k]?.getD 0 + 4294967296 * u + 1 ≤ bs[k]?.getD 0 + 4294967296 * u by omega) (Int.le_of_lt hp)
  rw [Int.mul_add, Int.mul_one] at this
  omega
theorem cmp_lt {ps bs : List Int} (ha : Limbs ps) (hb : Limbs bs) {k : Nat} (hd : valZ (ps.drop (k + 1)) = valZ (bs.drop (k + 1))) (h : ps[k]?.getD 0 < bs[k]?.getD 0) : cmpI (valZ ps) (valZ bs) = -1 := if_pos (cmp_less ha hb hd h)
theorem cmp_gt {ps bs : List Int} (ha : Limbs ps) (hb : Limbs bs) {k : Nat} (hd : valZ (ps.drop (k + 1)) = valZ (bs.drop (k + 1))) (h : bs[k]?.getD 0 < ps[k]?.getD 0) : cmpI (valZ ps) (valZ bs) = 1 := by
  have := cmp_less hb ha hd.symm h
  unfold cmpI
  rw [if_neg (by omega), if_pos this]
theorem cmp_eq {ps bs : List Int} (hd : valZ (ps.drop 0) = valZ (bs.drop 0)) : cmpI (valZ ps) (valZ bs) = 0 := by
  simp only [List.drop_zero] at hd
  unfold cmpI
  rw [hd, if_neg (by omega), if_neg (by omega)]
theorem cmp_down {ps bs : List Int} {k : Nat} (hd : valZ (ps.drop (k + 1)) = valZ (bs.drop (k + 1))) (h : ps[k]?.getD 0 = bs[k]?.getD 0) : valZ (ps.drop k) = valZ (bs.drop k) := by
  rw [valZ_drop ps k, valZ_drop bs k, hd, h]
theorem cmp_top (ps bs : List Int) : valZ (ps.drop (max ps.length bs.length)) = valZ (bs.drop (max ps.length bs.length)) := by
  rw [List.drop_of_length_le (by omega), List.drop_of_length_le (by omega)]
theorem cmpI_neg (x y : Int) : cmpI x y < 0 ↔ x < y := by
  unfold cmpI
  split
  · simp; omega
  · split <;> simp <;> omega

/-- A limb more of a sum: what is laid, and what goes over. -/
theorem sum_step {ps bs out : List Int} {i : Nat} {c : Int} (hl : out.length = i) (h : valZ out + 4294967296 ^ i * c = valZ (ps.take i) + valZ (bs.take i)) :
    valZ (out ++ [(c + ps[i]?.getD 0 + bs[i]?.getD 0) % 4294967296]) + 4294967296 ^ (i + 1) * ((c + ps[i]?.getD 0 + bs[i]?.getD 0) / 4294967296) = valZ (ps.take (i + 1)) + valZ (bs.take (i + 1)) := by
  rw [valZ_append, valZ_one, hl, valZ_take, valZ_take, Int.pow_succ]
  generalize (4294967296 : Int) ^ i = P at *
  generalize ps[i]?.getD 0 = x at *
  generalize bs[i]?.getD 0 = y at *
  have e := Int.emod_add_mul_ediv (c + x + y) 4294967296
  generalize (c + x + y) % 4294967296 = r at *
  generalize (c + x + y) / 4294967296 = q at *
  have e2 : P * r + P * 4294967296 * q = P * (c + x + y) := by rw [← e, Int.mul_add, Int.mul_assoc]
  rw [Int.mul_add, Int.mul_add] at e2
  omega
theorem sum_end {ps bs out : List Int} {i : Nat} (ha : ps.length ≤ i) (hb : bs.length ≤ i) (h : valZ out + 4294967296 ^ i * 0 = valZ (ps.take i) + valZ (bs.take i)) : valZ out = valZ ps + valZ bs := by
  rw [valZ_all ha, valZ_all hb, Int.mul_zero, Int.add_zero] at h
  exact h
/-- A limb more of a difference. -/
theorem dif_step {ps bs out : List Int} {i : Nat} {o o' d : Int} (hl : out.length = i) (h : valZ out - 4294967296 ^ i * o = valZ (ps.take i) - valZ (bs.take i)) (hd : d = ps[i]?.getD 0 - bs[i]?.getD 0 - o + 4294967296 * o') :
    valZ (out ++ [d]) - 4294967296 ^ (i + 1) * o' = valZ (ps.take (i + 1)) - valZ (bs.take (i + 1)) := by
  rw [valZ_append, valZ_one, hl, valZ_take, valZ_take, Int.pow_succ, hd]
  generalize (4294967296 : Int) ^ i = P at *
  generalize ps[i]?.getD 0 = x at *
  generalize bs[i]?.getD 0 = y at *
  have e : P * (x - y - o + 4294967296 * o') = P * x - P * y - P * o + P * 4294967296 * o' := by
    rw [Int.mul_add, Int.mul_sub, Int.mul_sub, Int.mul_assoc]
  rw [e]
  omega
theorem dif_end {ps bs out : List Int} {o : Int} (ha : Limbs ps) (hb : Limbs bs) (ho : Limbs out) (hlo : out.length = ps.length) (hle : valZ bs ≤ valZ ps) (ho1 : 0 ≤ o ∧ o ≤ 1)
    (h : valZ out - 4294967296 ^ ps.length * o = valZ (ps.take ps.length) - valZ (bs.take ps.length)) : valZ out = valZ ps - valZ bs := by
  have hB : valZ (bs.take ps.length) ≤ valZ bs := by
    have h0 := valZ_nonneg (hb.drop ps.length)
    have := valZ_parts bs ps.length
    have hp := pow_pos32 ps.length
    have := Int.mul_nonneg (Int.le_of_lt hp) h0
    omega
  rw [valZ_all (Nat.le_refl _)] at h
  have hlt := valZ_lt ho
  rw [hlo] at hlt
  have hn := valZ_nonneg ho
  have ht := valZ_parts bs ps.length
  have hd0 := valZ_nonneg (hb.drop ps.length)
  have ha2 := valZ_lt ha
  have ht0 := take_lt hb ps.length
  have hp := pow_pos32 ps.length
  generalize (4294967296 : Int) ^ ps.length = P at *
  have ho2 : o = 0 ∨ o = 1 := by omega
  -- nothing of the second one lies above, for it is no greater
  have hdz : valZ (bs.drop ps.length) = 0 := by
    rcases (show valZ (bs.drop ps.length) = 0 ∨ 1 ≤ valZ (bs.drop ps.length) by omega) with h1 | h1
    · exact h1
    · have := Int.mul_le_mul_of_nonneg_left h1 (Int.le_of_lt hp)
      rw [Int.mul_one] at this
      omega
  rw [hdz, Int.mul_zero, Int.add_zero] at ht
  rcases ho2 with rfl | rfl
  · rw [Int.mul_zero, Int.sub_zero] at h
    omega
  · rw [Int.mul_one] at h
    omega

end Go.Proofs.YtdhablbfblkagaaDoor

namespace Go.Proofs.YtdhablbfblkagaaDoor
open Go.RowKit
set_option linter.unusedVariables false

/-- The limbs of a number are handed back. -/
def GivesL (n : Int) (w : World) (e : Ending) (w' : World) : Prop :=
  ∃ a c, e = .returned (.slice a (limZ n).length c) ∧ Row32 w' a (limZ n).length (limZ n) ∧ (a = none → c = 0) ∧ (limZ n).length ≤ c ∧ Below w.heap.size w w'
theorem Out32.gives {w w' : World} {V : Value} {n : Int} (h : Out32 w w' V (limZ n)) : GivesL n w (.returned V) w' := by
  obtain ⟨a, c, rfl, hr⟩ := h.row (limZ_limbs n)
  exact ⟨a, c, rfl, hr, h.nilc, own_cap32 h.1, h.2⟩
theorem row32_limbs {w : World} {a : Option Addr} {n : Nat} {zs : List Int} (h : Row32 w a n zs) : Limbs zs := h.2.1
theorem Row32.first {w : World} {a : Option Addr} {n : Nat} {zs : List Int} (h : Row32 w a n zs) (k : Nat) (hk : k ≤ n) : Row32 w a k (zs.take k) := by
  have hl := h.1
  refine ⟨by rw [List.length_take]; omega, fun x hx => h.2.1 x (List.mem_of_mem_take hx), fun h0 => ?_⟩
  obtain ⟨b, off, e, hb, hc⟩ := h.2.2 (by omega)
  exact ⟨b, off, e, hb, fun i hi => by rw [hc i (by omega), List.getElem?_take, if_pos hi]⟩

theorem part_any (a : Option Addr) (n ca i : Nat) (zs : List Int) (w : World) (hr : Row32 w a n zs) : Calls Tryd.prog 47 #[.slice a n ca, .int .i64 (i : Int)] w fun e w' => e = .returned (.int .u64 (zs[i]?.getD 0)) ∧ w' = w := by
  have xr := hr.num i
  have hl := hr.1
  by_cases h : i < n
  · obtain ⟨b, off, rfl, hb, hc⟩ := hr.2.2 (by omega)
    have c0 := hc i h
    have t0 : decide ((n : Int) ≤ (i : Int)) = false := by simp; omega
    have hI : (i : Int) < (n : Int) := by omega
    generalize zs[i]?.getD 0 = x at *
    have wx : IntKind.u64.wrap x = x := IntWalk.u64_in _ (by omega)
    clear hr hc
    go_enter Tryd.func47, Tryd.ntmps47
    go_wp2_with fail
    go_ret
    exact ⟨rfl, rfl⟩
  · have t0 : decide ((n : Int) ≤ (i : Int)) = true := by simp; omega
    have e : zs[i]?.getD 0 = 0 := by rw [List.getElem?_eq_none (by omega)]; rfl
    rw [e]
    clear hr xr e
    go_enter Tryd.func47, Tryd.ntmps47
    go_wp2_with fail
    go_ret
    exact ⟨rfl, rfl⟩

set_option maxHeartbeats 500000 in
set_option maxRecDepth 10000 in
theorem rbare_own (a : Option Addr) (n ca : Nat) (zs : List Int) (w : World) (hr : Row32 w a n zs) (hca : n ≤ ca) (hn : n ≤ 100000) (hnil : a = none → ca = 0) : Calls Tryd.prog 46 #[.slice a n ca] w (fun e w' => ∃ V, e = .returned V ∧ Out32 w w' V (limZ (valZ zs))) := by
  have HR := Lib.hid hr
  have NI := Lib.hid hnil
  have hl := hr.1
  clear hr hnil
  go_enter Tryd.func46, Tryd.ntmps46
  go_wp2_with fail
  go_loop [3] (fun i => ∃ k : Nat, k ≤ n ∧ i = .int .i64 (k : Int) ∧ (∀ j, k ≤ j → zs[j]?.getD 0 = 0)) (fun i => (intOf i).toNat)
  case atStart => exact ⟨n, Nat.le_refl _, rfl, fun j hj => by rw [List.getElem?_eq_none (by omega)]; rfl⟩
  case round =>
    obtain ⟨k, hk, rfl, hz⟩ := hrel
    have HZ := Lib.hid hz
    clear hz
    by_cases hmore : ∃ j, k = j + 1 ∧ zs[j]?.getD 0 = 0
    · obtain ⟨j, rfl, hx⟩ := hmore
      obtain ⟨b, off, rfl, hb, hc⟩ := HR.out.2.2 (by omega)
      have c0 := hc j (by omega)
      rw [hx] at c0
      have t0 : decide ((0 : Int) < (j : Int) + 1) = true := decide_eq_true (by omega)
      have w1 : IntKind.i64.wrap ((j : Int) + 1 - 1) = (j : Int) := by rw [show (j : Int) + 1 - 1 = (j : Int) by omega]; exact IntWalk.i64_in _ (by omega)
      have wj : IntKind.i64.wrap (j : Int) = (j : Int) := IntWalk.i64_in _ (by omega)
      have jI : (j : Int) < (n : Int) := by omega
      have jN : (0 : Int) ≤ (j : Int) := by omega
      have NZ : Hid (∀ i, j ≤ i → zs[i]?.getD 0 = 0) := Lib.hid (fun i hi => by
        rcases Nat.eq_or_lt_of_le hi with rfl | h
        · exact hx
        · exact HZ.out i h)
      clear hc HZ hx
      rw [show ((j + 1 : Nat) : Int) = (j : Int) + 1 by omega]
      go_wp2_with fail
      go_round
      case rel => exact ⟨j, by omega, by first | rfl | go_num, NZ.out⟩
      case measure => simp only [intOf]; omega
    · have hend : k = 0 ∨ zs[k - 1]?.getD 0 ≠ 0 := by
        rcases Nat.eq_zero_or_pos k with h | h
        · exact .inl h
        · exact .inr (fun e => hmore ⟨k - 1, by omega, e⟩)
      have F := Lib.hid (bare_is (row32_limbs HR.out) (by omega) HZ.out hend)
      have O3 := Lib.hid (out_zero32 w)
      have R3 : Hid (Row32 (w.alloc (.cells #[] 23)) a k (zs.take k)) := Lib.hid ((HR.out.first k hk).below ((Below.refl _ _).alloc (Nat.le_refl _) _))
      have HN : Hid (([] : List Int).length + k ≤ 1000000) := Lib.hid (by simp; omega)
      have kI : (k : Int) ≤ (ca : Int) := by omega
      have kN : (0 : Int) ≤ (k : Int) := by omega
      clear HZ
      by_cases h0 : k = 0
      · subst h0
        have t0 : decide ((0 : Int) < ((0 : Nat) : Int)) = false := by simp
        rw [show ((0 : Nat) : Int) = 0 by rfl]
        go_wp2_with (at_builtin; go_must (refine out_append32 (W0 := w) (L := []) (zs := zs.take 0) rfl _ _ rfl rfl O3.out rfl R3.out NI.out HN.out ?_; intro V4 w4 ho4; rw [List.nil_append, F.out] at ho4; have O4 := Lib.hid ho4; clear ho4))
        go_ret
        exact ⟨_, rfl, O4.out⟩
      · have hx : zs[k - 1]?.getD 0 ≠ 0 := by
          rcases hend with h | h
          · exact absurd h h0
          · exact h
        obtain ⟨j, rfl⟩ : ∃ j, k = j + 1 := ⟨k - 1, by omega⟩
        rw [show j + 1 - 1 = j by omega] at hx
        have NI2 := NI.out
        obtain ⟨b, off, rfl, hb, hc⟩ := HR.out.2.2 (by omega)
        have c0 := hc j (by omega)
        generalize zs[j]?.getD 0 = x at *
        have t0 : decide ((0 : Int) < (j : Int) + 1) = true := decide_eq_true (by omega)
        have t1 : (x == 0) = false := by simpa using hx
        have w1 : IntKind.i64.wrap ((j : Int) + 1 - 1) = (j : Int) := by rw [show (j : Int) + 1 - 1 = (j : Int) by omega]; exact IntWalk.i64_in _ (by omega)
        have wj : IntKind.i64.wrap (j : Int) = (j : Int) := IntWalk.i64_in _ (by omega)
        have jI : (j : Int) < (n : Int) := by omega
        have jN : (0 : Int) ≤ (j : Int) := by omega
        clear hc hend hmore NI2
        rw [show ((j + 1 : Nat) : Int) = (j : Int) + 1 by omega] at kI kN ⊢
        go_wp2_with (at_builtin; go_must (refine out_append32 (W0 := w) (L := []) (zs := zs.take (j + 1)) rfl _ _ rfl rfl O3.out rfl R3.out NI.out HN.out ?_; intro V4 w4 ho4; rw [List.nil_append, F.out] at ho4; have O4 := Lib.hid ho4; clear ho4))
        go_ret
        exact ⟨_, rfl, O4.out⟩
theorem rbare_any (a : Option Addr) (n ca : Nat) (zs : List Int) (w : World) (hr : Row32 w a n zs) (hca : n ≤ ca) (hn : n ≤ 100000) (hnil : a = none → ca = 0) : Calls Tryd.prog 46 #[.slice a n ca] w (GivesL (valZ zs) w) := by
  refine (rbare_own a n ca zs w hr hca hn hnil).mono ?_
  rintro e w' ⟨V, rfl, ho⟩
  exact ho.gives

end Go.Proofs.YtdhablbfblkagaaDoor

namespace Go.Proofs.YtdhablbfblkagaaDoor
open Go.RowKit
set_option linter.unusedVariables false

set_option maxHeartbeats 500000 in
set_option maxRecDepth 10000 in
theorem rcmp_any (a b : Option Addr) (n m ca cb : Nat) (xs ys : List Int) (w : World) (hr : Row32 w a n xs) (hs : Row32 w b m ys) (hn : n ≤ 100000) (hm : m ≤ 100000) : Calls Tryd.prog 25 #[.slice a n ca, .slice b m cb] w fun e w' => e = .returned (.int .i64 (cmpI (valZ xs) (valZ ys))) ∧ w' = w := by
  have HA := Lib.hid hr
  have HB := Lib.hid hs
  have LA := Lib.hid (row32_limbs hr)
  have LB := Lib.hid (row32_limbs hs)
  have TOP := Lib.hid (cmp_top xs ys)
  rw [hr.1, hs.1] at TOP
  clear hr hs
  obtain ⟨mx, hmx⟩ : ∃ mx, max n m = mx := ⟨_, rfl⟩
  rw [hmx] at TOP
  have mI : max (n : Int) (m : Int) = (mx : Int) := by omega
  have mI' : (if (n : Int) < (m : Int) then (m : Int) else (n : Int)) = (mx : Int) := by split <;> omega
  have mb : mx ≤ 100000 := by omega
  have wm : IntKind.i64.wrap ((mx : Int) - 1) = (mx : Int) - 1 := IntWalk.i64_in _ (by omega)
  clear mI mI'
  have e1 : ¬ n < m → n = mx := by omega
  have e2 : n < m → m = mx := by omega
  clear hmx
  go_enter Tryd.func25, Tryd.ntmps25
  go_wp2_with fail
  all_goals (
    go_loop [5] (fun i => ∃ k : Nat, k ≤ mx ∧ i = .int .i64 ((k : Int) - 1) ∧ valZ (xs.drop k) = valZ (ys.drop k)) (fun i => (intOf i + 1).toNat)
    case atStart => exact ⟨mx, Nat.le_refl _, by congr 1; omega, TOP.out⟩
    case round =>
      obtain ⟨k, hk, rfl, hd⟩ := hrel
      have HD := Lib.hid hd
      clear hd
      rcases Nat.eq_zero_or_pos k with h0 | h0
      · subst h0
        have E := cmp_eq HD.out
        rw [show ((0 : Nat) : Int) - 1 = -1 by rfl]
        have t0 : decide ((0 : Int) ≤ -1) = false := by decide
        go_wp2_with fail
        go_ret
        first | exact ⟨rfl, rfl⟩ | exact ⟨by rw [E], rfl⟩
      · obtain ⟨j, rfl⟩ : ∃ j, k = j + 1 := ⟨k - 1, by omega⟩
        have CL := Lib.hid (cmp_lt (k := j) LA.out LB.out HD.out)
        have CG := Lib.hid (cmp_gt (k := j) LA.out LB.out HD.out)
        have CD := Lib.hid (cmp_down (k := j) HD.out)
        rw [show ((j + 1 : Nat) : Int) - 1 = (j : Int) by omega]
        have t0 : decide ((0 : Int) ≤ (j : Int)) = true := decide_eq_true (by omega)
        have w1 : IntKind.i64.wrap ((j : Int) - 1) = (j : Int) - 1 := IntWalk.i64_in _ (by omega)
        obtain ⟨x, hx⟩ : ∃ x, xs[j]?.getD 0 = x := ⟨_, rfl⟩
        obtain ⟨y, hy⟩ : ∃ y, ys[j]?.getD 0 = y := ⟨_, rfl⟩
        rw [hx, hy] at CL CG CD
        have HX := Lib.hid hx
        have HY := Lib.hid hy
        clear HD TOP e1 e2 hx hy
        rcases Int.lt_trichotomy x y with h1 | h1 | h1
        · have E := Lib.hid (CL.out h1)
          have t1 : decide (x < y) = true := decide_eq_true h1
          clear CL CG CD
          go_wp2_with (go_at_call 47; go_must (refine (part_any _ _ _ _ _ _ (by first | exact HA.out | exact HB.out)).mono ?_; rintro e w' ⟨rfl, rfl⟩; first | rw [HX.out] | rw [HY.out]))
          go_ret
          exact ⟨by rw [E.out]; rfl, rfl⟩
        · have E := Lib.hid (CD.out h1)
          have t1 : decide (x < y) = false := decide_eq_false (by omega)
          have t2 : decide (y < x) = false := decide_eq_false (by omega)
          clear CL CG CD
          go_wp2_with (go_at_call 47; go_must (refine (part_any _ _ _ _ _ _ (by first | exact HA.out | exact HB.out)).mono ?_; rintro e w' ⟨rfl, rfl⟩; first | rw [HX.out] | rw [HY.out]))
          go_round
          case rel => exact ⟨j, by omega, rfl, E.out⟩
          case measure => simp only [intOf]; omega
        · have E := Lib.hid (CG.out h1)
          have t1 : decide (x < y) = false := decide_eq_false (by omega)
          have t2 : decide (y < x) = true := decide_eq_true h1
          clear CL CG CD
          go_wp2_with (go_at_call 47; go_must (refine (part_any _ _ _ _ _ _ (by first | exact HA.out | exact HB.out)).mono ?_; rintro e w' ⟨rfl, rfl⟩; first | rw [HX.out] | rw [HY.out]))
          go_ret
          exact ⟨by rw [E.out]; rfl, rfl⟩)

end Go.Proofs.YtdhablbfblkagaaDoor

namespace Go.Proofs.YtdhablbfblkagaaDoor
open Go.RowKit
set_option linter.unusedVariables false

theorem out_nil32 (w : World) : Out32 w w (.slice none 0 0) [] := ⟨⟨rfl, .inl ⟨rfl, rfl⟩⟩, Below.refl _ _⟩
theorem meas_lt {k : Nat} (h : k ≤ 1000000) : (1000001 - ((k : Int) + 1)).toNat < (1000001 - (k : Int)).toNat := by omega
theorem limbs_snoc {L : List Int} {x : Int} (h : Limbs L) (h0 : 0 ≤ x) (h1 : x ≤ 4294967295) : Limbs (L ++ [x]) := by
  intro y hy
  rcases List.mem_append.1 hy with hy | hy
  · exact h y hy
  · simp at hy; omega

end Go.Proofs.YtdhablbfblkagaaDoor

namespace Go.Proofs.YtdhablbfblkagaaDoor
open Go.RowKit
set_option linter.unusedVariables false

/-- What is left of x when y is taken from it; 0 where it can't be. -/
def subI (x y : Int) : Int := if x < y then 0 else x - y
/-- The limbs of a difference are handed back, and whether there is one. -/
def GivesD (x y : Int) (w : World) (e : Ending) (w' : World) : Prop :=
  ∃ a c, e = .returned (.tuple #[.slice a (limZ (subI x y)).length c, .bool (!decide (x < y))]) ∧ Row32 w' a (limZ (subI x y)).length (limZ (subI x y)) ∧ (a = none → c = 0) ∧ (limZ (subI x y)).length ≤ c ∧ Below w.heap.size w w'
theorem limZ_zero : limZ 0 = [] := by unfold limZ; rw [limN]; rfl

end Go.Proofs.YtdhablbfblkagaaDoor

namespace Go.Proofs.YtdhablbfblkagaaDoor
open Go.RowKit
set_option linter.unusedVariables false

theorem valZ_set : ∀ (zs : List Int) (k : Nat) (v : Int), k < zs.length → valZ (zs.set k v) = valZ zs + 4294967296 ^ k * (v - zs[k]?.getD 0)
  | [], k, v, h => by simp at h
  | x :: xs, 0, v, h => by simp [valZ]; omega
  | x :: xs, k + 1, v, h => by
    have ih := valZ_set xs k v (by simpa using h)
    simp only [List.set_cons_succ, valZ, ih, List.getElem?_cons_succ, Int.pow_succ]
    generalize v - xs[k]?.getD 0 = d
    rw [Int.mul_add, Int.mul_comm (4294967296 ^ k) 4294967296, Int.mul_assoc, Int.add_assoc]
theorem limbs_set {zs : List Int} (h : Limbs zs) (k : Nat) {v : Int} (h0 : 0 ≤ v) (h1 : v ≤ 4294967295) : Limbs (zs.set k v) := by
  intro y hy
  rcases List.mem_or_eq_of_mem_set hy with hy | rfl
  · exact h y hy
  · exact ⟨h0, h1⟩
theorem limbs_zeros (n : Nat) : Limbs (List.replicate n 0) := by
  intro y hy
  have := List.eq_of_mem_replicate hy
  omega

theorem mul_mem {P Q c z x y t v w : Int} (h : t = c + z + x * y) (hv : v + Q * P * c = w) : v + Q * P * (t % 4294967296 - z) + Q * (P * 4294967296) * (t / 4294967296) = w + Q * P * (x * y) := by
  have e : 4294967296 * (t / 4294967296) + t % 4294967296 = t := by omega
  have e2 : t % 4294967296 - z + 4294967296 * (t / 4294967296) = c + x * y := by omega
  rw [← hv, ← Int.mul_assoc Q P 4294967296, Int.mul_assoc (Q * P) 4294967296, Int.add_assoc, ← Int.mul_add, e2, Int.mul_add]
  omega
/-- A limb more of a row of a product. -/
theorem mul_step {zs ys : List Int} {i k : Nat} {c x V : Int} (hk : i + k < zs.length) (h : valZ zs + 4294967296 ^ (i + k) * c = V + x * 4294967296 ^ i * valZ (ys.take k)) :
    valZ (zs.set (i + k) ((c + zs[i + k]?.getD 0 + x * ys[k]?.getD 0) % 4294967296)) + 4294967296 ^ (i + (k + 1)) * ((c + zs[i + k]?.getD 0 + x * ys[k]?.getD 0) / 4294967296) = V + x * 4294967296 ^ i * valZ (ys.take (k + 1)) := by
  rw [valZ_set zs _ _ hk, valZ_take]
  rw [Int.pow_add] at h ⊢
  rw [Int.pow_add, Int.pow_succ]
  rw [mul_mem rfl h, Int.mul_add]
  generalize valZ (ys.take k) = T
  generalize ys[k]?.getD 0 = y
  generalize (4294967296 : Int) ^ i = Q
  generalize (4294967296 : Int) ^ k = P
  have : Q * P * (x * y) = x * Q * (P * y) := by
    rw [Int.mul_comm x Q, Int.mul_assoc, Int.mul_assoc, Int.mul_left_comm P x y]
  omega
/-- A row is done. -/
theorem mul_row {zs xs ys : List Int} {i k : Nat} {c : Int} (hm : ys.length ≤ k) (h : valZ zs + 4294967296 ^ (i + k) * c = valZ (xs.take i) * valZ ys + xs[i]?.getD 0 * 4294967296 ^ i * valZ (ys.take k)) :
    valZ zs + 4294967296 ^ (i + k) * c = valZ (xs.take (i + 1)) * valZ ys := by
  rw [h, List.take_of_length_le hm, valZ_take, Int.add_mul, Int.mul_comm (4294967296 ^ i)]
/-- Behind a row nothing is left to carry. -/
theorem mul_carry {zs xs ys : List Int} {i k : Nat} {c : Int} (hz : Limbs zs) (hx : Limbs xs) (hy : Limbs ys) (c0 : 0 ≤ c) (hk : ys.length < k) (h : valZ zs + 4294967296 ^ (i + k) * c = valZ (xs.take (i + 1)) * valZ ys) : c = 0 := by
  have a0 := valZ_nonneg hz
  have a1 := take_lt hx (i + 1)
  have a2 := valZ_lt hy
  have a3 := valZ_nonneg hy
  have h1 : valZ (xs.take (i + 1)) * valZ ys < 4294967296 ^ (i + 1) * 4294967296 ^ ys.length := by
    have p := pow_pos32 (i + 1)
    have q := pow_pos32 ys.length
    have b1 : valZ (xs.take (i + 1)) * valZ ys ≤ 4294967296 ^ (i + 1) * valZ ys := Int.mul_le_mul_of_nonneg_right (by omega) a3
    have b2 : 4294967296 ^ (i + 1) * valZ ys < 4294967296 ^ (i + 1) * 4294967296 ^ ys.length := Int.mul_lt_mul_of_pos_left a2 p
    omega
  rw [← Int.pow_add] at h1
  have h2 : (4294967296 : Int) ^ (i + 1 + ys.length) ≤ 4294967296 ^ (i + k) := pow_mono32 (by omega)
  rcases Int.lt_or_le c 1 with h3 | h3
  · omega
  · have p := pow_pos32 (i + k)
    have : 4294967296 ^ (i + k) * 1 ≤ 4294967296 ^ (i + k) * c := Int.mul_le_mul_of_nonneg_left h3 (by omega)
    omega
theorem mul_range {c z x y : Int} (c0 : 0 ≤ c) (c1 : c ≤ 4294967295) (z0 : 0 ≤ z) (z1 : z ≤ 4294967295) (x0 : 0 ≤ x) (x1 : x ≤ 4294967295) (y0 : 0 ≤ y) (y1 : y ≤ 4294967295) :
    0 ≤ x * y ∧ x * y ≤ 18446744065119617025 ∧ 0 ≤ (c + z + x * y) / 4294967296 ∧ (c + z + x * y) / 4294967296 ≤ 4294967295 ∧ c + z + x * y ≤ 18446744073709551615 := by
  have p : 0 ≤ x * y := Int.mul_nonneg x0 y0
  have q : x * y ≤ 4294967295 * 4294967295 := Int.mul_le_mul x1 y1 y0 (by decide)
  generalize x * y = t at *
  omega

theorem Out32.size {W0 wr : World} {g cap n : Nat} {L : List Int} (h : Out32 W0 wr (.slice (some ⟨g, 0, none⟩) n cap) L) : n = L.length := by
  rcases h.1.2 with ⟨e, _⟩ | ⟨g, cap, cur, e, hb, _⟩
  · cases e
  · injection e
theorem out_made32 {w w1 : World} {m : Nat} (h : w1.ownsRow w.heap.size 23 1 (.slice (some ⟨w.heap.size, 0, none⟩) m m) m (madeCells #[Value.int .u32 0] m).toList) (hg : w.grownBy w1 none) : Out32 w w1 (.slice (some ⟨w.heap.size, 0, none⟩) m m) (List.replicate m 0) := by
  refine ⟨?_, (Below.refl _ _).grown hg (Nat.le_refl _) (fun k h => by cases h)⟩
  rw [toList_madeCells_one] at h
  rw [List.length_replicate, List.map_replicate]
  exact h

end Go.Proofs.YtdhablbfblkagaaDoor

namespace Go.Proofs.YtdhablbfblkagaaDoor
open Go.RowKit
set_option linter.unusedVariables false

theorem part_is (a : Option Addr) (n ca i : Nat) (zs : List Int) (x : Int) (w : World) (hr : Row32 w a n zs) (hx : zs[i]?.getD 0 = x) : Calls Tryd.prog 47 #[.slice a n ca, .int .i64 (i : Int)] w fun e w' => e = .returned (.int .u64 x) ∧ w' = w := hx ▸ part_any a n ca i zs w hr

set_option maxHeartbeats 2000000 in
set_option maxRecDepth 10000 in
theorem rmul_any (a b : Option Addr) (n m ca cb : Nat) (xs ys : List Int) (w : World) (hr : Row32 w a n xs) (hs : Row32 w b m ys) (hn : n ≤ 40000) (hm : m ≤ 40000) : Calls Tryd.prog 32 #[.slice a n ca, .slice b m cb] w (GivesL (valZ xs * valZ ys) w) := by
  obtain ⟨i0, hi, hz0, hz1, hz2⟩ := info_parts Tryd.info32
  have HA := Lib.hid hr
  have HB := Lib.hid hs
  have LA := Lib.hid (row32_limbs hr)
  have LB := Lib.hid (row32_limbs hs)
  have HL : Hid (xs.length = n ∧ ys.length = m) := Lib.hid ⟨hr.1, hs.1⟩
  clear hr hs
  have w1 : IntKind.i64.wrap ((n : Int) + (m : Int)) = (n : Int) + (m : Int) := IntWalk.i64_in _ (by omega)
  have w2 : IntKind.i64.wrap ((n : Int) + (m : Int) + 1) = (n : Int) + (m : Int) + 1 := IntWalk.i64_in _ (by omega)
  go_enter Tryd.func32, Tryd.ntmps32
  go_wp2_with (at_make; refine wpList_make_full _ rfl _ _ 41 rfl w.heap.size 23 i0 (.int .u32 0) 1 Tryd.underlying41 hi hz0 hz1 _ _ _ _ (n + m + 1) rfl rfl ?b0 ?b00 ?b1 ?b2 ?b3 ?_)
  case b0 => first | rfl | omega
  case b00 => first | rfl | omega
  case b1 => rw [hz2]; omega
  case b2 => unfold maxLen; omega
  case b3 => exact Nat.le_refl _
  intro w1 hown0 hgrow
  have HO := Lib.hid (out_made32 hown0 hgrow)
  clear hown0 hgrow hz2 hz1 hz0 hi
  go_wp2_with fail
  go_loopw [6] (fun iV wr => ∃ (i : Nat) (L : List Int), iV = .int .i64 (i : Int) ∧ i ≤ n ∧ Out32 w wr (.slice (some ⟨w.heap.size, 0, none⟩) (n + m + 1) (n + m + 1)) L ∧ Limbs L ∧ L.length = n + m + 1 ∧ valZ L = valZ (xs.take i) * valZ ys) (fun iV _ => (1000001 - intOf iV).toNat)
  case atStart => exact ⟨0, _, rfl, by omega, HO.out, limbs_zeros _, by simp, by simp [valZ, valZ_zeros]⟩
  case round =>
    obtain ⟨i, L0, rfl, hi, ho, hL, hlen, hval⟩ := hrel
    have HO0 := Lib.hid ho
    have HL0 := Lib.hid hL
    have HN0 := Lib.hid hlen
    have HV0 := Lib.hid hval
    clear ho hL hlen hval HO
    by_cases hmore : i < n
    · have t1 : decide ((i : Int) < (n : Int)) = true := decide_eq_true (by omega)
      obtain ⟨x, hx⟩ : ∃ x, xs[i]?.getD 0 = x := ⟨_, rfl⟩
      have HX := Lib.hid hx
      have xr := HA.out.num i
      rw [hx] at xr
      clear hx
      go_wp2_with fail
      go_loopw [7, 8] (fun cV kV wr => ∃ (k : Nat) (c : Int) (L : List Int), cV = .int .u64 c ∧ kV = .int .i64 (k : Int) ∧ k ≤ m + 1 ∧ 0 ≤ c ∧ c ≤ 4294967295 ∧ Out32 w wr (.slice (some ⟨w.heap.size, 0, none⟩) (n + m + 1) (n + m + 1)) L ∧ Limbs L ∧ L.length = n + m + 1 ∧ valZ L + 4294967296 ^ (i + k) * c = valZ (xs.take i) * valZ ys + x * 4294967296 ^ i * valZ (ys.take k)) (fun _ kV _ => (1000001 - intOf kV).toNat)
      case atStart => exact ⟨0, 0, L0, rfl, rfl, by omega, by omega, by omega, HO0.out, HL0.out, HN0.out, by rw [HV0.out]; simp [valZ]⟩
      case round =>
        obtain ⟨k, c, L, rfl, rfl, hk, c0, c1, ho, hL, hlen, hval⟩ := hrel
        have HO := Lib.hid ho
        have HLL := Lib.hid hL
        have HN := Lib.hid hlen
        have HV := Lib.hid hval
        clear ho hL hlen hval HO0 HL0 HN0 HV0
        by_cases hgo : k < m ∨ 0 < c
        · have hkm : k ≤ m := by
            rcases Nat.lt_or_ge m k with h | h
            · have r := mul_row (xs := xs) (ys := ys) (i := i) (k := k) (c := c) (by rw [HL.out.2]; omega) (by rw [HX.out]; exact HV.out)
              have := mul_carry HLL.out LA.out LB.out c0 (by rw [HL.out.2]; exact h) r
              omega
            · exact h
          have hkM : k ≤ 1000000 := by omega
          have hS := mul_step (i := i) (k := k) (c := c) (x := x) (ys := ys) (by rw [HN.out]; omega) HV.out
          obtain ⟨j, hj⟩ : ∃ j, i + k = j := ⟨_, rfl⟩
          have w3 : IntKind.i64.wrap ((i : Int) + (k : Int)) = (j : Int) := by rw [show (i : Int) + (k : Int) = (j : Int) by omega]; exact IntWalk.i64_in _ (by omega)
          rw [hj] at hS
          have jN : j < n + m + 1 := by omega
          have jI : (j : Int) < ((n + m + 1 : Nat) : Int) := by omega
          have jI' : (j : Int) < (n : Int) + (m : Int) + 1 := by omega
          obtain ⟨hc1, hf1⟩ := HO.out.cell j (by rw [HN.out]; exact jN)
          have zr : 0 ≤ L[j]?.getD 0 ∧ L[j]?.getD 0 ≤ 4294967295 := by
            rw [List.getElem?_eq_getElem (by rw [HN.out]; exact jN)]
            exact HLL.out _ (List.getElem_mem _)
          have RA := Lib.hid (HA.out.below HO.out.2)
          have RB := Lib.hid (HB.out.below HO.out.2)
          have yr := HB.out.num k
          obtain ⟨z, hz⟩ : ∃ z, L[j]?.getD 0 = z := ⟨_, rfl⟩
          obtain ⟨y, hy⟩ : ∃ y, ys[k]?.getD 0 = y := ⟨_, rfl⟩
          rw [hz] at zr hc1 hS
          rw [hy] at yr hS
          have HY := Lib.hid hy
          have HS := Lib.hid hS
          have MR := mul_range c0 c1 zr.1 zr.2 xr.1 xr.2 yr.1 yr.2
          have k0 : IntKind.u64.wrap z = z := IntWalk.u64_in _ (by omega)
          have k1 : IntKind.u64.wrap (c + z) = c + z := IntWalk.u64_in _ (by omega)
          have k2 : IntKind.u64.wrap (x * y) = x * y := IntWalk.u64_in _ (by omega)
          have k3 : IntKind.u64.wrap (c + z + x * y) = c + z + x * y := IntWalk.u64_in _ (by omega)
          have k4 : IntKind.u32.wrap (c + z + x * y) = (c + z + x * y) % 4294967296 := rfl
          have k5 : IntKind.u64.wrap ((c + z + x * y) / 4294967296) = (c + z + x * y) / 4294967296 := IntWalk.u64_in _ (by omega)
          have d0 := MR.2.2.1
          have d1 := MR.2.2.2.1
          have LN : Hid (Limbs (L.set j ((c + z + x * y) % 4294967296))) := Lib.hid (limbs_set HLL.out j (by omega) (by omega))
          have HZ := Lib.hid hz
          clear hS hz hy MR
          rcases Nat.lt_or_ge k m with h2 | h2
          · have t2 : decide ((k : Int) < (m : Int)) = true := decide_eq_true (by omega)
            go_wp2_with fail
            go_quiet ((go_at_call 47; exact Calls.quiet_of_same (part_is _ _ _ _ _ _ _ (by first | exact RA.out | exact RB.out) (by first | exact HX.out | exact HY.out))))
            have O2 := Lib.hid (HO.out.drewN nq)
            clear hc1 hf1
            generalize wr.drewN nq = w4 at *
            obtain ⟨hc1, hf1⟩ := O2.out.cell j (by rw [HN.out]; exact jN)
            rw [HZ.out] at hc1
            have O3 := Lib.hid (O2.out.set (Nat.le_refl _) j ((c + z + x * y) % 4294967296))
            go_wp2_with fail
            go_roundw
            case rel => exact ⟨k + 1, _, _, rfl, by go_num, by omega, d0, d1, O3.out, LN.out, by rw [List.length_set]; exact HN.out, HS.out⟩
            case measure => simp only [intOf]; exact meas_lt hkM
          · have t2 : decide ((k : Int) < (m : Int)) = false := decide_eq_false (by omega)
            have t3 : decide (0 < c) = true := decide_eq_true (by omega)
            go_wp2_with fail
            go_quiet ((go_at_call 47; exact Calls.quiet_of_same (part_is _ _ _ _ _ _ _ (by first | exact RA.out | exact RB.out) (by first | exact HX.out | exact HY.out))))
            have O2 := Lib.hid (HO.out.drewN nq)
            clear hc1 hf1
            generalize wr.drewN nq = w4 at *
            obtain ⟨hc1, hf1⟩ := O2.out.cell j (by rw [HN.out]; exact jN)
            rw [HZ.out] at hc1
            have O3 := Lib.hid (O2.out.set (Nat.le_refl _) j ((c + z + x * y) % 4294967296))
            go_wp2_with fail
            go_roundw
            case rel => exact ⟨k + 1, _, _, rfl, by go_num, by omega, d0, d1, O3.out, LN.out, by rw [List.length_set]; exact HN.out, HS.out⟩
            case measure => simp only [intOf]; exact meas_lt hkM
        · obtain rfl : c = 0 := by omega
          have R := Lib.hid (mul_row (xs := xs) (ys := ys) (i := i) (k := k) (c := 0) (by rw [HL.out.2]; omega) (by rw [HX.out]; exact HV.out))
          have t2 : decide ((k : Int) < (m : Int)) = false := decide_eq_false (by omega)
          have hiM : i ≤ 1000000 := by omega
          go_wp2_with fail
          go_roundw
          case rel => exact ⟨i + 1, L, by go_num, by omega, HO.out, HLL.out, HN.out, by rw [← R.out, Int.mul_zero, Int.add_zero]⟩
          case measure => simp only [intOf]; exact meas_lt hiM
    · obtain rfl : i = n := by omega
      have t1 : decide ((i : Int) < (i : Int)) = false := decide_eq_false (by omega)
      have F : Hid (valZ L0 = valZ xs * valZ ys) := Lib.hid (by rw [HV0.out, List.take_of_length_le (by rw [HL.out.1]; omega)])
      have RL : Hid (Row32 wr (some ⟨w.heap.size, 0, none⟩) (i + m + 1) L0) := Lib.hid (Row32.of_own (by have := HO0.out.1; rw [HN0.out] at this; exact this) HL0.out)
      have CB := Lib.hid (rbare_any (some ⟨w.heap.size, 0, none⟩) (i + m + 1) (i + m + 1) L0 wr RL.out (Nat.le_refl _) (by omega) (fun e => by cases e))
      have B1 := Lib.hid HO0.out.2
      rw [F.out] at CB
      clear HV0 F HO0
      go_wp2_with fail
      refine CB.out.mono ?_
      rintro e w5 hg
      obtain ⟨a5, c5, rfl, h5⟩ := hg
      have H5 := Lib.hid h5
      clear h5
      go_wp2_with fail
      go_ret
      exact ⟨a5, c5, rfl, H5.out.1, H5.out.2.1, H5.out.2.2.1, B1.out.trans (H5.out.2.2.2.mono B1.out.size)⟩

end Go.Proofs.YtdhablbfblkagaaDoor

namespace Go.Proofs.YtdhablbfblkagaaDoor
open Go.RowKit
set_option linter.unusedVariables false

/-- The number of a row of bytes, the highest first. -/
def beV (l : List Int) : Int := l.foldl (fun v x => v * 256 + x) 0
theorem beV_nil : beV [] = 0 := rfl
theorem beV_snoc (l : List Int) (x : Int) : beV (l ++ [x]) = beV l * 256 + x := by unfold beV; rw [List.foldl_append]; rfl
theorem beV_take {l : List Int} {i : Nat} (h : i < l.length) : beV (l.take (i + 1)) = beV (l.take i) * 256 + l[i]?.getD 0 := by
  rw [take_snoc32 h, beV_snoc]
theorem beV_nonneg {l : List Int} (h : ∀ x ∈ l, 0 ≤ x ∧ x ≤ 255) : 0 ≤ beV l := by
  have : ∀ (l : List Int) (v : Int), 0 ≤ v → (∀ x ∈ l, 0 ≤ x ∧ x ≤ 255) → 0 ≤ l.foldl (fun v x => v * 256 + x) v := by
    intro l
    induction l with
    | nil => intro v hv _; exact hv
    | cons x xs ih =>
      intro v hv hx
      have := hx x (by simp)
      exact ih _ (by show 0 ≤ v * 256 + x; omega) (fun y hy => hx y (by simp [hy]))
  exact this l 0 (by omega) h
theorem pow256 (q r : Nat) : (256 : Int) ^ (4 * q + r) = 4294967296 ^ q * 256 ^ r := by
  rw [Int.pow_add, Int.pow_mul]
  rfl
/-- A byte more of a number: where it goes, and that it has room there. -/
theorem from_room {L : List Int} (hL : Limbs L) {M : Int} {q r : Nat} (hr : r < 4) (hq : q < L.length) (h : valZ L = M * 256 ^ (4 * q + r + 1)) : L[q]?.getD 0 % 256 ^ (r + 1) = 0 := by
  have e := valZ_parts L q
  rw [valZ_drop L q] at e
  have t := take_lt hL q
  have p := pow_pos32 q
  rw [h, Nat.add_assoc, pow256] at e
  have hT : valZ (L.take q) = 0 := by
    have e3 : valZ (L.take q) % 4294967296 ^ q = 0 := by
      have : valZ (L.take q) = 4294967296 ^ q * (M * 256 ^ (r + 1) - (L[q]?.getD 0 + 4294967296 * valZ (L.drop (q + 1)))) := by
        rw [Int.mul_sub, Int.mul_left_comm]
        omega
      rw [this, Int.mul_emod_right]
    rwa [Int.emod_eq_of_lt t.1 t.2] at e3
  rw [hT, Int.zero_add, Int.mul_left_comm] at e
  have e2 := Int.eq_of_mul_eq_mul_left (by omega) e
  generalize L[q]?.getD 0 = l at *
  generalize valZ (L.drop (q + 1)) = R at *
  obtain rfl | rfl | rfl | rfl : r = 0 ∨ r = 1 ∨ r = 2 ∨ r = 3 := by omega
  all_goals simp only [Nat.zero_add, Nat.reduceAdd, Int.reducePow] at e2 ⊢
  all_goals omega
theorem from_fits {l b : Int} {r : Nat} (hr : r < 4) (l0 : 0 ≤ l) (l1 : l ≤ 4294967295) (b0 : 0 ≤ b) (b1 : b ≤ 255) (h : l % 256 ^ (r + 1) = 0) : 0 ≤ b * 256 ^ r ∧ b * 256 ^ r ≤ 4294967295 ∧ l + b * 256 ^ r ≤ 4294967295 := by
  obtain rfl | rfl | rfl | rfl : r = 0 ∨ r = 1 ∨ r = 2 ∨ r = 3 := by omega
  all_goals simp only [Nat.zero_add, Nat.reduceAdd, Int.reducePow] at h ⊢
  all_goals omega
theorem from_step {L : List Int} {M b : Int} {q r : Nat} (hq : q < L.length) (h : valZ L = M * 256 ^ (4 * q + r + 1)) : valZ (L.set q (L[q]?.getD 0 + b * 256 ^ r)) = (M * 256 + b) * 256 ^ (4 * q + r) := by
  rw [valZ_set L q _ hq, h, show L[q]?.getD 0 + b * 256 ^ r - L[q]?.getD 0 = b * 256 ^ r by omega, Int.pow_succ, pow256, Int.add_mul, Int.mul_left_comm b, Int.mul_right_comm M 256, Int.mul_assoc M _ 256]

/-- The bytes of a number, the highest first, no 0 before them. -/
def byN (n : Nat) : List Int := if h : n = 0 then [] else byN (n / 256) ++ [((n % 256 : Nat) : Int)]
termination_by n
decreasing_by omega
def byZ (n : Int) : List Int := byN n.toNat
theorem byN_byte (n : Nat) : ∀ x ∈ byN n, 0 ≤ x ∧ x ≤ 255 := by
  induction n using Nat.strongRecOn with
  | ind n ih =>
    rw [byN]
    split
    · simp
    · intro x hx
      rcases List.mem_append.1 hx with hx | hx
      · exact ih _ (by omega) x hx
      · simp at hx; omega
theorem byN_nil (n : Nat) : byN n = [] ↔ n = 0 := by
  constructor
  · intro h
    rw [byN] at h
    split at h
    · assumption
    · simp at h
  · rintro rfl
    rw [byN]; rfl
theorem byZ_byte (n : Int) : ∀ x ∈ byZ n, 0 ≤ x ∧ x ≤ 255 := byN_byte _
theorem byZ_step {v c : Int} (hv : 0 ≤ v) (c0 : 0 ≤ c) (c1 : c ≤ 255) : byZ (v * 256 + c) = if 0 < (byZ v).length ∨ 0 < c then byZ v ++ [c] else byZ v := by
  have e : (v * 256 + c).toNat = v.toNat * 256 + c.toNat := by omega
  unfold byZ
  by_cases h : v.toNat * 256 + c.toNat = 0
  · have v0 : v.toNat = 0 := by omega
    have c00 : c = 0 := by omega
    rw [e, h, v0, (byN_nil 0).2 rfl, c00]
    rfl
  · have hb : byN (v.toNat * 256 + c.toNat) = byN v.toNat ++ [c] := by
      rw [byN, dif_neg h, show (v.toNat * 256 + c.toNat) / 256 = v.toNat by omega, show (((v.toNat * 256 + c.toNat) % 256 : Nat) : Int) = c by omega]
    rw [e, hb, if_pos]
    by_cases h2 : 0 < c
    · exact .inr h2
    · left
      apply List.length_pos_iff.2
      intro h3
      have := (byN_nil _).1 h3
      omega
/-- What is taken of a number from above, a byte at a time. -/
theorem to_step {D x : Int} {k : Nat} (hk : k < 4) : (D * 256 ^ (3 - k) + x / 256 ^ (k + 1)) * 256 + x / 256 ^ k % 256 = D * 256 ^ (4 - k) + x / 256 ^ k := by
  obtain rfl | rfl | rfl | rfl : k = 0 ∨ k = 1 ∨ k = 2 ∨ k = 3 := by omega
  all_goals simp only [Nat.zero_add, Nat.reduceAdd, Nat.reduceSub, Int.reducePow]
  all_goals omega

/-- How many bits a number has. -/
def bitN (n : Nat) : Int := if h : n = 0 then 0 else bitN (n / 2) + 1
termination_by n
decreasing_by omega
def bitZ (n : Int) : Int := bitN n.toNat
theorem bitZ_zero : bitZ 0 = 0 := by unfold bitZ; rw [bitN]; rfl
theorem bitZ_step {n : Int} (h : 0 < n) : bitZ n = bitZ (n / 2) + 1 := by
  unfold bitZ
  rw [bitN, dif_neg (by omega), show n.toNat / 2 = (n / 2).toNat by omega]
theorem bitZ_up : ∀ (k : Nat) {x y : Int}, 0 ≤ y → y < 2 ^ k → 0 < x → bitZ (y + 2 ^ k * x) = bitZ x + k
  | 0, x, y, h0, h1, hx => by
    simp at h1
    rw [show y = 0 by omega]
    simp
  | k + 1, x, y, h0, h1, hx => by
    have p : (0 : Int) < 2 ^ k := Int.pow_pos (by decide)
    rw [Int.pow_succ] at h1 ⊢
    have q : 0 < 2 ^ k * x := Int.mul_pos p hx
    have e : y + 2 ^ k * 2 * x = y + 2 * (2 ^ k * x) := by rw [Int.mul_comm (2 ^ k) 2, Int.mul_assoc]
    rw [e, bitZ_step (by omega), show (y + 2 * (2 ^ k * x)) / 2 = y / 2 + 2 ^ k * x by omega, bitZ_up k (by omega) (by omega) hx]
    omega
theorem pow32 (j : Nat) : (4294967296 : Int) ^ j = 2 ^ (32 * j) := by rw [Int.pow_mul]; rfl
/-- The bits of a row of limbs. -/
theorem bitZ_limbs {l : List Int} (hl : Limbs l) {k : Nat} (hk : l.length = k + 1) (h : l[k]?.getD 0 ≠ 0) : bitZ (valZ l) = 32 * (k : Int) + bitZ (l[k]?.getD 0) := by
  have e := valZ_parts l k
  rw [valZ_drop l k, show l.drop (k + 1) = [] from List.drop_of_length_le (by omega)] at e
  have t := take_lt hl k
  have hx : 0 < l[k]?.getD 0 := by
    rw [List.getElem?_eq_getElem (by omega)] at h ⊢
    have := hl _ (List.getElem_mem (show k < l.length by omega))
    simp only [Option.getD_some] at h ⊢
    omega
  rw [e, valZ, Int.mul_zero, Int.add_zero]
  rw [pow32] at t ⊢
  rw [bitZ_up _ t.1 t.2 hx]
  omega

end Go.Proofs.YtdhablbfblkagaaDoor

namespace Go.Proofs.YtdhablbfblkagaaDoor
open Go.RowKit
set_option linter.unusedVariables false

/-- Where the noughts at the end begin. -/
theorem strip_at (zs : List Int) : ∀ m : Nat, m ≤ zs.length → (∀ i, m ≤ i → zs[i]?.getD 0 = 0) → ∃ k, k ≤ zs.length ∧ (∀ i, k ≤ i → zs[i]?.getD 0 = 0) ∧ (k = 0 ∨ zs[k - 1]?.getD 0 ≠ 0)
  | 0, h0, hz => ⟨0, h0, hz, .inl rfl⟩
  | m + 1, h0, hz => by
    by_cases h : zs[m]?.getD 0 = 0
    · exact strip_at zs m (by omega) (fun i hi => by
        rcases Nat.eq_or_lt_of_le hi with rfl | h2
        · exact h
        · exact hz i h2)
    · exact ⟨m + 1, h0, hz, .inr h⟩
/-- A row's limbs, the noughts at the end struck, are its beginning. -/
theorem norm_take {zs : List Int} (h : Limbs zs) : (limZ (valZ zs)).length ≤ zs.length ∧ zs.take (limZ (valZ zs)).length = limZ (valZ zs) := by
  obtain ⟨k, hk, hz, hne⟩ := strip_at zs zs.length (Nat.le_refl _) (fun i hi => by rw [List.getElem?_eq_none hi]; rfl)
  have e := bare_is h hk hz hne
  have hl := congrArg List.length e
  rw [List.length_take, Nat.min_eq_left hk] at hl
  rw [← hl]
  exact ⟨hk, e⟩
theorem Row32.norm {w : World} {a : Option Addr} {n : Nat} {zs : List Int} (h : Row32 w a n zs) : Row32 w a (limZ (valZ zs)).length (limZ (valZ zs)) := by
  have t := norm_take h.2.1
  have hl := h.1
  have := h.first _ (by rw [← hl]; exact t.1)
  rwa [t.2] at this
theorem norm_len {zs : List Int} (h : Limbs zs) {k : Nat} (hk : k ≤ zs.length) (hz : ∀ i, k ≤ i → zs[i]?.getD 0 = 0) (hne : k = 0 ∨ zs[k - 1]?.getD 0 ≠ 0) : k = (limZ (valZ zs)).length := by
  have hl := congrArg List.length (bare_is h hk hz hne)
  rw [List.length_take, Nat.min_eq_left hk] at hl
  exact hl

set_option maxHeartbeats 500000 in
set_option maxRecDepth 10000 in
theorem normalized_any (a : Option Addr) (n ca : Nat) (zs : List Int) (w : World) (hr : Row32 w a n zs) (hca : n ≤ ca) (hn : n ≤ 1000000) (hnil : a = none → ca = 0) :
    Calls Tryd.prog 40 #[.slice a n ca] w fun e w' => e = .returned (.slice a (limZ (valZ zs)).length (limZ (valZ zs)).length) ∧ w' = w := by
  have HR := Lib.hid hr
  have NI := Lib.hid hnil
  have hl := hr.1
  clear hr hnil
  go_enter Tryd.func40, Tryd.ntmps40
  go_wp2_with fail
  go_loop [3] (fun i => ∃ k : Nat, k ≤ n ∧ i = .int .i64 (k : Int) ∧ (∀ j, k ≤ j → zs[j]?.getD 0 = 0)) (fun i => (intOf i).toNat)
  case atStart => exact ⟨n, Nat.le_refl _, rfl, fun j hj => by rw [List.getElem?_eq_none (by omega)]; rfl⟩
  case round =>
    obtain ⟨k, hk, rfl, hz⟩ := hrel
    have HZ := Lib.hid hz
    clear hz
    by_cases hmore : ∃ j, k = j + 1 ∧ zs[j]?.getD 0 = 0
    · obtain ⟨j, rfl, hx⟩ := hmore
      obtain ⟨b, off, rfl, hb, hc⟩ := HR.out.2.2 (by omega)
      have c0 := hc j (by omega)
      rw [hx] at c0
      have t0 : decide ((0 : Int) < (j : Int) + 1) = true := decide_eq_true (by omega)
      have w1 : IntKind.i64.wrap ((j : Int) + 1 - 1) = (j : Int) := by rw [show (j : Int) + 1 - 1 = (j : Int) by omega]; exact IntWalk.i64_in _ (by omega)
      have wj : IntKind.i64.wrap (j : Int) = (j : Int) := IntWalk.i64_in _ (by omega)
      have jI : (j : Int) < (n : Int) := by omega
      have jN : (0 : Int) ≤ (j : Int) := by omega
      have NZ : Hid (∀ i, j ≤ i → zs[i]?.getD 0 = 0) := Lib.hid (fun i hi => by
        rcases Nat.eq_or_lt_of_le hi with rfl | h
        · exact hx
        · exact HZ.out i h)
      clear hc HZ hx
      rw [show ((j + 1 : Nat) : Int) = (j : Int) + 1 by omega]
      go_wp2_with fail
      go_round
      case rel => exact ⟨j, by omega, by first | rfl | go_num, NZ.out⟩
      case measure => simp only [intOf]; omega
    · have hend : k = 0 ∨ zs[k - 1]?.getD 0 ≠ 0 := by
        rcases Nat.eq_zero_or_pos k with h | h
        · exact .inl h
        · exact .inr (fun e => hmore ⟨k - 1, by omega, e⟩)
      have F := Lib.hid (norm_len (row32_limbs HR.out) (by omega) HZ.out hend)
      have kI : (k : Int) ≤ (ca : Int) := by omega
      have kN : (0 : Int) ≤ (k : Int) := by omega
      clear HZ
      by_cases h0 : k = 0
      · subst h0
        have t0 : decide ((0 : Int) < ((0 : Nat) : Int)) = false := by simp
        rw [show ((0 : Nat) : Int) = 0 by rfl] at kI kN ⊢
        cases a with
        | none =>
          obtain rfl := NI.out rfl
          go_wp2_with fail
          go_ret
          exact ⟨by rw [← F.out]; rfl, rfl⟩
        | some ad =>
          go_wp2_with fail
          go_ret
          exact ⟨by rw [← F.out]; rfl, rfl⟩
      · have hx : zs[k - 1]?.getD 0 ≠ 0 := by
          rcases hend with h | h
          · exact absurd h h0
          · exact h
        obtain ⟨j, rfl⟩ : ∃ j, k = j + 1 := ⟨k - 1, by omega⟩
        rw [show j + 1 - 1 = j by omega] at hx
        obtain ⟨b, off, rfl, hb, hc⟩ := HR.out.2.2 (by omega)
        have c0 := hc j (by omega)
        generalize hg : zs[j]?.getD 0 = x at *
        clear hg
        have t0 : decide ((0 : Int) < (j : Int) + 1) = true := decide_eq_true (by omega)
        have t1 : (x == 0) = false := by simpa using hx
        have w1 : IntKind.i64.wrap ((j : Int) + 1 - 1) = (j : Int) := by rw [show (j : Int) + 1 - 1 = (j : Int) by omega]; exact IntWalk.i64_in _ (by omega)
        have wj : IntKind.i64.wrap (j : Int) = (j : Int) := IntWalk.i64_in _ (by omega)
        have jI : (j : Int) < (n : Int) := by omega
        have jN : (0 : Int) ≤ (j : Int) := by omega
        clear hc hend hmore
        rw [show ((j + 1 : Nat) : Int) = (j : Int) + 1 by omega] at kI kN ⊢
        go_wp2_with fail
        go_ret
        exact ⟨by rw [← F.out]; rfl, rfl⟩

theorem naN_int (x : Int) (w : World) : Calls Tryd.prog 57 #[.int .i64 x] w fun e w' => e = .returned (.bool false) ∧ w' = w := by
  have t0 : (x != x) = false := by simp
  go_enter Tryd.func57, Tryd.ntmps57
  go_wp2_with fail
  go_ret
  exact ⟨rfl, rfl⟩
theorem naN_u32 (x : Int) (w : World) : Calls Tryd.prog 58 #[.int .u32 x] w fun e w' => e = .returned (.bool false) ∧ w' = w := by
  have t0 : (x != x) = false := by simp
  go_enter Tryd.func58, Tryd.ntmps58
  go_wp2_with fail
  go_ret
  exact ⟨rfl, rfl⟩
theorem compare_int (x y : Int) (w : World) : Calls Tryd.prog 41 #[.int .i64 x, .int .i64 y] w fun e w' => e = .returned (.int .i64 (cmpI x y)) ∧ w' = w := by
  go_enter Tryd.func41, Tryd.ntmps41
  rcases Int.lt_trichotomy x y with h1 | h1 | h1
  · have t1 : decide (x < y) = true := decide_eq_true h1
    have E : cmpI x y = -1 := if_pos h1
    rw [E]
    clear E
    go_wp2_with (go_at_call 57; go_must (refine (naN_int _ _).mono ?_; rintro e w' ⟨rfl, rfl⟩))
    go_ret
    exact ⟨rfl, rfl⟩
  · have t1 : decide (x < y) = false := decide_eq_false (by omega)
    have t2 : decide (y < x) = false := decide_eq_false (by omega)
    have E : cmpI x y = 0 := by unfold cmpI; rw [if_neg (by omega), if_neg (by omega)]
    rw [E]
    clear E
    go_wp2_with (go_at_call 57; go_must (refine (naN_int _ _).mono ?_; rintro e w' ⟨rfl, rfl⟩))
    go_ret
    exact ⟨rfl, rfl⟩
  · have t1 : decide (x < y) = false := decide_eq_false (by omega)
    have t2 : decide (y < x) = true := decide_eq_true (by omega)
    have E : cmpI x y = 1 := by unfold cmpI; rw [if_neg (by omega), if_pos h1]
    rw [E]
    clear E
    go_wp2_with (go_at_call 57; go_must (refine (naN_int _ _).mono ?_; rintro e w' ⟨rfl, rfl⟩))
    go_ret
    exact ⟨rfl, rfl⟩
theorem compare_u32 (x y : Int) (w : World) : Calls Tryd.prog 42 #[.int .u32 x, .int .u32 y] w fun e w' => e = .returned (.int .i64 (cmpI x y)) ∧ w' = w := by
  go_enter Tryd.func42, Tryd.ntmps42
  rcases Int.lt_trichotomy x y with h1 | h1 | h1
  · have t1 : decide (x < y) = true := decide_eq_true h1
    have E : cmpI x y = -1 := if_pos h1
    rw [E]
    clear E
    go_wp2_with (go_at_call 58; go_must (refine (naN_u32 _ _).mono ?_; rintro e w' ⟨rfl, rfl⟩))
    go_ret
    exact ⟨rfl, rfl⟩
  · have t1 : decide (x < y) = false := decide_eq_false (by omega)
    have t2 : decide (y < x) = false := decide_eq_false (by omega)
    have E : cmpI x y = 0 := by unfold cmpI; rw [if_neg (by omega), if_neg (by omega)]
    rw [E]
    clear E
    go_wp2_with (go_at_call 58; go_must (refine (naN_u32 _ _).mono ?_; rintro e w' ⟨rfl, rfl⟩))
    go_ret
    exact ⟨rfl, rfl⟩
  · have t1 : decide (x < y) = false := decide_eq_false (by omega)
    have t2 : decide (y < x) = true := decide_eq_true (by omega)
    have E : cmpI x y = 1 := by unfold cmpI; rw [if_neg (by omega), if_pos h1]
    rw [E]
    clear E
    go_wp2_with (go_at_call 58; go_must (refine (naN_u32 _ _).mono ?_; rintro e w' ⟨rfl, rfl⟩))
    go_ret
    exact ⟨rfl, rfl⟩

end Go.Proofs.YtdhablbfblkagaaDoor

namespace Go.Proofs.YtdhablbfblkagaaDoor
open Go.RowKit
set_option linter.unusedVariables false

theorem wraps_u32 (n : Int) (h0 : 0 ≤ n) (h1 : n < 2 ^ 32) : IntKind.u32.wrap n = n := by rw [IntKind.wrap_u32]; omega
theorem nand (x y : Nat) (hx : x < 4294967296) (hy : y < 4294967296) : bits .and .u32 (x : Int) (y : Int) = ((x &&& y : Nat) : Int) := (bits_nat .u32 32 (by decide) wraps_u32 x y (by omega) (by omega)).1
theorem nor (x y : Nat) (hx : x < 4294967296) (hy : y < 4294967296) : bits .or .u32 (x : Int) (y : Int) = ((x ||| y : Nat) : Int) := (bits_nat .u32 32 (by decide) wraps_u32 x y (by omega) (by omega)).2
theorem nxor (x y : Nat) (hx : x < 4294967296) (hy : y < 4294967296) : bits .xor .u32 (x : Int) (y : Int) = ((x ^^^ y : Nat) : Int) := by
  have h1 : x % 2 ^ IntKind.u32.bits = x := Nat.mod_eq_of_lt hx
  have h2 : y % 2 ^ IntKind.u32.bits = y := Nat.mod_eq_of_lt hy
  simp only [bits, BitVec.ofInt_natCast, BitVec.toNat_xor, BitVec.toNat_ofNat, h1, h2]
  exact wraps_u32 _ (Int.natCast_nonneg _) (by exact_mod_cast Nat.xor_lt_two_pow (n := 32) hx hy)
theorem nnot (x : Nat) (hx : x < 4294967296) : bits .xor .u32 IntKind.u32.max (x : Int) = ((4294967295 - x : Nat) : Int) := by
  have e := nxor 4294967295 x (by omega) hx
  rw [show IntKind.u32.max = ((4294967295 : Nat) : Int) by decide, e]
  congr 1
  have h := congrArg BitVec.toNat (BitVec.xor_allOnes (x := BitVec.ofNat 32 x))
  rw [BitVec.toNat_xor, BitVec.toNat_not, BitVec.toNat_allOnes, BitVec.toNat_ofNat, Nat.mod_eq_of_lt hx] at h
  rw [Nat.xor_comm]
  exact h

theorem top_sub (x y c : Nat) (hx : x < 4294967296) (hy : y < 4294967296) (hc : c ≤ 1) (d : Nat) (hd : ((d : Nat) : Int) = ((x : Int) - y - c) % 4294967296) :
    ((((4294967295 - x) &&& y) ||| ((4294967295 - (x ^^^ y)) &&& d)) >>> 31 : Nat) = if x < y + c then 1 else 0 := by
  have dl : d < 4294967296 := by omega
  have xl : x ^^^ y < 4294967296 := Nat.xor_lt_two_pow (n := 32) hx hy
  have e1 : (x ^^^ y) / 2147483648 = (x / 2147483648) ^^^ (y / 2147483648) := by
    have := @Nat.shiftRight_xor_distrib 31 x y
    simpa [Nat.shiftRight_eq_div_pow] using this
  rw [Nat.shiftRight_or_distrib, Nat.shiftRight_and_distrib, Nat.shiftRight_and_distrib]
  simp only [Nat.shiftRight_eq_div_pow]
  rw [show (2 : Nat) ^ 31 = 2147483648 by decide]
  have n1 : (4294967295 - x) / 2147483648 = 1 - x / 2147483648 := by omega
  have n2 : (4294967295 - (x ^^^ y)) / 2147483648 = 1 - (x / 2147483648 ^^^ y / 2147483648) := by rw [← e1]; omega
  rw [n1, n2]
  have hX : x / 2147483648 = 0 ∨ x / 2147483648 = 1 := by omega
  have hY : y / 2147483648 = 0 ∨ y / 2147483648 = 1 := by omega
  have hD : d / 2147483648 = 0 ∨ d / 2147483648 = 1 := by omega
  clear n1 n2 e1 xl
  rcases hX with X | X <;> rcases hY with Y | Y <;> rcases hD with D | D <;> rw [X, Y, D] <;> simp <;> omega

/-- A limb's step: what it hands back, and what goes over; s is 1 for a sum, -1 for a difference. -/
def Steps (F : FuncId) (s : Int) : Prop := ∀ (x y c : Int) (w : World), 0 ≤ x → x ≤ 4294967295 → 0 ≤ y → y ≤ 4294967295 → 0 ≤ c → c ≤ 1 →
  Calls Tryd.prog F #[.int .u32 x, .int .u32 y, .int .u32 c] w fun e w' => w' = w ∧ ∃ r q : Int, e = .returned (.tuple #[.int .u32 r, .int .u32 q]) ∧ 0 ≤ r ∧ r ≤ 4294967295 ∧ 0 ≤ q ∧ q ≤ 1 ∧ r + s * (4294967296 * q) = x + s * (y + c)

theorem add32_steps : Steps 84 1 := by
  intro x y c w x0 x1 y0 y1 c0 c1
  have k1 : IntKind.u64.wrap x = x := IntWalk.u64_in _ (by omega)
  have k2 : IntKind.u64.wrap y = y := IntWalk.u64_in _ (by omega)
  have k3 : IntKind.u64.wrap c = c := IntWalk.u64_in _ (by omega)
  have k4 : IntKind.u64.wrap (x + y) = x + y := IntWalk.u64_in _ (by omega)
  have k5 : IntKind.u64.wrap (x + y + c) = x + y + c := IntWalk.u64_in _ (by omega)
  have k6 : IntKind.u32.wrap (x + y + c) = (x + y + c) % 4294967296 := rfl
  have k7 : IntKind.u64.wrap ((x + y + c) / 4294967296) = (x + y + c) / 4294967296 := IntWalk.u64_in _ (by omega)
  have k8 : IntKind.u32.wrap ((x + y + c) / 4294967296) = (x + y + c) / 4294967296 := IntWalk.u32_in _ (by omega)
  go_enter Tryd.func84, Tryd.ntmps84
  go_wp2_with fail
  go_ret2
  exact ⟨rfl, _, _, rfl, by omega, by omega, by omega, by omega, by omega⟩

theorem sub32_steps : Steps 83 (-1) := by
  intro x y c w x0 x1 y0 y1 c0 c1
  have k1 : IntKind.u32.wrap (x - y) = (x - y) % 4294967296 := rfl
  have k2 : IntKind.u32.wrap ((x - y) % 4294967296 - c) = (x - y - c) % 4294967296 := by
    show ((x - y) % 4294967296 - c) % 4294967296 = _
    omega
  obtain ⟨d, hd⟩ : ∃ d : Nat, (d : Int) = (x - y - c) % 4294967296 := ⟨((x - y - c) % 4294967296).toNat, by omega⟩
  rw [← hd] at k2
  obtain ⟨X, rfl⟩ : ∃ X : Nat, x = (X : Int) := ⟨x.toNat, by omega⟩
  obtain ⟨Y, rfl⟩ : ∃ Y : Nat, y = (Y : Int) := ⟨y.toNat, by omega⟩
  obtain ⟨C, rfl⟩ : ∃ C : Nat, c = (C : Int) := ⟨c.toNat, by omega⟩
  have dl : d < 4294967296 := by omega
  have T := top_sub X Y C (by omega) (by omega) (by omega) d hd
  have xl : X ^^^ Y < 4294967296 := Nat.xor_lt_two_pow (n := 32) (by omega) (by omega)
  have b1 := nnot X (by omega)
  have b2 := nxor X Y (by omega) (by omega)
  have b3 := nnot (X ^^^ Y) (by omega)
  have b4 := nand (4294967295 - X) Y (by omega) (by omega)
  have b5 := nand (4294967295 - (X ^^^ Y)) d (by omega) (by omega)
  have l4 : (4294967295 - X) &&& Y < 4294967296 := Nat.lt_of_le_of_lt Nat.and_le_right (by omega)
  have l5 : (4294967295 - (X ^^^ Y)) &&& d < 4294967296 := Nat.lt_of_le_of_lt Nat.and_le_right dl
  have b6 := nor _ _ l4 l5
  rw [Nat.shiftRight_eq_div_pow, show (2 : Nat) ^ 31 = 2147483648 by decide] at T
  have T2 : ((((4294967295 - X) &&& Y ||| (4294967295 - (X ^^^ Y)) &&& d : Nat) : Int)) / 2147483648 = if X < Y + C then 1 else 0 := by
    have := congrArg (fun n : Nat => (n : Int)) T
    rw [Int.natCast_ediv] at this
    rw [show ((2147483648 : Nat) : Int) = 2147483648 by rfl] at this
    rw [this]
    split <;> rfl
  generalize ((4294967295 - X) &&& Y ||| (4294967295 - (X ^^^ Y)) &&& d : Nat) = u at *
  have k3 : IntKind.u32.wrap ((u : Int) / 2147483648) = (u : Int) / 2147483648 := by
    rw [T2]
    split <;> rfl
  have HD := Lib.hid hd
  have HT := Lib.hid T2
  clear hd T T2 xl dl
  go_enter Tryd.func83, Tryd.ntmps83
  go_wp2_with fail
  go_ret2
  have hd := HD.out
  have hT := HT.out
  have hq : (u : Int) / 2147483648 = 0 ∧ Y + C ≤ X ∨ (u : Int) / 2147483648 = 1 ∧ X < Y + C := by
    rw [hT]
    split
    · exact .inr ⟨rfl, by assumption⟩
    · exact .inl ⟨rfl, by omega⟩
  exact ⟨rfl, _, _, rfl, by omega, by omega, by omega, by omega, by omega⟩

end Go.Proofs.YtdhablbfblkagaaDoor
