/-
  What the package's Frame answers, for stage 9 (rsa).
-/
import Derived.Test.YtdhablbfblkagaaRsB
namespace Go.Proofs.Ytdhablbfblkagaa
open Go.RowKit
set_option linter.unusedVariables false

/-- Bytes are appended; what else lies in memory stays. -/
theorem out_append_at {ops : Array Oper} {rest : List Oper} {o : Oper} {a : Act} {Q : Exit → Act → World → Prop} {W0 w : World} {V : Value} {L zs : List Int} {A : Option Addr} {m c : Nat} (hgd : o.guard = none) (s x : Operand)
    (hop : o.op = .call { callee := .builtin .append, args := #[s, x], argTypes := #[23, 23] }) (hs : a.eval s = V) (hout : Out W0 w V L) (hx : a.eval x = .slice A m c) (hr : Row w A m zs) (hnil : A = none → c = 0) (hl : L.length + m ≤ 1000000)
    (h : ∀ V' w', Out W0 w' V' (L ++ zs) → w.grownBy w' V.ownBlock → wpList Try.prog ops Q rest (a.put o.dst V') w') : wpList Try.prog ops Q (o :: rest) a w := by
  obtain ⟨i0, hi5, hz0, hz1, hz2⟩ := info_parts Try.infoByte
  cases A with
  | none =>
    obtain rfl := hnil rfl
    have hm : m = 0 := by
      rcases Nat.eq_zero_or_pos m with h0 | h0
      · exact h0
      · obtain ⟨_, _, e, _⟩ := hr.2.2 h0
        cases e
    subst hm
    obtain rfl : zs = [] := List.eq_nil_of_length_eq_zero hr.1
    refine wpList_append_own_none hgd s x 23 hop W0.heap.size 5 i0 1 Try.underlying23 hi5 V L.length _ hs hout.1 hx ?_
    exact h V w (by simpa using hout) (World.grownBy.refl w _)
  | some ad =>
    refine wpList_append_own _ hgd s x 23 hop W0.heap.size 5 i0 (.int .u8 0) 1 1 Try.underlying23 hi5 hz0 hz1 hz2 rfl (by decide) V L.length (L.map (Value.int .u8)) hs hout.1 ad m c (zs.map (Value.int .u8)) hx (by rw [List.length_map, hr.1, Nat.mul_one]) hr.cells ?_ (by unfold maxLen; omega) (by omega) hout.2.size ?_
    · intro u hu
      obtain ⟨_, _, rfl⟩ := List.mem_map.1 hu
      rfl
    · intro V' w' hown hg _
      refine h V' w' ⟨?_, hout.2.grown hg hout.2.size (fun k hk => (hout.1.lt k hk).1)⟩ hg
      rw [List.length_append, hr.1, List.map_append]
      exact hown
/-- A row of bytes does not lie in a block of another kind. -/
theorem out_apart {W0 w : World} {V : Value} {L : List Int} {q : Nat} {cs : Array Value} (h : Out W0 w V L) (k : Blk w q 23 cs) : V.ownBlock ≠ some q := by
  intro e
  rcases h.1.2 with ⟨rfl, _⟩ | ⟨g', cap, cur, rfl, _, hg, _⟩
  · simp [Value.ownBlock] at e
  · simp [Value.ownBlock] at e
    subst e
    unfold Blk at k
    rw [k] at hg
    injection hg with hg
    injection hg with _ ht
    cases ht
/-- The row and the variable that holds it. -/
def Held (W0 w : World) (q : Nat) (L : List Int) : Prop := ∃ V, Out W0 w V L ∧ Blk w q 23 #[V] ∧ W0.heap.size ≤ q
theorem held_set {W0 w : World} {q : Nat} {V V' : Value} {L : List Int} (h : Out W0 w V' L) (hb : Blk w q 23 #[V]) (hq : W0.heap.size ≤ q) : Held W0 (w.setCell ⟨q, 0, none⟩ V') q L := by
  refine ⟨V', ⟨h.1.kept (row := some q) ⟨rfl, rfl, rfl, by simp, fun k hk hne => heap_setCell_other w ⟨q, 0, none⟩ k V' (fun e => hne (by simp [e]))⟩ (.inr (out_apart h hb)), h.2.setCell hq _⟩, ?_, hq⟩
  have := hb.set 0 V'
  simpa using this
theorem Held.alloc {W0 w : World} {q : Nat} {L : List Int} (h : Held W0 w q L) (o : Obj) : Held W0 (w.alloc o) q L := by
  obtain ⟨V, h1, h2, h3⟩ := h
  exact ⟨V, h1.alloc o, h2.alloc o, h3⟩
theorem Held.below {W0 w : World} {q : Nat} {L : List Int} (h : Held W0 w q L) : Below W0.heap.size W0 w := by
  obtain ⟨V, h1, _⟩ := h
  exact h1.2

set_option maxHeartbeats 400000 in
set_option maxRecDepth 100000 in
theorem add_any (W0 w : World) (q : Nat) (L zs : List Int) (A : Option Addr) (m c : Nat) (hh : Held W0 w q L) (hr : Row w A m zs) (hnil : A = none → c = 0) (hl : L.length + m ≤ 1000000) :
    Calls Try.prog 11 #[.slice A m c, .pointer (some ⟨q, 0, none⟩)] w fun e w' => e = .returned (.tuple #[]) ∧ Held W0 w' q (L ++ zs) := by
  obtain ⟨V, ho, hb, hq⟩ := hh
  obtain ⟨a', c', rfl⟩ := ho.shape
  have HO := Lib.hid ho
  have HR := Lib.hid hr
  have HB := Lib.hid hb
  have HN := Lib.hid hnil
  have HL := Lib.hid hl
  have HQ := Lib.hid hq
  have c0 := hb.cell 0
  simp only [List.getElem?_toArray, List.getElem?_cons_zero] at c0
  clear hnil hl hr ho hb hq
  go_enter Try.func11, Try.ntmps11
  go_wp2_with (at_builtin; go_must (refine out_append_at (W0 := W0) (L := L) (zs := zs) rfl _ _ rfl rfl HO.out rfl HR.out HN.out HL.out ?_; intro V4 w4 ho4 hg4; obtain ⟨a4, c4, e4⟩ := ho4.shape; rw [List.length_append] at e4; subst e4; have B4 : Hid (Blk w4 q 23 _) := Lib.hid ((hg4.block _ HB.out.lt (out_apart HO.out HB.out).symm).trans HB.out); have d0 := B4.out.cell 0; have f0 := B4.out.free 0; simp only [List.getElem?_toArray, List.getElem?_cons_zero] at d0; have O4 := Lib.hid ho4; clear ho4 hg4 c0))

  go_end0
  exact ⟨rfl, held_set O4.out B4.out HQ.out⟩

def H19 : Array Value := (HEAD.map (Value.int .u8)).toArray
def Z19 : Array Value := (List.replicate 19 (Value.int .u8 0)).toArray
theorem Try.size19 : (Try.prog.info? 34).map (·.size) = some H19.size := by kernel_rfl
theorem one19 : H19.all (·.oneCell') = true := all_oneCell_toArray (u8_one _)
theorem head_row {w : World} {g : Nat} (h : Blk w g 34 H19) : Row w (some ⟨g, 0, none⟩) 19 HEAD := by
  refine ⟨rfl, by intro x hx; simp [HEAD] at hx; omega, fun _ => ⟨g, 0, rfl, h.lt, fun i hi => ?_⟩⟩
  rw [Nat.zero_add, h.cell i]
  unfold H19
  have hi' : i < HEAD.length := hi
  rw [List.getElem?_toArray, List.getElem?_map, List.getElem?_eq_getElem hi']
  rfl

set_option maxHeartbeats 1000000 in
set_option maxRecDepth 100000 in
theorem frame_any (hz : List Int) (s : Int) (w : World) (hl : hz.length = 32) (hb : ∀ x ∈ hz, 0 ≤ x ∧ x ≤ 255) (s0 : -9223372036854775808 ≤ s) (s1 : s ≤ 9223372036854775807) :
    Calls Try.prog 6 #[.agg (bcells hz), .int .i64 s] w (GivesE (frB hz s) (frE s) w) := by
  have BX := Lib.hid (Blk.new w 22 (bcells hz))
  have BW := Lib.hid (box_below w (.cells (bcells hz) 22))
  have HR := Lib.hid (hash_row BX.out hl hb)
  have FB := Lib.hid (frame_byte hb)
  have FS := Lib.hid (frame_split hz)
  have HL := Lib.hid hl
  clear hl hb BX
  go_enter Try.func6, Try.ntmps6
  generalize hw2 : w.alloc (.cells (bcells hz) 22) = w2 at *
  have CS := Lib.hid (size_any s w2 s0 s1)
  by_cases h1 : 62 ≤ s ∧ s ≤ 512
  · obtain ⟨k, rfl⟩ : ∃ k : Nat, s = (k : Int) := ⟨s.toNat, by omega⟩
    have F1 : Hid (frE (k : Int) = 0) := Lib.hid (if_pos h1)
    have F2 : Hid (frB hz (k : Int) = frameZ hz k) := Lib.hid (if_pos h1)
    have t1 : (decide ((62 : Int) ≤ (k : Int)) && decide ((k : Int) ≤ 512)) = true := by simp; omega
    rw [t1] at CS
    clear t1
    go_wp2_with fail
    refine CS.out.mono ?_
    rintro r w3 ⟨rfl, rfl⟩
    clear CS hw2
    have MK := Lib.hid (make_bytes k (by omega))
    have S3 := Lib.hid (Blk.new w3 34 Z19)
    have S4 : Hid (Blk ((w3.alloc (.cells Z19 34)).setRow w3.heap.size H19) w3.heap.size 34 H19) := Lib.hid (setRow_heap _ _ _ _ _ _ S3.out)
    have B4 : Hid (Below w3.heap.size w3 ((w3.alloc (.cells Z19 34)).setRow w3.heap.size H19)) := Lib.hid (below_setRow (box_below w3 (.cells Z19 34)) (Nat.le_refl _) _)
    go_wp2_with (first
      | (refine wpList_buildTo rfl 34 #[(0, .const (.int .u8 48)), (1, .const (.int .u8 49)), (2, .const (.int .u8 48)), (3, .const (.int .u8 13)), (4, .const (.int .u8 6)), (5, .const (.int .u8 9)), (6, .const (.int .u8 96)), (7, .const (.int .u8 134)), (8, .const (.int .u8 72)), (9, .const (.int .u8 1)), (10, .const (.int .u8 101)), (11, .const (.int .u8 3)), (12, .const (.int .u8 4)), (13, .const (.int .u8 2)), (14, .const (.int .u8 1)), (15, .const (.int .u8 5)), (16, .const (.int .u8 0)), (17, .const (.int .u8 4)), (18, .const (.int .u8 32))] rfl (some 12) rfl H19 (by kernel_rfl) ?_)
      | (refine Great.wpList_allocTo rfl (some 6) rfl (.pointer (some ⟨w3.heap.size, 0, none⟩)) (.cells Z19 34) rfl ?_)
      | (refine wpList_store_rowTo rfl 34 (.tmp 6) (.tmp 12) rfl rfl w3.heap.size H19 rfl rfl 34 Z19 S3.out Try.size19 rfl one19 ?_))
    generalize (w3.alloc (.cells Z19 34)).setRow w3.heap.size H19 = w4 at *
    have HD := Lib.hid (head_row S4.out)
    have H4 := Lib.hid (HR.out.below B4.out)
    have B5 := Lib.hid (Below.step BW.out B4.out)
    generalize w3.heap.size = g6 at *
    clear S3 S4 B4 HR BW
    have mk := MK.out
    have O5 := Lib.hid (Out.made (W0 := w4) k (by omega))
    have D5 := Lib.hid (box_below w4 (.cells (madeCells #[.int .u8 0] k) 5))
    clear MK
    simp only [mk, Result.andThen_ok]
    clear mk
    generalize hw5 : w4.alloc (.cells (madeCells #[.int .u8 0] k) 5) = w5 at *
    go_wp2_with fail
    clear hw5
    have H6 : Hid (Held w4 ((w5.alloc (.cells #[.slice (some ⟨w4.heap.size, 0, none⟩) 0 k] 23)).alloc (.cells #[.int .u8 0, .int .u8 1] 5)) w5.heap.size []) :=
      Lib.hid (Held.alloc ⟨_, O5.out.alloc _, Blk.new _ _ _, D5.out.size⟩ _)
    have R6 : Hid (Row ((w5.alloc (.cells #[.slice (some ⟨w4.heap.size, 0, none⟩) 0 k] 23)).alloc (.cells #[.int .u8 0, .int .u8 1] 5)) (some ⟨w5.heap.size + 1, 0, none⟩) 2 [0, 1]) := by
      have := row_const (w5.alloc (.cells #[.slice (some ⟨w4.heap.size, 0, none⟩) 0 k] 23)) [0, 1] (0, 0) (by intro y hy; simp at hy; omega)
      rw [show (w5.alloc (.cells #[.slice (some ⟨w4.heap.size, 0, none⟩) 0 k] 23)).heap.size = w5.heap.size + 1 by simp] at this
      exact Lib.hid this
    clear O5 D5
    generalize w5.heap.size = q at *
    refine (add_any w4 _ q [] [0, 1] _ 2 2 H6.out R6.out (fun e => by cases e) (by simp)).mono ?_
    rintro r w6 ⟨rfl, h7⟩
    rw [List.nil_append] at h7
    have H7 := Lib.hid h7
    clear h7 H6 R6
    go_wp2_with fail
    go_loopg [] (k - 54) (fun gk wr => ∃ j : Nat, gk + j = k - 54 ∧ Held w4 wr q (0 :: 1 :: List.replicate j 255))
    case atStart => exact ⟨0, by omega, H7.out⟩
    case round =>
      obtain ⟨j, hj, V, ho, hb, hqq⟩ := hrel
      have HH : Hid (Held w4 wr q (0 :: 1 :: List.replicate j 255)) := Lib.hid ⟨V, ho, hb, hqq⟩
      have hll : (0 :: 1 :: List.replicate j (255 : Int)).length = j + 2 := by simp
      obtain ⟨a', c', rfl⟩ := ho.shape
      have c0 := hb.cell 0
      simp only [List.getElem?_toArray, List.getElem?_cons_zero] at c0
      clear ho hb
      have NE := Lib.hid (frame_more j)
      have FX := Lib.hid (FS.out k)
      have FY := Lib.hid (FB.out k)
      have JK : Hid (j = k - 54 → 0 :: 1 :: List.replicate (k - 54) (255 : Int) = 0 :: 1 :: List.replicate j 255) := Lib.hid (fun e => by rw [e])
      generalize 0 :: 1 :: List.replicate (k - 54) (255 : Int) = L2 at *
      generalize 0 :: 1 :: List.replicate j (255 : Int) = L at *
      by_cases hlt : j < k - 54
      · have t0 : decide ((L.length : Int) + 1 + 19 + 32 < (k : Int)) = true := decide_eq_true (by omega)
        have hl1 : L.length ≤ 600 := by omega
        clear hll
        go_wp2_with fail
        refine (add_any w4 _ q L [255] _ 1 1 (HH.out.alloc _) (row_const wr [255] (0, 0) (by intro y hy; simp at hy; omega)) (fun e => by cases e) (by omega)).mono ?_
        rintro r w8 ⟨rfl, h8⟩
        have H8 := Lib.hid h8
        clear h8 HH c0
        go_wp2_with fail
        go_roundg (gk - 1)
        case measure => omega
        case rel => exact ⟨j + 1, by omega, by rw [NE.out]; exact H8.out⟩
      · have t0 : decide ((L.length : Int) + 1 + 19 + 32 < (k : Int)) = false := decide_eq_false (by omega)
        have hl1 : L.length ≤ 600 := by omega
        clear hll
        obtain rfl : L2 = L := JK.out (by omega)
        go_wp2_with fail
        refine (add_any w4 _ q L2 [0] _ 1 1 (HH.out.alloc _) (row_const wr [0] (0, 0) (by intro y hy; simp at hy; omega)) (fun e => by cases e) (by omega)).mono ?_
        rintro r w8 ⟨rfl, h8⟩
        have H8 := Lib.hid h8
        have R8 := Lib.hid (HD.out.below h8.below)
        clear h8 HH c0
        go_wp2_with fail
        refine (add_any w4 w8 q (L2 ++ [0]) HEAD (some ⟨g6, 0, none⟩) 19 19 H8.out R8.out (fun e => by cases e) (by simp; omega)).mono ?_
        rintro r w9 ⟨rfl, h9⟩
        have H9 := Lib.hid h9
        have R9 := Lib.hid (H4.out.below h9.below)
        clear h9 H8 R8
        go_wp2_with fail
        refine (add_any w4 w9 q (L2 ++ [0] ++ HEAD) hz (some ⟨w.heap.size, 0, none⟩) 32 32 H9.out R9.out (fun e => by cases e) (by simp [HEAD]; omega)).mono ?_
        rintro r w10 ⟨rfl, V1, ho1, hb1, _⟩
        have HX : Hid (frameZ hz k = L2 ++ [0] ++ HEAD ++ hz) := by
          rw [FX.out]
          simp [HEAD, Hid]
        rw [← HX.out] at ho1
        obtain ⟨a1, d1, rfl⟩ := ho1.shape
        have O1 := Lib.hid ho1
        have c1 := hb1.cell 0
        simp only [List.getElem?_toArray, List.getElem?_cons_zero] at c1
        clear ho1 hb1 H9 R9 HX FX
        generalize frameZ hz k = F at *
        go_wp2_with fail
        go_ret2
        rw [F1.out, F2.out]
        exact out_gives O1.out FY.out B5.out
  · have t1 : (decide ((62 : Int) ≤ s) && decide (s ≤ 512)) = false := by
      simp only [Bool.and_eq_false_iff, decide_eq_false_iff_not]
      omega
    rw [t1] at CS
    have F1 : Hid (frE s = 1) := Lib.hid (if_neg h1)
    have F2 : Hid (frB hz s = []) := Lib.hid (if_neg h1)
    go_wp2_with fail
    refine CS.out.mono ?_
    rintro r w3 ⟨rfl, rfl⟩
    go_wp2_with fail
    go_ret2
    rw [F1.out, F2.out]
    exact gives_err BW.out

end Go.Proofs.Ytdhablbfblkagaa
