/-
  Merged texts: SqF, SqG, SqH, SqI, SqJ, SrC, SrA.
-/
import Derived.Test.YtlmndmfebgaidaaGreatDoorGnC
import Derived.Deep.OwnRows
import Derived.Shelf.SlSortCmp.WholeK
import Derived.RangeFuncRecord
import Derived.RangeFuncSeq
import Derived.RangeFuncCalls
import Derived.Below
import Derived.WalkKit
namespace Go.Proofs.YtlmndmfebgaidaaGreatDoor
open Go.RowKit
set_option linter.unusedVariables false
def cmpS (s t : SpanZ) : Int := cmpA s.v s.lo (mostZ s.v) t.v t.lo (mostZ t.v)
set_option maxHeartbeats 1000000 in
set_option maxRecDepth 100000 in
theorem sless_any (s t : SpanZ) (w : World) (hs : SixS s) (ht : SixS t) :
    Calls Tryz.prog 93 #[.agg (scells s), .agg (scells t)] w fun e w' => e = .returned (.int .i64 (cmpS s t)) ∧ BD w w' := by
  obtain ⟨bx, by', bw⟩ := two_sboxes w s t
  have BX : Hid (Blk ((w.alloc (.cells (scells s) 62)).alloc (.cells (scells t) 62)) w.heap.size 62 (scells s)) := Lib.hid bx
  have BY : Hid (Blk ((w.alloc (.cells (scells s) 62)).alloc (.cells (scells t) 62)) (w.heap.size + 1) 62 (scells t)) := Lib.hid by'
  have BW := Lib.hid bw
  have SX := Lib.hid (Tryz.sizeS hs)
  have SY := Lib.hid (Tryz.sizeS ht)
  have C1 := Lib.hid (fun W => first_any s W hs)
  have C2 := Lib.hid (fun W => first_any t W ht)
  have C3 : Hid (∀ W, Calls Tryz.prog 67 #[.agg (firstC s), .agg (firstC t)] W fun e w' => e = .returned (.int .i64 (cmpS s t)) ∧ BD W w') := Lib.hid (fun W => pcmp_any s.v s.lo (mostZ s.v) t.v t.lo (mostZ t.v) W hs.1 ht.1)
  clear bx by' bw hs ht
  go_enter Tryz.func93, Tryz.ntmps93
  generalize cmpS s t = c at *
  generalize firstC s = P at *
  generalize firstC t = Q at *
  generalize hw2 : (w.alloc (.cells (scells s) 62)).alloc (.cells (scells t) 62) = w2 at *
  generalize scells s = F at *
  generalize scells t = G at *
  go_wp2_with fail
  have X4 : Hid (Blk w2.drew w.heap.size 62 F) := Lib.hid (show Blk w2.drew w.heap.size 62 F from BX.out)
  have Y4 : Hid (Blk w2.drew (w.heap.size + 1) 62 G) := Lib.hid (show Blk w2.drew (w.heap.size + 1) 62 G from BY.out)
  have B4 : Hid (BD w w2.drew) := Lib.hid (BD.step BW.out (bd_drewN w2 1))
  clear BX BY BW hw2
  refine wp_region_ord Ext Ext.refl (fun _ _ _ => Ext.trans) ((0, false) :: (2, false) :: (1, true) :: (3, true) :: (4, true) :: (5, false) :: []) (by kernel_rfl) (by kernel_rfl) rfl (by kernel_rfl) (fun _ _ _ _ _ h => h) ?_
  generalize w2.drew = w4 at *
  repeat (first
    | (refine ord_skip rfl (by rfl) ?_; simp only [Act.put, List.setIfInBounds_toArray, List.set_cons_zero, List.set_cons_succ])
    | (refine ord_take _ rfl (by rfl) (fun W hW => yields_row 62 (.tmp 2) rfl w.heap.size 62 F _ rfl (Blk.below X4.out hW X4.out.lt) Tryz.underlying62 rfl SX.out) ?_; simp only [Act.put, List.setIfInBounds_toArray, List.set_cons_zero, List.set_cons_succ])
    | (refine ord_take _ rfl (by rfl) (fun W hW => yields_row 62 (.tmp 3) rfl (w.heap.size + 1) 62 G _ rfl (Blk.below Y4.out hW Y4.out.lt) Tryz.underlying62 rfl SY.out) ?_; simp only [Act.put, List.setIfInBounds_toArray, List.set_cons_zero, List.set_cons_succ])
    | (refine ord_take _ rfl (by rfl) (fun W hW => by go_simp; first | done | rfl) ?_; simp only [Act.put, List.setIfInBounds_toArray, List.set_cons_zero, List.set_cons_succ])
    | (refine ord_sole rfl (by rfl) (fun K1 hK1 => ?_)
       go_simp
       first
         | (refine (C1.out _).mono ?_; clear C1)
         | refine (C2.out _).mono ?_
         | refine (C3.out _).mono ?_
       rintro r w5 ⟨rfl, hb5⟩
       refine hK1 _ _ hb5.1 ?_
       clear hK1 K1
       replace X4 := Lib.hid (X4.out.below hb5.1 X4.out.lt)
       replace Y4 := Lib.hid (Y4.out.below hb5.1 Y4.out.lt)
       replace B4 := Lib.hid (BD.step B4.out hb5)
       clear hb5))
  refine ord_end ?_
  go_wp2_with fail
  go_ret
  exact ⟨rfl, B4.out⟩
set_option maxHeartbeats 1000000 in
set_option maxRecDepth 100000 in
theorem wrong_any (s : SpanZ) (w : World) (hs : SixS s) :
    Calls Tryz.prog 90 #[.agg (scells s)] w fun e w' => e = .returned (.bool (!rightZ s.v s.lo s.hi)) ∧ Below w.heap.size w w' := by
  have BX : Hid (Blk (w.alloc (.cells (scells s) 62)) w.heap.size 62 (scells s)) := Lib.hid (sbox w s)
  have BW := Lib.hid (box_below w (.cells (scells s) 62))
  have SZ := Lib.hid (Tryz.sizeS hs)
  have C1 := Lib.hid (fun W => sright_any s W hs)
  clear hs
  go_enter Tryz.func90, Tryz.ntmps90
  generalize rightZ s.v s.lo s.hi = z at *
  generalize hw2 : w.alloc (.cells (scells s) 62) = w2 at *
  generalize scells s = F at *
  go_wp2_with (first
    | (refine wpList_load_row rfl 62 (.tmp 1) rfl w.heap.size rfl 62 F (0, 0) _ BX.out Tryz.underlying62 rfl SZ.out ?_)
    | (refine (C1.out _).mono ?_
       rintro r w3 ⟨rfl, hb3⟩
       have B3 := Lib.hid (Below.step BW.out hb3)
       clear hb3))
  go_ret
  exact ⟨rfl, B3.out⟩
def meetsZ (s t : SpanZ) : Bool := decide (cmpA t.v t.lo (mostZ t.v) s.v s.hi (mostZ s.v) ≤ 0) || decide (t.v = s.v ∧ t.lo = nextA s.v s.hi ∧ mostZ t.v = mostZ s.v)
set_option maxHeartbeats 1000000 in
set_option maxRecDepth 100000 in
theorem meets_any (s t : SpanZ) (w : World) (hs : SixS s) (ht : SixS t) :
    Calls Tryz.prog 66 #[.agg (scells s), .agg (scells t)] w fun e w' => e = .returned (.bool (meetsZ s t)) ∧ BD w w' := by
  obtain ⟨bx, by', bw⟩ := two_sboxes w s t
  have BX : Hid (Blk ((w.alloc (.cells (scells s) 62)).alloc (.cells (scells t) 62)) w.heap.size 62 (scells s)) := Lib.hid bx
  have BY : Hid (Blk ((w.alloc (.cells (scells s) 62)).alloc (.cells (scells t) 62)) (w.heap.size + 1) 62 (scells t)) := Lib.hid by'
  have BW := Lib.hid bw
  have SX := Lib.hid (Tryz.sizeS hs)
  have SY := Lib.hid (Tryz.sizeS ht)
  have C1 := Lib.hid (fun W => first_any t W ht)
  have C2 := Lib.hid (fun W => last_any s W hs)
  have C3 : Hid (∀ W, Calls Tryz.prog 67 #[.agg (firstC t), .agg (lastC s)] W fun e w' => e = .returned (.int .i64 (cmpA t.v t.lo (mostZ t.v) s.v s.hi (mostZ s.v))) ∧ BD W w') := Lib.hid (fun W => pcmp_any t.v t.lo (mostZ t.v) s.v s.hi (mostZ s.v) W ht.1 hs.2)
  have C4 : Hid (∀ W, Calls Tryz.prog 95 #[.agg (lastC s)] W fun e w' => e = .returned (.agg (pcells s.v (nextA s.v s.hi) (mostZ s.v))) ∧ BD W w') := Lib.hid (fun W => after_any s.v s.hi (mostZ s.v) W hs.2)
  have EQ : ∀ W, (Op.equalIn 10000 43 (.agg (firstC t)) (.agg (pcells s.v (nextA s.v s.hi) (mostZ s.v)))).run Tryz.prog W = .ok (decide (t.v = s.v ∧ t.lo = nextA s.v s.hi ∧ mostZ t.v = mostZ s.v)) W := fun W => two_prefix t.v s.v t.lo (nextA s.v s.hi) (mostZ t.v) (mostZ s.v) ht.1.1 (next_ok s.v s.hi).1 W
  have MZ : Hid (meetsZ s t = (decide (cmpA t.v t.lo (mostZ t.v) s.v s.hi (mostZ s.v) ≤ 0) || decide (t.v = s.v ∧ t.lo = nextA s.v s.hi ∧ mostZ t.v = mostZ s.v))) := Lib.hid rfl
  clear bx by' bw hs ht
  go_enter Tryz.func66, Tryz.ntmps66
  generalize meetsZ s t = m at *
  generalize decide (t.v = s.v ∧ t.lo = nextA s.v s.hi ∧ mostZ t.v = mostZ s.v) = q at *
  generalize cmpA t.v t.lo (mostZ t.v) s.v s.hi (mostZ s.v) = c at *
  generalize pcells s.v (nextA s.v s.hi) (mostZ s.v) = N at *
  generalize firstC t = P at *
  generalize lastC s = Q at *
  generalize hw2 : (w.alloc (.cells (scells s) 62)).alloc (.cells (scells t) 62) = w2 at *
  generalize scells s = F at *
  generalize scells t = G at *
  go_wp2_with fail
  have X4 : Hid (Blk w2.drew w.heap.size 62 F) := Lib.hid (show Blk w2.drew w.heap.size 62 F from BX.out)
  have Y4 : Hid (Blk w2.drew (w.heap.size + 1) 62 G) := Lib.hid (show Blk w2.drew (w.heap.size + 1) 62 G from BY.out)
  have B4 : Hid (BD w w2.drew) := Lib.hid (BD.step BW.out (bd_drewN w2 1))
  clear BX BY BW hw2
  refine wp_region_ord Ext Ext.refl (fun _ _ _ => Ext.trans) ((0, false) :: (2, false) :: (1, true) :: (3, true) :: (4, true) :: (5, false) :: (6, false) :: (7, false) :: (9, false) :: (8, true) :: (10, true) :: (11, true) :: (12, false) :: (13, false) :: (14, false) :: []) (by kernel_rfl) (by kernel_rfl) rfl (by kernel_rfl) (fun _ _ _ _ _ h => h) ?_
  generalize w2.drew = w4 at *
  by_cases hc : c ≤ 0
  · have hd : decide (c ≤ 0) = true := decide_eq_true hc
    rw [hd] at MZ
    clear EQ C4
    repeat (first
      | (refine ord_skip rfl (by rfl) ?_; simp only [Act.put, List.setIfInBounds_toArray, List.set_cons_zero, List.set_cons_succ])
      | (refine ord_take _ rfl (by rfl) (fun W hW => yields_row 62 (.tmp 2) rfl w.heap.size 62 F _ rfl (Blk.below X4.out hW X4.out.lt) Tryz.underlying62 rfl SX.out) ?_; simp only [Act.put, List.setIfInBounds_toArray, List.set_cons_zero, List.set_cons_succ])
      | (refine ord_take _ rfl (by rfl) (fun W hW => yields_row 62 (.tmp 3) rfl (w.heap.size + 1) 62 G _ rfl (Blk.below Y4.out hW Y4.out.lt) Tryz.underlying62 rfl SY.out) ?_; simp only [Act.put, List.setIfInBounds_toArray, List.set_cons_zero, List.set_cons_succ])
      | (refine ord_take _ rfl (by rfl) (fun W hW => by go_simp; first | done | rfl) ?_; simp only [Act.put, List.setIfInBounds_toArray, List.set_cons_zero, List.set_cons_succ])
      | (refine ord_sole rfl (by rfl) (fun K1 hK1 => ?_)
         go_simp
         first
           | refine (C1.out _).mono ?_
           | refine (C2.out _).mono ?_
           | refine (C3.out _).mono ?_
           | refine (C4.out _).mono ?_
         rintro r w5 ⟨rfl, hb5⟩
         refine hK1 _ _ hb5.1 ?_
         clear hK1 K1
         replace X4 := Lib.hid (X4.out.below hb5.1 X4.out.lt)
         replace Y4 := Lib.hid (Y4.out.below hb5.1 Y4.out.lt)
         replace B4 := Lib.hid (BD.step B4.out hb5)
         clear hb5))
    refine ord_end ?_
    go_wp2_with fail
    go_ret
    exact ⟨by rw [MZ.out]; rfl, B4.out⟩
  · have hd : decide (c ≤ 0) = false := decide_eq_false hc
    rw [hd] at MZ
    repeat (first
      | (refine ord_skip rfl (by rfl) ?_; simp only [Act.put, List.setIfInBounds_toArray, List.set_cons_zero, List.set_cons_succ])
      | (refine ord_take _ rfl (by rfl) (fun W hW => yields_row 62 (.tmp 2) rfl w.heap.size 62 F _ rfl (Blk.below X4.out hW X4.out.lt) Tryz.underlying62 rfl SX.out) ?_; simp only [Act.put, List.setIfInBounds_toArray, List.set_cons_zero, List.set_cons_succ])
      | (refine ord_take _ rfl (by rfl) (fun W hW => yields_row 62 (.tmp 3) rfl (w.heap.size + 1) 62 G _ rfl (Blk.below Y4.out hW Y4.out.lt) Tryz.underlying62 rfl SY.out) ?_; simp only [Act.put, List.setIfInBounds_toArray, List.set_cons_zero, List.set_cons_succ])
      | (refine ord_take _ rfl (by rfl) (fun W hW => by go_simp; first | done | rfl) ?_; simp only [Act.put, List.setIfInBounds_toArray, List.set_cons_zero, List.set_cons_succ])
      | (refine ord_sole rfl (by rfl) (fun K1 hK1 => ?_)
         go_simp
         first
           | refine (C1.out _).mono ?_
           | refine (C2.out _).mono ?_
           | refine (C3.out _).mono ?_
           | refine (C4.out _).mono ?_
         rintro r w5 ⟨rfl, hb5⟩
         refine hK1 _ _ hb5.1 ?_
         clear hK1 K1
         replace X4 := Lib.hid (X4.out.below hb5.1 X4.out.lt)
         replace Y4 := Lib.hid (Y4.out.below hb5.1 Y4.out.lt)
         replace B4 := Lib.hid (BD.step B4.out hb5)
         clear hb5))
    refine ord_end ?_
    go_wp2_with fail
    go_ret
    exact ⟨by rw [MZ.out]; rfl, B4.out⟩
end Go.Proofs.YtlmndmfebgaidaaGreatDoor
namespace Go.Proofs.YtlmndmfebgaidaaGreatDoor
open Go.RowKit
set_option maxRecDepth 100000
set_option linter.unusedVariables false
def scL (s : SpanZ) : List Value := Value.bool s.v :: (acells s.lo ++ acells s.hi)
theorem scL_len {s : SpanZ} (h : SixS s) : (scL s).length = 33 := scells_len h
theorem scL_arr (s : SpanZ) : (scL s).toArray = scells s := rfl
def flatS (L : List SpanZ) : List Value := L.flatMap scL
def SixL (L : List SpanZ) : Prop := ∀ s ∈ L, SixS s
theorem flatS_len : ∀ {L : List SpanZ}, SixL L → (flatS L).length = L.length * 33
  | [], _ => rfl
  | s :: r, h => by
    show (scL s ++ flatS r).length = _
    rw [List.length_append, scL_len (h s (by simp)), flatS_len (fun x hx => h x (by simp [hx])), List.length_cons]
    omega
theorem flatS_app (L M : List SpanZ) : flatS (L ++ M) = flatS L ++ flatS M := List.flatMap_append
theorem flatS_at : ∀ {L : List SpanZ} (_ : SixL L) (j i : Nat) (hj : j < L.length), i < 33 → (flatS L)[j * 33 + i]? = (scL (L[j]))[i]?
  | [], _, j, i, hj, _ => absurd hj (by simp)
  | s :: r, h, 0, i, hj, hi => by
    show (scL s ++ flatS r)[0 * 33 + i]? = _
    rw [List.getElem?_append_left (by rw [scL_len (h s (by simp))]; omega), Nat.zero_mul, Nat.zero_add]
    rfl
  | s :: r, h, j + 1, i, hj, hi => by
    show (scL s ++ flatS r)[(j + 1) * 33 + i]? = _
    have l := scL_len (h s (by simp))
    rw [List.getElem?_append_right (by rw [l]; omega), l, show (j + 1) * 33 + i - 33 = j * 33 + i by omega, flatS_at (fun x hx => h x (by simp [hx])) j i (by simpa using hj) hi]
    rfl
theorem flatS_one (L : List SpanZ) : ∀ u ∈ flatS L, u.oneCell' = true := by
  intro u hu
  obtain ⟨s, _, hs⟩ := List.mem_flatMap.1 hu
  exact (Array.all_eq_true_iff_forall_mem.1 (scells_one s)) u (by rw [← scL_arr]; exact List.mem_toArray.2 hs)
theorem flatS_take : ∀ {L : List SpanZ} (_ : SixL L) (k : Nat), k ≤ L.length → flatS (L.take k) = (flatS L).take (k * 33)
  | [], _, k, hk => by
    obtain rfl : k = 0 := by simpa using hk
    rfl
  | s :: r, h, 0, hk => by simp [flatS]
  | s :: r, h, k + 1, hk => by
    have l := scL_len (h s (by simp))
    show scL s ++ flatS (r.take k) = (scL s ++ flatS r).take ((k + 1) * 33)
    rw [flatS_take (fun x hx => h x (by simp [hx])) k (by simpa using hk), List.take_append, l, List.take_of_length_le (l := scL s) (by rw [l]; omega), show (k + 1) * 33 - 33 = k * 33 by omega]
def SpRow (w : World) (a : Option Addr) (n : Nat) (L : List SpanZ) : Prop :=
  L.length = n ∧ SixL L ∧ (0 < n → ∃ b off, a = some ⟨b, off, none⟩ ∧ b < w.heap.size ∧ ∀ i, i < n * 33 → w.cell? ⟨b, off + i, none⟩ = (flatS L)[i]?)
theorem SpRow.below {w w' : World} {a : Option Addr} {n : Nat} {L : List SpanZ} (h : SpRow w a n L) (hb : Below w.heap.size w w') : SpRow w' a n L := by
  refine ⟨h.1, h.2.1, fun hn => ?_⟩
  obtain ⟨b, off, e, hlt, hc⟩ := h.2.2 hn
  exact ⟨b, off, e, Nat.lt_of_lt_of_le hlt hb.size, fun i hi => (hb.cell (p := ⟨b, off + i, none⟩) hlt).trans (hc i hi)⟩
theorem SpRow.range {w : World} {b off n : Nat} {L : List SpanZ} (h : SpRow w (some ⟨b, off, none⟩) n L) (j : Nat) (hj : j < L.length) : w.rangeAt b (off + j * 33) (scL L[j]) := by
  intro i v hv
  obtain ⟨b', off', e, _, hc⟩ := h.2.2 (by have := h.1; omega)
  injection e with e
  injection e with e1 e2
  subst e1 e2
  have s6 := h.2.1 _ (List.getElem_mem hj)
  have hi : i < 33 := by
    have := (List.getElem?_eq_some_iff.1 hv).1
    rwa [scL_len s6] at this
  rw [Nat.add_assoc, hc (j * 33 + i) (by have := h.1; omega), flatS_at h.2.1 j i hj hi]
  exact hv
theorem SpRow.form {w : World} {a : Option Addr} {n : Nat} {L : List SpanZ} (h : SpRow w a n L) (h0 : 0 < n) : ∃ b off, a = some ⟨b, off, none⟩ ∧ b < w.heap.size := by
  obtain ⟨b, off, e, hlt, _⟩ := h.2.2 h0
  exact ⟨b, off, e, hlt⟩
theorem SpRow.nil (w : World) (a : Option Addr) : SpRow w a 0 [] := ⟨rfl, fun _ h => absurd h (by simp), fun h => absurd h (by omega)⟩
theorem SpRow.rest {w : World} {b off n : Nat} {L : List SpanZ} (h : SpRow w (some ⟨b, off, none⟩) n L) (k : Nat) (hk : k ≤ n) : SpRow w (some ⟨b, off + k * 33, none⟩) (n - k) (L.drop k) := by
  have hl := h.1
  refine ⟨by rw [List.length_drop]; omega, fun s hs => h.2.1 s (List.mem_of_mem_drop hs), fun h0 => ?_⟩
  obtain ⟨b', off', e, hb, hc⟩ := h.2.2 (by omega)
  injection e with e
  injection e with e1 e2
  subst e1 e2
  refine ⟨_, _, rfl, hb, fun i hi => ?_⟩
  have e : flatS L = (flatS (L.take k)) ++ flatS (L.drop k) := by rw [← flatS_app, List.take_append_drop]
  have l : (flatS (L.take k)).length = k * 33 := by rw [flatS_take h.2.1 k (by omega), List.length_take, flatS_len h.2.1]; omega
  rw [Nat.add_assoc, hc (k * 33 + i) (by omega), e, List.getElem?_append_right (by rw [l]; omega), l, show k * 33 + i - k * 33 = i by omega]
theorem Tryz.infoSpan : (Tryz.prog.info? 62).map (fun i => (i.zero, i.size, i.bytes)) = some (some (.agg (scells zeroS)), 33, 33) := by kernel_rfl
def SpOut (W0 wr : World) (V : Value) (L : List SpanZ) : Prop := wr.ownsRow W0.heap.size 62 33 V L.length (flatS L) ∧ Below W0.heap.size W0 wr ∧ SixL L
theorem SpOut.below {W0 wr w' : World} {V : Value} {L : List SpanZ} (h : SpOut W0 wr V L) (hb : Below wr.heap.size wr w') : SpOut W0 w' V L := by
  refine ⟨⟨h.1.1, ?_⟩, Below.step h.2.1 hb, h.2.2⟩
  rcases h.1.2 with h' | ⟨g, cap, cur, e, h1, h2, h3⟩
  · exact .inl h'
  · exact .inr ⟨g, cap, cur, e, h1, (hb.block g (Array.getElem?_eq_some_iff.1 h2).1).trans h2, h3⟩
theorem SpOut.alloc {W0 wr : World} {V : Value} {L : List SpanZ} (h : SpOut W0 wr V L) (o : Obj) : SpOut W0 (wr.alloc o) V L := h.below (box_below _ _)
theorem SpOut.wider {w W0 wr : World} {V : Value} {L : List SpanZ} (h : SpOut W0 wr V L) (hb : Below w.heap.size w W0) : SpOut w wr V L := by
  refine ⟨⟨h.1.1, ?_⟩, Below.step hb h.2.1, h.2.2⟩
  rcases h.1.2 with h' | ⟨g, cap, cur, e, h1, h2⟩
  · exact .inl h'
  · exact .inr ⟨g, cap, cur, e, Nat.le_trans hb.size h1, h2⟩
theorem SpOut.start (w : World) : SpOut w w (.slice none 0 0) [] := ⟨World.ownsRow_nil _ _ _ _, Below.refl _ _, fun _ h => absurd h (by simp)⟩
theorem SpOut.row {W0 wr : World} {V : Value} {L : List SpanZ} (h : SpOut W0 wr V L) : ∃ a c, V = .slice a L.length c ∧ SpRow wr a L.length L ∧ (a = none → L = [] ∧ c = 0) := by
  rcases h.1.2 with ⟨rfl, h0⟩ | ⟨g, cap, cur, rfl, h1, h2, h3⟩
  · have : L = [] := List.eq_nil_of_length_eq_zero h0
    subst this
    exact ⟨none, 0, rfl, SpRow.nil _ _, fun _ => ⟨rfl, rfl⟩⟩
  · refine ⟨_, cap, rfl, ⟨rfl, h.2.2, fun hn => ⟨g, 0, rfl, (h.1.lt g rfl).2, fun i hi => ?_⟩⟩, fun e => by cases e⟩
    rw [Nat.zero_add, h.1.cellAt i hi]
theorem SpOut.form {W0 wr : World} {V : Value} {L : List SpanZ} (h : SpOut W0 wr V L) : (V = .slice none 0 0 ∧ L = []) ∨ ∃ g cap, V = .slice (some ⟨g, 0, none⟩) L.length cap ∧ W0.heap.size ≤ g ∧ g < wr.heap.size ∧ L.length ≤ cap := by
  rcases h.1.2 with ⟨rfl, h0⟩ | ⟨g, cap, cur, rfl, h1, h2, h3, _⟩
  · exact .inl ⟨rfl, List.eq_nil_of_length_eq_zero h0⟩
  · exact .inr ⟨g, cap, rfl, h1, (h.1.lt g rfl).2, h3⟩
theorem sp_append {ops : Array Oper} {rest : List Oper} {o : Oper} {a : Act} {Q : Exit → Act → World → Prop} {W0 w : World} {V : Value} {L zs : List SpanZ} {A : Option Addr} {m c : Nat} (hgd : o.guard = none) (s x : Operand)
    (hop : o.op = .call { callee := .builtin .append, args := #[s, x], argTypes := #[22, 22] }) (hs : a.eval s = V) (hout : SpOut W0 w V L) (hx : a.eval x = .slice A m c) (hr : SpRow w A m zs) (hA : A = none → m = 0 ∧ c = 0) (hl : L.length + m ≤ 100000)
    (h : ∀ V' w', SpOut W0 w' V' (L ++ zs) → wpList Tryz.prog ops Q rest (a.put o.dst V') w') : wpList Tryz.prog ops Q (o :: rest) a w := by
  obtain ⟨i0, hi5, hz0, hz1, hz2⟩ := info_parts Tryz.infoSpan
  cases A with
  | none =>
    obtain ⟨rfl, rfl⟩ := hA rfl
    obtain rfl : zs = [] := List.eq_nil_of_length_eq_zero hr.1
    refine wpList_append_own_none hgd s x 22 hop W0.heap.size 62 i0 33 Tryz.underlying22 hi5 V L.length _ hs hout.1 hx ?_
    have := h V w (by simpa using hout)
    exact this
  | some ad =>
    have hcl : (flatS zs).length = m * 33 := by rw [flatS_len hr.2.1, hr.1]
    refine wpList_append_own _ hgd s x 22 hop W0.heap.size 62 i0 (.agg (scells zeroS)) 33 33 Tryz.underlying22 hi5 hz0 hz1 hz2 (scells_size zeroS_six) (by decide) V L.length (flatS L) hs hout.1 ad m c (flatS zs) hx hcl ?_ (flatS_one zs) (by unfold maxLen; omega) (by omega) hout.2.1.size ?_
    · intro j u hu
      have hj : j < m * 33 := by
        have := (List.getElem?_eq_some_iff.1 hu).1
        omega
      obtain ⟨b, off, e, _, hc⟩ := hr.2.2 (by omega)
      injection e with e
      subst e
      rw [Addr.add_lit, hc j hj]
      exact hu
    · intro V' w' hown hg _
      refine h V' w' ⟨?_, hout.2.1.grown hg hout.2.1.size (fun k hk => (hout.1.lt k hk).1), fun z hz => ?_⟩
      · rw [List.length_append, hr.1, flatS_app]
        exact hown
      · rcases List.mem_append.1 hz with hz | hz
        · exact hout.2.2 z hz
        · exact hr.2.1 z hz
end Go.Proofs.YtlmndmfebgaidaaGreatDoor
namespace Go.Proofs.YtlmndmfebgaidaaGreatDoor
open Go.RowKit
set_option linter.unusedVariables false
theorem list_split {α : Type} {A : List α} {q : Nat} (x : α) (hq : q < A.length) : (A.set q x).take (q + 1) = A.take q ++ [x] ∧ ∀ m, (A.set q x).drop (q + 1 + m) = A.drop (q + 1 + m) := by
  refine ⟨?_, fun m => ?_⟩
  · rw [List.take_add_one, List.take_set_of_le (Nat.le_refl _), List.getElem?_set_self hq]
    rfl
  · rw [List.drop_set_of_lt (by omega)]
theorem own_setCells {e : TypeId} {size base g n cap : Nat} : ∀ (vs : List Value) (o : Nat) (w : World) (xs : List Value), w.ownsRow base e size (.slice (some ⟨g, 0, none⟩) n cap) n xs → o + vs.length ≤ xs.length →
    (w.setCells g o vs).ownsRow base e size (.slice (some ⟨g, 0, none⟩) n cap) n (xs.take o ++ vs ++ xs.drop (o + vs.length))
  | [], o, w, xs, h, hl => by
    have e1 : xs.take o ++ [] ++ xs.drop (o + ([] : List Value).length) = xs := by rw [List.append_nil, List.length_nil, Nat.add_zero, List.take_append_drop]
    rw [e1]
    exact h
  | v :: r, o, w, xs, h, hl => by
    simp only [List.length_cons] at hl
    have ih := own_setCells r (o + 1) _ (xs.set o v) (h.stored o v).1 (by rw [List.length_set]; omega)
    obtain ⟨e1, e2⟩ := list_split v (show o < xs.length by omega)
    rw [e1, e2, List.append_assoc (xs.take o)] at ih
    have e3 : xs.take o ++ v :: r ++ xs.drop (o + (v :: r).length) = xs.take o ++ ([v] ++ r) ++ xs.drop (o + 1 + r.length) := by
      rw [List.length_cons, show o + (r.length + 1) = o + 1 + r.length by omega]
      rfl
    rw [e3]
    exact ih
theorem own_cut {e : TypeId} {size base g n cap : Nat} {w : World} {xs : List Value} (h : w.ownsRow base e size (.slice (some ⟨g, 0, none⟩) n cap) n xs) (k : Nat) (hk : k ≤ n) : w.ownsRow base e size (.slice (some ⟨g, 0, none⟩) k cap) k (xs.take (k * size)) := by
  have hks : k * size ≤ n * size := Nat.mul_le_mul_right _ hk
  refine ⟨by rw [List.length_take, h.1]; omega, ?_⟩
  rcases h.2 with ⟨e', _⟩ | ⟨g', cap', cur, e', hb, hg, hnc, hcm, hcs, htake⟩
  · cases e'
  · injection e' with e1 e2 e3
    subst e3
    refine .inr ⟨g', cap, cur, ?_, hb, hg, by omega, hcm, hcs, ?_⟩
    · rw [e1]
    · rw [← htake, List.take_take, Nat.min_eq_left hks]
theorem flatS_drop {L : List SpanZ} (h : SixL L) (k : Nat) (hk : k ≤ L.length) : flatS (L.drop k) = (flatS L).drop (k * 33) := by
  have e : flatS L = flatS (L.take k) ++ flatS (L.drop k) := by rw [← flatS_app, List.take_append_drop]
  have l : (flatS (L.take k)).length = k * 33 := by rw [flatS_take h k hk, List.length_take, flatS_len h]; omega
  rw [e, ← l, List.drop_left]
theorem six_set {L : List SpanZ} (h : SixL L) (k : Nat) {s : SpanZ} (hs : SixS s) : SixL (L.set k s) := fun x hx => by
  rcases List.mem_or_eq_of_mem_set hx with hx | rfl
  · exact h x hx
  · exact hs
theorem flatS_set {L : List SpanZ} (h : SixL L) (k : Nat) (hk : k < L.length) {s : SpanZ} (hs : SixS s) : flatS (L.set k s) = (flatS L).take (k * 33) ++ scL s ++ (flatS L).drop (k * 33 + (scL s).length) := by
  rw [scL_len hs, show k * 33 + 33 = (k + 1) * 33 by omega, ← flatS_take h k (by omega), ← flatS_drop h (k + 1) (by omega), List.set_eq_take_append_cons_drop, if_pos hk]
  show flatS (L.take k ++ s :: L.drop (k + 1)) = _
  rw [flatS_app]
  show flatS (L.take k) ++ (scL s ++ flatS (L.drop (k + 1))) = _
  rw [List.append_assoc]
theorem SpOut.set {W0 wr : World} {g cap n : Nat} {L : List SpanZ} (h : SpOut W0 wr (.slice (some ⟨g, 0, none⟩) n cap) L) (hn : n = L.length) (hg : W0.heap.size ≤ g) (k : Nat) (hk : k < L.length) {s : SpanZ} (hs : SixS s) : SpOut W0 (wr.setCells g (k * 33) (scL s)) (.slice (some ⟨g, 0, none⟩) n cap) (L.set k s) := by
  subst hn
  have h1 := own_setCells (scL s) (k * 33) wr _ h.1 (by rw [scL_len hs, flatS_len h.2.2]; omega)
  rw [← flatS_set h.2.2 k hk hs] at h1
  refine ⟨by rw [List.length_set]; exact h1, below_setCells hg _ _ _ h.2.1, six_set h.2.2 k hs⟩
theorem SpOut.setHi {W0 wr : World} {g cap n : Nat} {L : List SpanZ} (h : SpOut W0 wr (.slice (some ⟨g, 0, none⟩) n cap) L) (hn : n = L.length) (hg : W0.heap.size ≤ g) (k : Nat) (hk : k < L.length) {B : List Int} (hB : Sixteen B) : SpOut W0 (wr.setCells g (k * 33 + 17) (acells B)) (.slice (some ⟨g, 0, none⟩) n cap) (L.set k ⟨(L[k]).v, (L[k]).lo, B⟩) := by
  subst hn
  have s6 := h.2.2 _ (List.getElem_mem hk)
  have hs : SixS ⟨(L[k]).v, (L[k]).lo, B⟩ := ⟨s6.1, hB⟩
  have h1 := own_setCells (acells B) (k * 33 + 17) wr _ h.1 (by rw [acells_len hB.1, flatS_len h.2.2]; omega)
  have hcut : (flatS L).take (k * 33 + 17) = (flatS L).take (k * 33) ++ (Value.bool (L[k]).v :: acells (L[k]).lo) := by
    rw [← flatS_take h.2.2 k (by omega)]
    have e : flatS L = flatS (L.take k) ++ (scL L[k] ++ flatS (L.drop (k + 1))) := by
      show flatS L = flatS (L.take k) ++ flatS (L[k] :: L.drop (k + 1))
      rw [← flatS_app, ← List.drop_eq_getElem_cons hk, List.take_append_drop]
    have l : (flatS (L.take k)).length = k * 33 := by rw [flatS_take h.2.2 k (by omega), List.length_take, flatS_len h.2.2]; omega
    rw [e, List.take_append, l, List.take_of_length_le (l := flatS (L.take k)) (by rw [l]; omega), show k * 33 + 17 - k * 33 = 17 by omega]
    congr 1
    show (Value.bool (L[k]).v :: (acells (L[k]).lo ++ acells (L[k]).hi) ++ flatS (L.drop (k + 1))).take 17 = _
    rw [List.cons_append, List.take_succ_cons, List.append_assoc, List.take_append, acells_len s6.1.1, List.take_of_length_le (l := acells (L[k]).lo) (by rw [acells_len s6.1.1]; omega)]
    simp
  have hfs := flatS_set h.2.2 k hk hs
  rw [scL_len hs] at hfs
  have e2 : (flatS L).take (k * 33 + 17) ++ acells B ++ (flatS L).drop (k * 33 + 17 + (acells B).length) = flatS (L.set k ⟨(L[k]).v, (L[k]).lo, B⟩) := by
    rw [hfs, hcut, acells_len hB.1, show k * 33 + 17 + 16 = k * 33 + 33 by omega]
    show _ = (flatS L).take (k * 33) ++ (Value.bool (L[k]).v :: (acells (L[k]).lo ++ acells B)) ++ _
    simp
  rw [e2] at h1
  exact ⟨by rw [List.length_set]; exact h1, below_setCells hg _ _ _ h.2.1, six_set h.2.2 k hs⟩
theorem SpOut.cut {W0 wr : World} {g cap n : Nat} {L : List SpanZ} (h : SpOut W0 wr (.slice (some ⟨g, 0, none⟩) n cap) L) (hn : n = L.length) (k : Nat) (hk : k ≤ L.length) : SpOut W0 wr (.slice (some ⟨g, 0, none⟩) k cap) (L.take k) := by
  subst hn
  have h1 := own_cut h.1 k hk
  rw [← flatS_take h.2.2 k hk] at h1
  exact ⟨by rw [List.length_take, Nat.min_eq_left hk]; exact h1, h.2.1, fun s hs => h.2.2 s (List.mem_of_mem_take hs)⟩
theorem SpOut.clear {W0 wr : World} {g cap n : Nat} {L : List SpanZ} (h : SpOut W0 wr (.slice (some ⟨g, 0, none⟩) n cap) L) (hn : n = L.length) (hg : W0.heap.size ≤ g) (k : Nat) (hk : k ≤ L.length) (vs : List Value) (hv : vs.length = (L.length - k) * 33) : SpOut W0 (wr.setCells g (k * 33) vs) (.slice (some ⟨g, 0, none⟩) k cap) (L.take k) := by
  subst hn
  have h1 := own_cut (own_setCells vs (k * 33) wr _ h.1 (by rw [hv, flatS_len h.2.2]; omega)) k hk
  have l : ((flatS L).take (k * 33)).length = k * 33 := by rw [List.length_take, flatS_len h.2.2]; omega
  rw [List.append_assoc, List.take_append, l, Nat.sub_self, List.take_zero, List.append_nil, List.take_take, Nat.min_self, ← flatS_take h.2.2 k hk] at h1
  exact ⟨by rw [List.length_take, Nat.min_eq_left hk]; exact h1, below_setCells hg _ _ _ h.2.1, fun s hs => h.2.2 s (List.mem_of_mem_take hs)⟩
theorem SpOut.there {W0 wr : World} {g cap n : Nat} {L : List SpanZ} (h : SpOut W0 wr (.slice (some ⟨g, 0, none⟩) n cap) L) (hn : n = L.length) (o m : Nat) (hm : o + m ≤ n * 33) : wr.there g o m := by
  subst hn
  intro j hj
  refine ⟨?_, h.1.frozenAt _⟩
  rw [h.1.cellAt (o + j) (by omega), List.getElem?_eq_getElem (by rw [flatS_len h.2.2]; omega)]
  rfl
abbrev Sp6 := { s : SpanZ // SixS s }
instance : Inhabited Sp6 := ⟨⟨zeroS, zeroS_six⟩⟩
def enc6 (x : Sp6) : List Value := scL x.1
theorem enc6_len (x : Sp6) : (enc6 x).length = 33 := scL_len x.2
theorem enc6_one (x : Sp6) : ∀ v ∈ enc6 x, v.oneCell' = true := fun v hv => (Array.all_eq_true_iff_forall_mem.1 (scells_one x.1)) v (by rw [← scL_arr]; exact List.mem_toArray.2 hv)
def with6 (L : List SpanZ) (h : SixL L) : Array Sp6 := (L.attach.map fun x => (⟨x.1, h x.1 x.2⟩ : Sp6)).toArray
def bare6 (d : Array Sp6) : List SpanZ := d.toList.map (·.1)
theorem with6_size (L : List SpanZ) (h : SixL L) : (with6 L h).size = L.length := by simp [with6]
theorem bare_with (L : List SpanZ) (h : SixL L) : bare6 (with6 L h) = L := by
  unfold bare6 with6
  rw [List.map_map]
  show L.attach.map (fun x => x.1) = L
  simp
theorem bare6_six (d : Array Sp6) : SixL (bare6 d) := fun s hs => by
  obtain ⟨x, _, rfl⟩ := List.mem_map.1 hs
  exact x.2
theorem bare6_len (d : Array Sp6) : (bare6 d).length = d.size := by simp [bare6]
theorem bare6_at (d : Array Sp6) (j : Nat) (hj : j < d.size) : (bare6 d)[j]'(by rw [bare6_len]; exact hj) = (d[j]!).1 := by
  rw [getElem!_pos d j hj]
  simp [bare6]
theorem flat6_at (d : Array Sp6) (t : Nat) (ht : t < d.size * 33) : (flatS (bare6 d))[t]? = some (Sort.flatK enc6 33 d)[t]! := by
  have hq : t / 33 < d.size := Nat.div_lt_of_lt_mul (by omega)
  have e := flatS_at (bare6_six d) (t / 33) (t % 33) (by rw [bare6_len]; exact hq) (Nat.mod_lt _ (by decide))
  rw [show t / 33 * 33 + t % 33 = t by omega, bare6_at d _ hq] at e
  rw [e, Sort.get_flatK enc6 33 d t ht]
  have hm : t % 33 < (enc6 d[t / 33]!).length := by rw [enc6_len]; exact Nat.mod_lt _ (by decide)
  show (enc6 d[t / 33]!)[t % 33]? = _
  rw [List.getElem?_eq_getElem hm, getElem!_pos (enc6 d[t / 33]!) (t % 33) hm]
theorem SpOut.holds {W0 wr : World} {g cap n : Nat} {d : Array Sp6} (h : SpOut W0 wr (.slice (some ⟨g, 0, none⟩) n cap) (bare6 d)) (hn : n = d.size) : Sort.HoldsK enc6 33 wr g 0 d := by
  subst hn
  intro j hj
  rw [Sort.size_flatK] at hj
  have hc := h.1
  rw [bare6_len] at hc
  rw [Nat.zero_add]
  exact ⟨by rw [hc.cellAt j hj]; exact flat6_at d j hj, hc.frozenAt j⟩
theorem SpOut.sorted {W0 wr : World} {g cap n m : Nat} {d d' : Array Sp6} {os : Array Obj} (h : SpOut W0 wr (.slice (some ⟨g, 0, none⟩) n cap) (bare6 d)) (hn : n = d.size) (hd : d'.size = d.size) : SpOut W0 (sortWorldK enc6 33 wr g 0 m d' os) (.slice (some ⟨g, 0, none⟩) n cap) (bare6 d') := by
  subst hn
  have hc := h.1
  rw [bare6_len] at hc
  have hlt : g < wr.heap.size := (hc.lt g rfl).2
  rcases hc.2 with ⟨e', _⟩ | ⟨g', cap', cur, e', hb, hg, hnc, hcm, hcs, htake⟩
  · cases e'
  injection e' with e1 e2 e3
  injection e1 with e1
  injection e1 with e1
  subst e1 e3
  have hg2 : (sortWorldK enc6 33 wr g 0 m d' os).heap[g]? = some (.cells (Sort.putCells id 0 (Sort.flatK enc6 33 d') cur) 62 (0, 0)) := by
    unfold sortWorldK Sort.grow Sort.putRowK Sort.putRow Sort.mapBlock
    show ((wr.heap.modify g _) ++ os)[g]? = _
    rw [Array.getElem?_append_left (by rw [Array.size_modify]; exact hlt), Array.getElem?_modify, if_pos rfl, hg]
    rfl
  refine ⟨⟨by rw [flatS_len (bare6_six d')], .inr ⟨g, cap, _, by rw [bare6_len, hd], hb, hg2, by rw [bare6_len, hd]; exact hnc, hcm, ?_, ?_⟩⟩, ⟨h.2.1.os, h.2.1.tape, h.2.1.output, ?_, fun k hk => ?_⟩, bare6_six d'⟩
  · unfold Sort.putCells
    rw [Array.size_mapIdx]
    exact hcs
  · apply List.ext_getElem?
    intro t
    rcases Nat.lt_or_ge t ((bare6 d').length * 33) with ht | ht
    · rw [List.getElem?_take, if_pos ht]
      have ht' : t < d'.size * 33 := by rwa [bare6_len] at ht
      rw [flat6_at d' t ht', Array.getElem?_toList]
      unfold Sort.putCells
      have hcur : t < cur.size := by
        rw [hcs]
        have : d.size * 33 ≤ cap * 33 := Nat.mul_le_mul_right _ hnc
        omega
      rw [Array.getElem?_mapIdx, Array.getElem?_eq_getElem hcur]
      simp only [Option.map_some, Nat.sub_zero, Nat.zero_add, id]
      rw [if_pos ⟨Nat.zero_le _, by rw [Sort.size_flatK]; exact ht'⟩]
    · rw [List.getElem?_eq_none (by rw [List.length_take]; omega), List.getElem?_eq_none (by rw [flatS_len (bare6_six d')]; omega)]
  · unfold sortWorldK Sort.grow Sort.putRowK Sort.putRow Sort.mapBlock
    show W0.heap.size ≤ ((wr.heap.modify g _) ++ os).size
    rw [Array.size_append, Array.size_modify]
    have := h.2.1.size
    omega
  · unfold sortWorldK Sort.grow Sort.putRowK Sort.putRow Sort.mapBlock
    show ((wr.heap.modify g _) ++ os)[k]? = _
    have hk2 : k < wr.heap.size := Nat.lt_of_lt_of_le hk h.2.1.size
    rw [Array.getElem?_append_left (by rw [Array.size_modify]; exact hk2), Array.getElem?_modify, if_neg (by omega)]
    exact h.2.1.block k hk
end Go.Proofs.YtlmndmfebgaidaaGreatDoor
namespace Go.Proofs.YtlmndmfebgaidaaGreatDoor
open Go.RowKit
set_option linter.unusedVariables false
def rightS (s : SpanZ) : Bool := rightZ s.v s.lo s.hi
def GivesSp (L : List SpanZ) (w : World) (e : Ending) (w' : World) : Prop := ∃ V, e = .returned V ∧ SpOut w w' V L
theorem sp_zero (w : World) : SpOut w (w.alloc (.cells #[] 62)) (.slice (some ⟨w.heap.size, 0, none⟩) 0 0) [] :=
  ⟨World.ownsRow_made w _ 0 (Nat.le_refl _) (by unfold maxLen; omega) rfl, box_below _ _, fun _ h => absurd h (by simp)⟩
set_option maxHeartbeats 500000 in
set_option maxRecDepth 100000 in
theorem cloneS_any (a : Option Addr) (n c : Nat) (L : List SpanZ) (w : World) (hr : SpRow w a n L) (hA : a = none → n = 0 ∧ c = 0) (hn : n ≤ 90000) :
    Calls Tryz.prog 74 #[.slice a n c] w (GivesSp L w) := by
  have q22 : ∀ (w : World) (a : Option Addr) (n c n' c' : Nat), (binOp .eql 22 (.slice a n c) (.slice none n' c')).run Tryz.prog w = .ok (.bool a.isNone) w := fun w a n c n' c' => Lib.run_eql_slice_nil w _ _ a n c n' c' Tryz.underlying22
  go_enter Tryz.func74, Tryz.ntmps74
  cases a with
  | none =>
    obtain ⟨rfl, rfl⟩ := hA rfl
    obtain rfl : L = [] := List.eq_nil_of_length_eq_zero hr.1
    clear hA hr
    go_wp2_with fail
    go_ret
    exact ⟨_, rfl, SpOut.start w⟩
  | some ad =>
    have RX := Lib.hid (hr.below (box_below w (.cells #[] 62)))
    clear hA hr
    go_wp2_with (at_builtin; go_must (refine sp_append (W0 := w) (L := []) (zs := L) rfl _ _ rfl rfl (sp_zero w) rfl RX.out (fun e => by cases e) (by simp; omega) ?_; intro V1 w1 ho1; rw [List.nil_append] at ho1; have HO := Lib.hid ho1; clear ho1))
    go_ret
    exact ⟨_, rfl, HO.out⟩
def idxZ (L : List SpanZ) : Int := if (L.takeWhile rightS).length = L.length then -1 else ((L.takeWhile rightS).length : Int)
theorem idx_here : ∀ {L : List SpanZ} {k : Nat} (hk : k < L.length), (∀ j (hj : j < k), rightS (L[j]'(by omega)) = true) → rightS L[k] = false → (L.takeWhile rightS).length = k
  | [], k, hk, _, _ => absurd hk (by simp)
  | s :: r, 0, hk, _, h => by
    have : rightS s = false := h
    simp [List.takeWhile, this]
  | s :: r, k + 1, hk, hj, h => by
    have h0 : rightS s = true := hj 0 (by omega)
    have := idx_here (L := r) (k := k) (by simpa using hk) (fun j hj' => hj (j + 1) (by omega)) h
    simp [List.takeWhile, h0, this]
theorem idx_none : ∀ {L : List SpanZ}, (∀ j (hj : j < L.length), rightS L[j] = true) → (L.takeWhile rightS).length = L.length
  | [], _ => rfl
  | s :: r, h => by
    have h0 : rightS s = true := h 0 (by simp)
    have := idx_none (L := r) (fun j hj => h (j + 1) (by simpa using hj))
    simp [List.takeWhile, h0, this]
set_option maxHeartbeats 1000000 in
set_option maxRecDepth 100000 in
theorem index_any (a : Option Addr) (n c : Nat) (L : List SpanZ) (w : World) (hr : SpRow w a n L) (hn : n ≤ 90000) :
    Calls Tryz.prog 110 #[.slice a n c, .func (.func 90) #[] #[]] w fun e w' => e = .returned (.int .i64 (idxZ L)) ∧ Below w.heap.size w w' := by
  have HR := Lib.hid hr
  have HL := Lib.hid hr.1
  clear hr
  go_enter Tryz.func110, Tryz.ntmps110
  go_wp2_with fail
  go_loopw [8] (fun iV wr => ∃ (k : Nat), iV = .int .i64 (k : Int) ∧ k ≤ n ∧ (∀ j (hj : j < L.length), j < k → rightS L[j] = true) ∧ Below w.heap.size w wr) (fun iV _ => (200000 - intOf iV).toNat)
  case atStart => exact ⟨0, rfl, Nat.zero_le _, fun _ _ h => absurd h (by omega), Below.refl _ _⟩
  case round =>
    obtain ⟨k, rfl, hk, hj, hb⟩ := hrel
    have HJ := Lib.hid hj
    have B5 := Lib.hid hb
    clear hj hb
    by_cases hlt : k < n
    · have t0 : decide ((k : Int) < (n : Int)) = true := decide_eq_true (by omega)
      have hkL : k < L.length := by rw [HL.out]; exact hlt
      obtain ⟨b, off, rfl, hbl⟩ := HR.out.form (by omega)
      have RG := Lib.hid ((HR.out.below B5.out).range k hkL)
      have s6 := HR.out.2.1 _ (List.getElem_mem hkL)
      have SZ : Hid ((Tryz.prog.info? 62).map (·.size) = some (scL L[k]).length) := Lib.hid (by rw [scL_len s6, Tryz.sizeS s6, scells_size s6])
      have C1 := Lib.hid (fun W => wrong_any L[k] W s6)
      have i0 : (0 : Int) ≤ (k : Int) := by omega
      have i1 : (k : Int) < (n : Int) := by omega
      have HD := Lib.hid (fun h => idx_here hkL (fun j hj => HJ.out j (by omega) hj) h)
      have HN := Lib.hid (fun (h : rightS L[k] = true) j (hj : j < L.length) (h2 : j < k + 1) => (by
        rcases Nat.lt_or_ge j k with h3 | h3
        · exact HJ.out j hj h3
        · obtain rfl : j = k := by omega
          exact h : rightS L[j] = true))
      have HI : Hid ((L.takeWhile rightS).length = k → idxZ L = (k : Int)) := Lib.hid (fun h => by
        unfold idxZ
        rw [h, if_neg (by omega)])
      clear s6
      generalize hs : L[k] = s at *
      generalize hq : rightZ s.v s.lo s.hi = q at *
      have hq' : rightS s = q := hq
      rw [hq'] at HD HN
      clear hs hq hq' HR HL HJ
      cases q with
      | true =>
        have HN2 := Lib.hid (HN.out rfl)
        clear HN HD HI
        go_wp2_with (first
          | (refine wpList_load_mid rfl 62 (.tmp 14) rfl b (off + k * 33) rfl (scL s) _ RG.out Tryz.underlying62 rfl SZ.out ?_)
          | (refine (C1.out _).mono ?_
             rintro r w6 ⟨rfl, hb6⟩
             have B6 := Lib.hid (Below.step B5.out hb6)
             clear hb6))
        go_roundw
        case rel => exact ⟨k + 1, by go_num, by omega, HN2.out, B6.out⟩
        case measure => simp only [intOf]; omega
      | false =>
        have HD2 := Lib.hid (HI.out (HD.out rfl))
        clear HN HD HI
        go_wp2_with (first
          | (refine wpList_load_mid rfl 62 (.tmp 14) rfl b (off + k * 33) rfl (scL s) _ RG.out Tryz.underlying62 rfl SZ.out ?_)
          | (refine (C1.out _).mono ?_
             rintro r w6 ⟨rfl, hb6⟩
             have B6 := Lib.hid (Below.step B5.out hb6)
             clear hb6))
        go_ret
        exact ⟨by rw [HD2.out]; rfl, B6.out⟩
    · obtain rfl : k = n := by omega
      have t0 : decide ((k : Int) < (k : Int)) = false := decide_eq_false (by omega)
      have HI : Hid (idxZ L = -1) := Lib.hid (by
        unfold idxZ
        rw [if_pos (idx_none (fun j hj => HJ.out j hj (by rw [← HL.out]; exact hj)))])
      clear HR HL HJ
      go_wp2_with fail
      go_ret
      exact ⟨by rw [HI.out]; rfl, B5.out⟩
end Go.Proofs.YtlmndmfebgaidaaGreatDoor
namespace Go.Proofs.YtlmndmfebgaidaaGreatDoor
open Go.RowKit
set_option linter.unusedVariables false
def GivesIn (W0 : World) (L : List SpanZ) (e : Ending) (w' : World) : Prop := ∃ V, e = .returned V ∧ SpOut W0 w' V L
theorem alloc_setRow (w : World) (cs ds : Array Value) (t : TypeId) : (w.alloc (.cells cs t)).setRow w.heap.size ds = w.alloc (.cells ds t) := by
  unfold World.setRow World.alloc
  simp only
  congr 1
  apply Array.ext_getElem?
  intro k
  rw [Array.getElem?_modify]
  by_cases h : w.heap.size = k
  · subst h
    simp
  · rw [if_neg h, Array.getElem?_push, Array.getElem?_push, if_neg (fun e => h e.symm), if_neg (fun e => h e.symm)]
def DelAt (L : List SpanZ) (i j : Nat) (R : List SpanZ) : Prop := R.length = L.length ∧ i < j ∧ R.take i = (L.take j).filter rightS ∧ R.drop j = L.drop j
theorem del_start {L : List SpanZ} (h : ¬ (L.takeWhile rightS).length = L.length) : (L.takeWhile rightS).length < L.length ∧ DelAt L (L.takeWhile rightS).length ((L.takeWhile rightS).length + 1) L := by
  have key : ∀ M : List SpanZ, ¬ (M.takeWhile rightS).length = M.length → (M.takeWhile rightS).length < M.length ∧ M.take (M.takeWhile rightS).length = (M.take ((M.takeWhile rightS).length + 1)).filter rightS := by
    intro M
    induction M with
    | nil => intro h; exact absurd rfl h
    | cons s r ih =>
      intro h
      cases hs : rightS s with
      | true =>
        simp only [List.takeWhile, hs, List.length_cons] at h ⊢
        obtain ⟨h1, h2⟩ := ih (by omega)
        refine ⟨by omega, ?_⟩
        rw [List.take_succ_cons, List.take_succ_cons, List.filter_cons_of_pos hs, ← h2]
      | false =>
        simp [List.takeWhile, hs]
  obtain ⟨h1, h2⟩ := key L h
  exact ⟨h1, rfl, Nat.lt_succ_self _, h2, rfl⟩
theorem all_right : ∀ {L : List SpanZ}, (L.takeWhile rightS).length = L.length → L.filter rightS = L
  | [], _ => rfl
  | s :: r, h => by
    cases hs : rightS s with
    | true =>
      simp only [List.takeWhile, hs, List.length_cons] at h
      rw [List.filter_cons_of_pos hs, all_right (by omega)]
    | false => simp [List.takeWhile, hs] at h
theorem del_at {L R : List SpanZ} {i j : Nat} (h : DelAt L i j R) (hj : j < L.length) : R[j]'(by rw [h.1]; exact hj) = L[j] := by
  have hR : j < R.length := by rw [h.1]; exact hj
  have e := h.2.2.2
  rw [List.drop_eq_getElem_cons hR, List.drop_eq_getElem_cons hj] at e
  injection e
theorem del_next {L R : List SpanZ} {i j : Nat} (h : DelAt L i j R) (hj : j < L.length) : R.drop (j + 1) = L.drop (j + 1) := by
  have hR : j < R.length := by rw [h.1]; exact hj
  have e := h.2.2.2
  rw [List.drop_eq_getElem_cons hR, List.drop_eq_getElem_cons hj] at e
  injection e
theorem del_keep {L R : List SpanZ} {i j : Nat} (h : DelAt L i j R) (hj : j < L.length) (hr : rightS L[j] = true) : DelAt L (i + 1) (j + 1) (R.set i L[j]) := by
  have hi : i < R.length := by have := h.1; have := h.2.1; omega
  refine ⟨by rw [List.length_set]; exact h.1, by have := h.2.1; omega, ?_, ?_⟩
  · rw [(list_split L[j] hi).1, h.2.2.1, List.take_add_one, List.filter_append, List.getElem?_eq_getElem hj]
    simp [hr]
  · rw [List.drop_set_of_lt (by have := h.2.1; omega), del_next h hj]
theorem del_skip {L R : List SpanZ} {i j : Nat} (h : DelAt L i j R) (hj : j < L.length) (hr : rightS L[j] = false) : DelAt L i (j + 1) R := by
  refine ⟨h.1, by have := h.2.1; omega, ?_, del_next h hj⟩
  rw [h.2.2.1, List.take_add_one, List.filter_append, List.getElem?_eq_getElem hj]
  simp [hr]
theorem del_end {L R : List SpanZ} {i : Nat} (h : DelAt L i L.length R) : R.take i = L.filter rightS := by
  have := h.2.2.1
  rwa [List.take_length] at this
theorem run_clear_span (w : World) (ty : TypeId) (g o n c : Nat) (hn : 0 < n) (ht : w.there g o (n * 33)) :
    (Builtin.clear_ #[22] ty #[.slice (some ⟨g, o, none⟩) n c]).run Tryz.prog w = .ok (.tuple #[]) (w.setCells g o (Builtin.zeroCells (scells zeroS) n).toList) ∧ (Builtin.zeroCells (scells zeroS) n).toList.length = n * 33 := by
  have hl : (Builtin.zeroCells (scells zeroS) n).toList.length = n * 33 := by
    simp [Builtin.zeroCells, scells_size zeroS_six]
  have hv : ∀ w, (zeroValue 62).run Tryz.prog w = .ok (.agg (scells zeroS)) w := fun w => by kernel_rfl
  have hst := run_storeCells_cells (P := Tryz.prog) g o (Builtin.zeroCells (scells zeroS) n).toList 0 w (fun j hj => (ht j (by rw [hl] at hj; exact hj)).1) (fun j hj => (ht j (by rw [hl] at hj; exact hj)).2) (fun v hv => by
    have hall := Array.all_eq_true_iff_forall_mem.1 (scells_one zeroS)
    obtain ⟨i, _, rfl⟩ := Array.mem_map.1 (Array.mem_toList_iff.1 hv)
    have hi : i % (scells zeroS).size < (scells zeroS).size := Nat.mod_lt _ (by rw [scells_size zeroS_six]; decide)
    rw [getElem!_pos (scells zeroS) (i % (scells zeroS).size) hi]
    exact hall _ (Array.getElem_mem hi))
  refine ⟨?_, hl⟩
  simp only [Nat.add_zero] at hst
  obtain ⟨m, rfl⟩ : ∃ m, n = m + 1 := ⟨n - 1, by omega⟩
  simp [Builtin.clear_, run_underlying Tryz.underlying22, hv, hst, Value.cells]
set_option maxHeartbeats 2000000 in
set_option maxRecDepth 100000 in
theorem delete_any (W0 w : World) (V : Value) (L : List SpanZ) (ho : SpOut W0 w V L) (hl : L.length ≤ 90000) :
    Calls Tryz.prog 89 #[V, .func (.func 90) #[] #[]] w (GivesIn W0 (L.filter rightS)) := by
  obtain ⟨a, c, rfl, hr, hA⟩ := ho.row
  have CI := Lib.hid (index_any a L.length c L w hr hl)
  have HO := Lib.hid ho
  by_cases hall : (L.takeWhile rightS).length = L.length
  · have ix : idxZ L = -1 := by unfold idxZ; rw [if_pos hall]
    rw [ix] at CI
    have FL := Lib.hid (all_right hall)
    clear ho hr hA ix hall
    go_enter Tryz.func89, Tryz.ntmps89
    go_wp2_with (refine CI.out.mono ?_; rintro r w2 ⟨rfl, hb2⟩; have O2 := Lib.hid (HO.out.below hb2); clear hb2)
    go_ret
    exact ⟨_, rfl, by rw [FL.out]; exact O2.out⟩
  · obtain ⟨hk, hst⟩ := del_start hall
    have ix : idxZ L = ((L.takeWhile rightS).length : Int) := by unfold idxZ; rw [if_neg hall]
    rw [ix] at CI
    have form := ho.form
    obtain ⟨g, cap, hV, hg0, hg1, hcap⟩ : ∃ g cap, Value.slice a L.length c = .slice (some ⟨g, 0, none⟩) L.length cap ∧ W0.heap.size ≤ g ∧ g < w.heap.size ∧ L.length ≤ cap := by
      rcases form with ⟨_, h0⟩ | h
      · rw [h0] at hk
        exact absurd hk (by simp)
      · exact h
    injection hV with e1 _ e2
    subst e1 e2
    have DS := Lib.hid hst
    have HK := Lib.hid hk
    generalize (L.takeWhile rightS).length = k at *
    clear ho hr hA ix hall form hst
    obtain ⟨n, hn⟩ : ∃ n, L.length = n := ⟨_, rfl⟩
    have HN := Lib.hid hn
    rw [hn] at CI HO hk hl hcap ⊢
    clear hn
    have kI : IntKind.i64.wrap ((k : Int) + 1) = (k : Int) + 1 := IntWalk.i64_in _ (by omega)
    go_enter Tryz.func89, Tryz.ntmps89
    have k1 : ((k : Int) == -1) = false := by simp
    go_wp2_with (refine CI.out.mono ?_; rintro r w2 ⟨rfl, hb2⟩; have O2 := Lib.hid (HO.out.below hb2); clear hb2)
    clear HO CI
    go_loopw [5, 6] (fun iV jV wr => ∃ (i j : Nat) (R : List SpanZ), iV = .int .i64 (i : Int) ∧ jV = .int .i64 (j : Int) ∧ j ≤ n ∧ DelAt L i j R ∧ SpOut W0 wr (.slice (some ⟨g, 0, none⟩) n c) R) (fun _ jV _ => ((n : Int) - intOf jV).toNat)
    case atStart => exact ⟨k, k + 1, L, rfl, by go_num, by omega, DS.out, O2.out⟩
    case round =>
      obtain ⟨i, j, R, rfl, rfl, hj, hd, ho⟩ := hrel
      have D5 := Lib.hid hd
      have O5 := Lib.hid ho
      have RL : Hid (R.length = n) := Lib.hid (by rw [hd.1]; exact HN.out)
      have hij := hd.2.1
      clear hd ho DS O2
      by_cases hlt : j < n
      · have t0 : decide ((j : Int) < (n : Int)) = true := decide_eq_true (by omega)
        have hjL : j < L.length := by rw [HN.out]; exact hlt
        have hjR : j < R.length := by rw [RL.out]; exact hlt
        obtain ⟨a', c', hV, hrow, _⟩ := O5.out.row
        injection hV with e1 e2 e3
        subst e1
        have ra := hrow.range j hjR
        rw [del_at D5.out hjL] at ra
        rw [Nat.zero_add] at ra
        have RG := Lib.hid ra
        have s6 := O5.out.2.2 _ (List.getElem_mem hjR)
        rw [del_at D5.out hjL] at s6
        have SZ : Hid ((Tryz.prog.info? 62).map (·.size) = some (scL L[j]).length) := Lib.hid (by rw [scL_len s6, Tryz.sizeS s6, scells_size s6])
        have SA : Hid ((Tryz.prog.info? 62).map (·.size) = some (scells L[j]).size) := Lib.hid (Tryz.sizeS s6)
        have ZA : Hid ((scells zeroS).size = (scells L[j]).size) := Lib.hid (by rw [scells_size s6, scells_size zeroS_six])
        have OA := Lib.hid (scells_one L[j])
        have C1 := Lib.hid (fun W => wrong_any L[j] W s6)
        have NK := Lib.hid (fun h => del_keep D5.out hjL h)
        have NS := Lib.hid (fun h => del_skip D5.out hjL h)
        have ST := Lib.hid (fun (W : World) (h : SpOut W0 W (.slice (some ⟨g, 0, none⟩) n c) R) => h.set RL.out.symm hg0 i (by rw [RL.out]; omega) s6)
        have TH := Lib.hid (fun (W : World) (h : SpOut W0 W (.slice (some ⟨g, 0, none⟩) n c) R) => h.there RL.out.symm (i * 33) (scells L[j]).size (by rw [scells_size s6]; omega))
        have BX : Hid (Blk (wr.alloc (.cells (scells L[j]) 62)) wr.heap.size 62 (scells L[j])) := Lib.hid (sbox wr L[j])
        have OX := Lib.hid (O5.out.below (box_below wr (.cells (scells L[j]) 62)))
        have i0 : (0 : Int) ≤ (j : Int) := by omega
        have i1 : (j : Int) < (n : Int) := by omega
        have i2 : (0 : Int) ≤ (i : Int) := by omega
        have i3 : (i : Int) < (n : Int) := by omega
        have iI : IntKind.i64.wrap ((i : Int) + 1) = (i : Int) + 1 := IntWalk.i64_in _ (by omega)
        have jI : IntKind.i64.wrap ((j : Int) + 1) = (j : Int) + 1 := IntWalk.i64_in _ (by omega)
        have AZ : Hid (Blk (wr.alloc (.cells (scells zeroS) 62)) wr.heap.size 62 (scells zeroS)) := Lib.hid (sbox wr zeroS)
        clear s6 hrow ra e2 e3 HN RL
        generalize hs : L[j] = s at *
        have hq' : rightS s = rightZ s.v s.lo s.hi := rfl
        rw [hq'] at NK NS
        generalize rightZ s.v s.lo s.hi = q at *
        clear hs hq' D5
        have SL : Hid ((scL s).toArray = scells s) := Lib.hid rfl
        go_upto_region 8 with (first
          | (refine wpList_load_mid rfl 62 (.tmp 24) rfl g (j * 33) rfl (scL s) _ RG.out Tryz.underlying62 rfl SZ.out ?_; rw [SL.out])
          | (refine Great.wpList_allocTo rfl (some 7) rfl (.pointer (some ⟨wr.heap.size, 0, none⟩)) (.cells (scells zeroS) 62) rfl ?_)
          | (refine wpList_store_rowTo rfl 62 (.tmp 7) (.tmp 25) rfl rfl wr.heap.size (scells s) rfl rfl 62 (scells zeroS) AZ.out SA.out ZA.out OA.out ?_; rw [alloc_setRow]))
        clear O5 RG AZ
        generalize wr.alloc (.cells (scells s) 62) = w3 at *
        generalize wr.heap.size = gb at *
        have SM : Hid (wr = wr) := Lib.hid rfl
        clear SM
        cases q with
        | true =>
          have N7 := Lib.hid (NK.out rfl)
          clear NK NS
          go_wp2_with (first
            | (refine wpList_load_row rfl 62 (.tmp 7) rfl gb rfl 62 (scells s) (0, 0) _ BX.out Tryz.underlying62 rfl SA.out ?_)
            | (refine (C1.out _).mono ?_
               rintro r w6 ⟨rfl, hb6⟩
               have O6 := Lib.hid (OX.out.below hb6)
               replace BX := Lib.hid (BX.out.below hb6 BX.out.lt)
               have T6 := Lib.hid (TH.out _ O6.out)
               have S6 := Lib.hid (ST.out _ O6.out)
               clear hb6)
            | (refine wpList_store_mid rfl 62 (.tmp 33) (.tmp 32) rfl g (i * 33) (scells s) rfl rfl T6.out SA.out OA.out ?_))
          go_roundw
          case rel => exact ⟨i + 1, j + 1, _, by go_num, by go_num, by omega, N7.out, S6.out⟩
          case measure => simp only [intOf]; omega
        | false =>
          have N7 := Lib.hid (NS.out rfl)
          clear NK NS
          go_wp2_with (first
            | (refine wpList_load_row rfl 62 (.tmp 7) rfl gb rfl 62 (scells s) (0, 0) _ BX.out Tryz.underlying62 rfl SA.out ?_)
            | (refine (C1.out _).mono ?_
               rintro r w6 ⟨rfl, hb6⟩
               have O6 := Lib.hid (OX.out.below hb6)
               clear hb6))
          go_roundw
          case rel => exact ⟨i, j + 1, R, rfl, by go_num, by omega, N7.out, O6.out⟩
          case measure => simp only [intOf]; omega
      · obtain rfl : j = n := by omega
        have t0 : decide ((j : Int) < (j : Int)) = false := decide_eq_false (by omega)
        have e0 := O5.out
        obtain ⟨e1, e2⟩ := run_clear_span wr 0 g (i * 33) (j - i) (c - i) (by omega) (e0.there RL.out.symm _ _ (by omega))
        have hcl : ∀ ty, (Builtin.clear_ #[22] ty #[.slice (some ⟨g, i * 33, none⟩) (j - i) (c - i)]).run Tryz.prog wr = .ok (.tuple #[]) (wr.setCells g (i * 33) (Builtin.zeroCells (scells zeroS) (j - i)).toList) := fun ty => (run_clear_span wr ty g (i * 33) (j - i) (c - i) (by omega) (e0.there RL.out.symm _ _ (by omega))).1
        have O7 := Lib.hid (e0.clear RL.out.symm hg0 i (by rw [RL.out]; omega) _ (by rw [RL.out]; exact e2))
        have DE := Lib.hid (del_end (show DelAt L i L.length R by rw [HN.out]; exact D5.out))
        rw [DE.out] at O7
        have i0 : (0 : Int) ≤ (i : Int) := by omega
        have i1 : (i : Int) ≤ (j : Int) := by omega
        have i2 : (j : Int) ≤ (c : Int) := by omega
        have i3 : (i : Int) ≤ (c : Int) := by omega
        clear e0 e1 e2 O5 D5 HN RL DE
        generalize wr.setCells g (i * 33) (Builtin.zeroCells (scells zeroS) (j - i)).toList = w7 at *
        go_wp2_with fail
        go_ret
        exact ⟨_, rfl, O7.out⟩
end Go.Proofs.YtlmndmfebgaidaaGreatDoor
namespace Go.Proofs.YtlmndmfebgaidaaGreatDoor
open Go.RowKit
set_option maxRecDepth 100000
set_option linter.unusedVariables false
theorem results_row_val {P : Program} {fn : Func} {p u : Tmp} {ty : TypeId} (h : fn.results = #[.cell p ty, .tmp u]) (tmps : Array Value) (w : World) (g : Nat) (t : TypeId) (cs : Array Value) (fr : Nat × Nat) (d : TypeDesc)
    (hp : tmps.getD p undef = .pointer (some ⟨g, 0, none⟩)) (hg : w.heap[g]? = some (.cells cs t fr))
    (hu : P.underlying ty = some d) (hd : (match d with | .struct _ | .array _ _ => true | _ => false) = true) (hi : (P.info? ty).map (·.size) = some cs.size) :
    (results fn tmps).run P w = .ok (.tuple #[.agg cs, tmps.getD u undef]) w := by
  rw [results_cell_tmp h, hp]
  simp [asAddr, run_loadVar_row w g t ty cs fr d hg hu hd hi, Result.andThen]
theorem build1_to {P : Program} {ops : Array Oper} {rest : List Oper} {o : Oper} {a : Act} {w : World} {Q : Exit → Act → World → Prop} (hg : o.guard = none) (t : TypeId) (parts : Array (Nat × Operand)) (ho : o.op = .build t parts)
    (d : Option Tmp) (hd : o.dst = d) (cells : Array Value) (ps : List (Nat × Value)) (hb : P.built t ps = some cells) (hps : (parts.map fun (i, x) => (i, a.eval x)).toList = ps)
    (h : wpList P ops Q rest (a.put d (.agg cells)) w) : wpList P ops Q (o :: rest) a w := by
  subst hps
  exact wpList_buildTo hg t parts ho d hd cells hb h
set_option maxHeartbeats 4000000 in
theorem alloc_span_run {o : Oper} {a : Act} {w : World} (ho : o.op = .alloc 62) : (execOp a.eval o).run Tryz.prog w = .ok (.value (.pointer (some ⟨w.heap.size, 0, none⟩))) (w.alloc (.cells (scells zeroS) 62)) := by
  unfold execOp
  simp only [ho]
  rfl
set_option maxHeartbeats 4000000 in
theorem alloc_prefix_run {o : Oper} {a : Act} {w : World} (ho : o.op = .alloc 43) : (execOp a.eval o).run Tryz.prog w = .ok (.value (.pointer (some ⟨w.heap.size, 0, none⟩))) (w.alloc (.cells ZP 43)) := by
  unfold execOp
  simp only [ho]
  rfl
end Go.Proofs.YtlmndmfebgaidaaGreatDoor
namespace Go.Proofs.YtlmndmfebgaidaaGreatDoor
open Go.RowKit
set_option linter.unusedVariables false
structure Kept (O : Nat → Prop) (W W' : World) : Prop where
  os : W'.os = W.os
  tape : W'.tape = W.tape
  output : W'.output = W.output
  size : W.heap.size ≤ W'.heap.size
  block : ∀ k, k < W.heap.size → O k → W'.heap[k]? = W.heap[k]?
theorem Kept.refl (O : Nat → Prop) (W : World) : Kept O W W := ⟨rfl, rfl, rfl, Nat.le_refl _, fun _ _ _ => rfl⟩
theorem Kept.trans {O : Nat → Prop} {A B C : World} (h : Kept O A B) (k : Kept O B C) : Kept O A C :=
  ⟨k.os.trans h.os, k.tape.trans h.tape, k.output.trans h.output, Nat.le_trans h.size k.size, fun i hi ho => (k.block i (Nat.lt_of_lt_of_le hi h.size) ho).trans (h.block i hi ho)⟩
theorem Kept.setCell {O : Nat → Prop} {A B : World} (h : Kept O A B) {p : Addr} (hp : ¬ O p.block) (v : Value) : Kept O A (B.setCell p v) :=
  h.trans ⟨rfl, rfl, rfl, by simp [World.setCell], fun i hi ho => Below.heap_setCell _ _ _ _ (fun e => hp (e ▸ ho))⟩
end Go.Proofs.YtlmndmfebgaidaaGreatDoor
