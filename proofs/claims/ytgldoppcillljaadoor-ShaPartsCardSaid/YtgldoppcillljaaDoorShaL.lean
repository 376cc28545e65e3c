/-
  Plain: blocks one behind the other; a copy into a part of a block; a part of a block stored, for stage 6 (sha).
-/
import Derived.Test.YtgldoppcillljaaDoorShaH
namespace Go.Proofs.YtgldoppcillljaaDoor
open Go.RowKit
set_option linter.unusedVariables false

theorem runV_pre (j : Nat) : ∀ (s : V8) (l1 l2 : List Int), 64 * j ≤ l1.length → runV j s (l1 ++ l2) = runV j s l1 := by
  induction j with
  | zero => intro s l1 l2 h; rfl
  | succ j ih =>
    intro s l1 l2 h
    rw [runV, runV, List.take_append_of_le_length (by omega), List.drop_append_of_le_length (by omega)]
    exact ih _ _ _ (by rw [List.length_drop]; omega)
theorem runV_last (j : Nat) : ∀ (s : V8) (l : List Int), runV (j + 1) s l = blockV (runV j s l) ((l.drop (64 * j)).take 64) := by
  induction j with
  | zero => intro s l; rfl
  | succ j ih =>
    intro s l
    rw [runV, ih, runV, List.drop_drop, show 64 + 64 * j = 64 * (j + 1) by omega]
theorem drop_next (l : List Int) (j : Nat) : (l.drop (64 * j)).drop 64 = l.drop (64 * (j + 1)) := by
  rw [List.drop_drop, show 64 * j + 64 = 64 * (j + 1) by omega]

/-- The bytes that do not fill a block, and what is written behind them. -/
theorem rest_short {L zs rs : List Int} (h64 : rs.length = 64) (hr : rs.take (L.length % 64) = L.drop (64 * (L.length / 64))) (hs : L.length % 64 + zs.length < 64) :
    (L ++ zs).length / 64 = L.length / 64 ∧ (L ++ zs).length % 64 = L.length % 64 + zs.length ∧
    (rs.take (L.length % 64) ++ zs ++ rs.drop (L.length % 64 + zs.length)).take ((L ++ zs).length % 64) = (L ++ zs).drop (64 * ((L ++ zs).length / 64)) ∧
    (rs.take (L.length % 64) ++ zs ++ rs.drop (L.length % 64 + zs.length)).length = 64 := by
  have e1 : (L ++ zs).length / 64 = L.length / 64 := by rw [List.length_append]; omega
  have e2 : (L ++ zs).length % 64 = L.length % 64 + zs.length := by rw [List.length_append]; omega
  refine ⟨e1, e2, ?_, ?_⟩
  · have hl : (rs.take (L.length % 64) ++ zs).length = L.length % 64 + zs.length := by rw [List.length_append, List.length_take]; omega
    rw [e1, e2, ← hl, List.take_left, hr, List.drop_append_of_le_length (by omega)]
  · simp only [List.length_append, List.length_take, List.length_drop]
    omega
theorem rest_full {L zs rs : List Int} (h64 : rs.length = 64) (hr : rs.take (L.length % 64) = L.drop (64 * (L.length / 64))) (hs : 64 ≤ L.length % 64 + zs.length) :
    rs.take (L.length % 64) ++ zs.take (64 - L.length % 64) ++ rs.drop (L.length % 64 + (zs.take (64 - L.length % 64)).length) = ((L ++ zs).drop (64 * (L.length / 64))).take 64 ∧
    runV (L.length / 64 + 1) H0 (L ++ zs) = blockV (runV (L.length / 64) H0 L) (rs.take (L.length % 64) ++ zs.take (64 - L.length % 64) ++ rs.drop (L.length % 64 + (zs.take (64 - L.length % 64)).length)) ∧
    zs.drop (64 - L.length % 64) = (L ++ zs).drop (64 * (L.length / 64 + 1)) ∧
    (rs.take (L.length % 64) ++ zs.take (64 - L.length % 64) ++ rs.drop (L.length % 64 + (zs.take (64 - L.length % 64)).length)).length = 64 := by
  have hlz : (zs.take (64 - L.length % 64)).length = 64 - L.length % 64 := by rw [List.length_take]; omega
  have hd : rs.drop (L.length % 64 + (zs.take (64 - L.length % 64)).length) = [] := List.drop_of_length_le (by omega)
  have hll : (L.drop (64 * (L.length / 64))).length = L.length % 64 := by rw [List.length_drop]; omega
  have e1 : rs.take (L.length % 64) ++ zs.take (64 - L.length % 64) ++ rs.drop (L.length % 64 + (zs.take (64 - L.length % 64)).length) = ((L ++ zs).drop (64 * (L.length / 64))).take 64 := by
    rw [hd, List.append_nil, hr, List.drop_append_of_le_length (by omega), List.take_append, hll, List.take_of_length_le (l := L.drop (64 * (L.length / 64))) (by omega)]
  refine ⟨e1, ?_, ?_, ?_⟩
  · rw [e1, runV_last, runV_pre _ _ _ _ (by omega)]
  · have : 64 * (L.length / 64 + 1) = L.length + (64 - L.length % 64) := by omega
    rw [this, List.drop_length_add_append]
  · rw [hd]
    simp only [List.length_append, List.length_take, List.length_nil]
    omega
theorem rest_end {T rs : List Int} {j n : Nat} (h64 : rs.length = 64) (hj : 64 * j + n = T.length) (hn : n < 64) :
    T.length / 64 = j ∧ T.length % 64 = n ∧ (rs.take 0 ++ T.drop (64 * j) ++ rs.drop (0 + (T.drop (64 * j)).length)).take (T.length % 64) = T.drop (64 * (T.length / 64)) ∧ (rs.take 0 ++ T.drop (64 * j) ++ rs.drop (0 + (T.drop (64 * j)).length)).length = 64 := by
  have e1 : T.length / 64 = j := by omega
  have e2 : T.length % 64 = n := by omega
  have hl : (T.drop (64 * j)).length = n := by rw [List.length_drop]; omega
  refine ⟨e1, e2, ?_, ?_⟩
  · rw [e1, e2, List.take_zero, List.nil_append]
    have := hl
    rw [List.take_append_of_le_length (by omega), List.take_of_length_le (by omega)]
  · simp only [List.length_append, List.length_drop, List.take_zero, List.length_nil]
    omega

theorem Tryd.sizeU8 : (Tryd.prog.info? 5).map (·.size) = some 1 := by kernel_rfl
theorem u8_one (cs : List Int) : ∀ v ∈ cs.map (Value.int .u8), v.oneCell' = true := by
  intro v hv
  obtain ⟨_, _, rfl⟩ := List.mem_map.1 hv
  rfl
theorem grown_setRow (w : World) (g : Nat) (cs : Array Value) : w.grownBy (w.setRow g cs) (some g) :=
  ⟨rfl, rfl, rfl, by simp [World.setRow], fun k _ hk => setRow_other w g k _ (fun e => hk (by simp [e]))⟩
/-- Bytes are copied into a part of a block. -/
theorem copy_part {ops : Array Oper} {rest : List Oper} {o : Oper} {a : Act} {Q : Exit → Act → World → Prop} {w : World} (hgd : o.guard = none) (d s : Operand) (hop : o.op = .call { callee := .builtin .copy, args := #[d, s], argTypes := #[22, 22] })
    (g off dLen dCap : Nat) (sp : Option Addr) (sLen sCap : Nat) (hd : a.eval d = .slice (some ⟨g, off, none⟩) dLen dCap) (hs : a.eval s = .slice sp sLen sCap)
    (cur : Array Value) (t : TypeId) (hg : Blk w g t cur) (cs : List Int) (hn : cs.length = Nat.min sLen dLen) (hsrc : 0 < cs.length → ∃ ad, sp = some ad ∧ ∀ j v, (cs.map (Value.int .u8))[j]? = some v → w.cell? (ad.add j) = some v) (hfit : off + cs.length ≤ cur.size)
    (h : ∀ w', Blk w' g t (splice cur.toList off (cs.map (Value.int .u8))).toArray → w.grownBy w' (some g) → wpList Tryd.prog ops Q rest (a.put o.dst (.int .i64 (cs.length : Int))) w') : wpList Tryd.prog ops Q (o :: rest) a w := by
  by_cases h0 : cs.length = 0
  · obtain rfl : cs = [] := List.eq_nil_of_length_eq_zero h0
    refine wpList_copy_nothing hgd d s 22 22 hop 5 Tryd.underlying22 Tryd.sizeU8 _ sp dLen dCap sLen sCap hd hs (by simpa using hn.symm) ?_
    refine h w ?_ (World.grownBy.refl w _)
    have : (splice cur.toList off (([] : List Int).map (Value.int .u8))).toArray = cur := by simp [splice]
    rw [this]
    exact hg
  · obtain ⟨ad, rfl, hsrc'⟩ := hsrc (by omega)
    refine wpList_copy_own hgd d s 22 22 hop 5 Tryd.underlying22 Tryd.sizeU8 g off dLen dCap ad sLen sCap hd hs cur t hg (cs.map (Value.int .u8)) (by rw [List.length_map]; exact hn) hsrc' (by rw [List.length_map]; exact hfit) (u8_one cs) ?_
    rw [List.length_map]
    refine h _ ?_ (grown_setRow w g _)
    have := setRow_heap w g cur (cur.toList.take off ++ (cs.map (Value.int .u8) ++ cur.toList.drop (off + cs.length))).toArray t (0, 0) hg
    unfold Blk splice
    rw [List.length_map]
    exact this

/-- A value of several cells is stored in a part of a block. -/
theorem wp_store_part {P : Program} {o : Oper} {a : Act} {w : World} {K : Act → World → Prop} {Q : Exit → Act → World → Prop} (ty : TypeId) (x y : Operand) (ho : o.op = .store ty x y) (hd : o.dst = none)
    (g off : Nat) (cells : Array Value) (hx : a.eval x = .pointer (some ⟨g, off, none⟩)) (hy : a.eval y = .agg cells) (t : TypeId) (cur : Array Value) (hg : Blk w g t cur)
    (hfit : off + cells.size ≤ cur.size) (hi : (P.info? ty).map (·.size) = some cells.size) (h1 : cells.all (·.oneCell') = true)
    (h : K a (w.setRow g (cur.toList.take off ++ cells.toList ++ cur.toList.drop (off + cells.toList.length)).toArray)) : o.wp P a w K Q := by
  have hst := run_storeCells_at P g off t cells.toList 0 cur w hg (by simpa using hfit) (fun v hv => (Array.all_eq_true_iff_forall_mem.1 h1) v (by simpa using hv))
  simp only [Nat.add_zero] at hst
  have hv : (storeVar ty ⟨g, off, none⟩ (.agg cells)).run P w = .ok () (w.setRow g (cur.toList.take off ++ cells.toList ++ cur.toList.drop (off + cells.toList.length)).toArray) := by
    cases hq : P.info? ty with
    | none => simp [hq] at hi
    | some i =>
      have hs : cells.size = i.size := by simp [hq] at hi; omega
      simp [storeVar, sizeOf, typeInfo, hq, Value.cells, hs]
      simpa [hs] using hst
  unfold Oper.wp execOp
  simp only [ho, hx, hy, Instr.storeAt, Instr.sureAddr, Sem.run_bind, Sem.run_pure, Result.andThen_ok, hv]
  show K (a.put o.dst undef) _
  rw [hd]
  exact h

theorem Row.grown {w w' : World} {a : Option Addr} {n g : Nat} {zs : List Int} (h : Row w a n zs) (hg : w.grownBy w' (some g)) (hne : 0 < n → ∃ b off, a = some ⟨b, off, none⟩ ∧ b ≠ g) : Row w' a n zs := by
  refine ⟨h.1, h.2.1, fun h0 => ?_⟩
  obtain ⟨b, off, e, hb, hc⟩ := h.2.2 h0
  obtain ⟨b', off', e', hne'⟩ := hne h0
  rw [e] at e'
  obtain ⟨rfl, rfl⟩ : b = b' ∧ off = off' := by simpa using e'
  exact ⟨b, off, e, Nat.lt_of_lt_of_le hb hg.size, fun i hi => (hg.cell (hc i hi) (by intro e; exact hne' (by simpa using e)))⟩
theorem Tab.grown {w w' : World} {g : Nat} (h : Tab w) (hg : w.grownBy w' (some g)) (h2 : 2 ≤ g) : Tab w' := by
  obtain ⟨h0, ⟨t0, f0, k0⟩, t1, f1, k1⟩ := h
  exact ⟨Nat.le_trans h0 hg.size, ⟨t0, f0, (hg.block 0 (by omega) (by simp; omega)).trans k0⟩, t1, f1, (hg.block 1 (by omega) (by simp; omega)).trans k1⟩
theorem grown_below {a w w' : World} {g : Nat} (h : a.grownBy w (some g)) (hb : Below w.heap.size w w') : a.grownBy w' (some g) :=
  ⟨hb.os.trans h.os, hb.tape.trans h.tape, hb.output.trans h.output, Nat.le_trans h.size hb.size, fun k hk hne => (hb.block k (Nat.lt_of_lt_of_le hk h.size)).trans (h.block k hk hne)⟩
theorem grown_set (w : World) (g i : Nat) (v : Value) : w.grownBy (w.setCell ⟨g, i, none⟩ v) (some g) :=
  ⟨rfl, rfl, rfl, by simp, fun k hk hne => heap_setCell_other w ⟨g, i, none⟩ k v (fun e => hne (by simp [e]))⟩

end Go.Proofs.YtgldoppcillljaaDoor
