/-
  Merged texts: StE.
-/
import Derived.Test.YteddeebhfnpchaaGtJ
import Derived.Test.YteddeebhfnpchaaGtG
import Derived.Laws.AppendOwnNone
namespace Go.Proofs.Yteddeebhfnpchaa
open Go.RowKit
set_option linter.unusedVariables false

/-- An operation that appends spans. -/
theorem op_sp_append {o : Oper} {a : Act} {w W0 : World} {K : Act → World → Prop} {Q : Exit → Act → World → Prop} {V : Value} {L zs : List SpanZ} {A : Option Addr} {m c : Nat} (s x : Operand)
    (hop : o.op = .call { callee := .builtin .append, args := #[s, x], argTypes := #[22, 22] }) (hs : a.eval s = V) (hout : SpOut W0 w V L) (hx : a.eval x = .slice A m c) (hr : SpRow w A m zs) (hA : A = none → m = 0 ∧ c = 0) (hl : L.length + m ≤ 100000)
    (hK : ∀ V' w', SpOut W0 w' V' (L ++ zs) → Below W0.heap.size w w' → (∀ k, k < w.heap.size → V.ownBlock ≠ some k → w'.heap[k]? = w.heap[k]?) → K (a.put o.dst V') w') : o.wp Try.prog a w K Q := by
  obtain ⟨i0, hi5, hz0, hz1, hz2⟩ := info_parts Try.infoSpan
  cases A with
  | none =>
    obtain ⟨rfl, rfl⟩ := hA rfl
    obtain rfl : zs = [] := List.eq_nil_of_length_eq_zero hr.1
    have hrun := run_append_owned_none (P := Try.prog) (w := w) W0.heap.size 22 o.type 30 i0 33 Try.underlying22 hi5 V L.length _ hout.1
    unfold Oper.wp
    simp [execOp, hop, resolve, invoke, builtin, hs, hx, hrun, Result.andThen]
    exact hK V w (by simpa using hout) (Below.refl _ _) (fun _ _ _ => rfl)
  | some ad =>
    have hcl : (flatS zs).length = m * 33 := by rw [flatS_len hr.2.1, hr.1]
    refine wp_append_own _ s x 22 hop W0.heap.size 30 i0 (.agg (scells zeroS)) 33 33 Try.underlying22 hi5 hz0 hz1 hz2 (scells_size zeroS_six) (by decide) V L.length (flatS L) hs hout.1 ad m c (flatS zs) hx hcl ?_ (flatS_one zs) (by unfold maxLen; omega) (by omega) hout.2.1.size ?_
    · intro j u hu
      have hj : j < m * 33 := by
        have := (List.getElem?_eq_some_iff.1 hu).1
        omega
      obtain ⟨b, off, e, _, hc⟩ := hr.2.2 (by omega)
      injection e with e
      subst e
      rw [Addr.add_lit, hc j hj]
      exact hu
    · intro V' w' hown hg _
      refine hK V' w' ⟨?_, hout.2.1.grown hg hout.2.1.size (fun k hk => (hout.1.lt k hk).1), fun z hz => ?_⟩ ((Below.refl _ _).grown hg hout.2.1.size (fun k hk => (hout.1.lt k hk).1)) (fun k hk hne => hg.block k hk (fun e => hne e.symm))
      · rw [List.length_append, hr.1, flatS_app]
        exact hown
      · rcases List.mem_append.1 hz with hz | hz
        · exact hout.2.2 z hz
        · exact hr.2.1 z hz
/-- A slice literal without elements. -/
theorem op_sp_build0 {o : Oper} {a : Act} {w W0 : World} {K : Act → World → Prop} {Q : Exit → Act → World → Prop} (ho : o.op = .buildSlice 22 0 #[]) (hb : Below W0.heap.size W0 w)
    (hK : ∀ g w', SpOut W0 w' (.slice (some ⟨g, 0, none⟩) 0 0) [] → Below w.heap.size w w' → w.heap.size ≤ g → g < w'.heap.size → K (a.put o.dst (.slice (some ⟨g, 0, none⟩) 0 0)) w') : o.wp Try.prog a w K Q := by
  refine op_of_run (.slice (some ⟨w.heap.size, 0, none⟩) 0 0) (w.alloc (.cells #[] 30)) ?_ (hK _ _ ?_ (box_below _ _) (Nat.le_refl _) (by simp))
  · obtain ⟨i0, hi5, hz0, hz1, hz2⟩ := info_parts Try.infoSpan
    unfold execOp
    simp [ho, Instr.buildSlice, run_underlying Try.underlying22, sizeOf, typeInfo, hi5, newRow, Instr.fill, Result.andThen]
    rw [show ∀ f : Nat → Value, Array.map f (Array.range 0) = #[] from fun f => Array.eq_empty_of_size_eq_zero (by rw [Array.size_map, Array.size_range])]
  · refine ⟨⟨rfl, .inr ⟨w.heap.size, 0, #[], rfl, hb.size, Blk.new _ _ _, Nat.le_refl _, by unfold maxLen; omega, rfl, rfl⟩⟩, Below.trans hb ((box_below w _).mono hb.size), fun s hs => by cases hs⟩
/-- A slice literal of one span. -/
theorem op_sp_build1 {o : Oper} {a : Act} {w : World} {K : Act → World → Prop} {Q : Exit → Act → World → Prop} (s : SpanZ) (hs : SixS s) (parts : Array (Nat × Operand)) (ho : o.op = .buildSlice 22 1 parts) (hps : (parts.map fun (i, x) => (i, a.eval x)).toList = [(0, .agg (scells s))])
    (hK : ∀ g w', SpRow w' (some ⟨g, 0, none⟩) 1 [s] → Below w.heap.size w w' → w.heap.size ≤ g → g < w'.heap.size → K (a.put o.dst (.slice (some ⟨g, 0, none⟩) 1 1)) w') : o.wp Try.prog a w K Q :=
  op_buildSlice 22 30 1 parts ho Try.underlying22 _ _ (built_one s hs) hps (hK _ _ (sp_one w hs) (box_below _ _) (Nat.le_refl _) (by simp))
theorem SpRow.kept {w w' : World} {g off n : Nat} {L : List SpanZ} (h : SpRow w (some ⟨g, off, none⟩) n L) (hg : w'.heap[g]? = w.heap[g]?) (hlt : g < w'.heap.size) : SpRow w' (some ⟨g, off, none⟩) n L := by
  refine ⟨h.1, h.2.1, fun hn => ?_⟩
  obtain ⟨b, o, e, _, hc⟩ := h.2.2 hn
  injection e with e
  injection e with e1 e2
  subst e1 e2
  exact ⟨_, _, rfl, hlt, fun i hi => (World.cell?_of_block (a := ⟨g, off + i, none⟩) hg).trans (hc i hi)⟩

/-- The first k of a slice; what stands behind them. -/
def uptoA (A : Option Addr) (cap : Nat) : Option Addr := if cap = 0 then A else A.map (·.add (0 * 33))
def fromA (A : Option Addr) (cap k : Nat) : Option Addr := if cap = k then A else A.map (·.add (k * 33))
theorem yields_upto {o : Oper} {a : Act} {W : World} (x y : Operand) (ho : o.op = .slice 22 x none (some y) none) (A : Option Addr) (n cap k : Nat) (hx : a.eval x = .slice A n cap) (hy : a.eval y = .int .i64 (k : Int)) (hk : k ≤ cap) : (execOp a.eval o).run Try.prog W = .ok (.value (.slice (uptoA A cap) k cap)) W := by
  obtain ⟨i0, hi5, hz0, hz1, hz2⟩ := info_parts Try.infoSpan
  have ht : Try.prog.underlying 22 = some (.slice (Try.prog.elem 22)) := by kernel_rfl
  have he : Try.prog.elem 22 = 30 := by kernel_rfl
  have r := run_slice_h (P := Try.prog) W 22 A n cap ht .i64 (k : Int) (by omega) (by omega)
  rw [← run_sliceAt_slice (P := Try.prog) W 22 (.slice A n cap) none (some (.int .i64 (k : Int))) none ht, he] at r
  have sz : (sizeOf 30).run Try.prog W = .ok 33 W := by simp [sizeOf, typeInfo, hi5, hz1]
  rw [sz] at r
  unfold execOp
  simp only [ho, hx, hy, Option.map, Sem.run_bind, r, Result.andThen_ok, Sem.run_pure, sliced, uptoA]
  simp
theorem yields_from {o : Oper} {a : Act} {W : World} (x y : Operand) (ho : o.op = .slice 22 x (some y) none none) (A : Option Addr) (n cap k : Nat) (hx : a.eval x = .slice A n cap) (hy : a.eval y = .int .i64 (k : Int)) (hk : k ≤ n) : (execOp a.eval o).run Try.prog W = .ok (.value (.slice (fromA A cap k) (n - k) (cap - k))) W := by
  obtain ⟨i0, hi5, hz0, hz1, hz2⟩ := info_parts Try.infoSpan
  have ht : Try.prog.underlying 22 = some (.slice (Try.prog.elem 22)) := by kernel_rfl
  have he : Try.prog.elem 22 = 30 := by kernel_rfl
  have r := run_slice_l (P := Try.prog) W 22 A n cap ht .i64 (k : Int) (by omega) (by omega)
  rw [← run_sliceAt_slice (P := Try.prog) W 22 (.slice A n cap) (some (.int .i64 (k : Int))) none none ht, he] at r
  have sz : (sizeOf 30).run Try.prog W = .ok 33 W := by simp [sizeOf, typeInfo, hi5, hz1]
  rw [sz] at r
  unfold execOp
  simp only [ho, hx, hy, Option.map, Sem.run_bind, r, Result.andThen_ok, Sem.run_pure, sliced, fromA]
  simp
theorem upto_row {w : World} {A : Option Addr} {n cap : Nat} {L : List SpanZ} (h : SpRow w A n L) (hA : A = none → n = 0 ∧ cap = 0) (k : Nat) (hk : k ≤ n) (hc : n ≤ cap) : SpRow w (uptoA A cap) k (L.take k) ∧ (uptoA A cap = none → k = 0 ∧ cap = 0) := by
  have e : uptoA A cap = A := by
    unfold uptoA
    split
    · rfl
    · cases A with
      | none => rfl
      | some ad => simp [Addr.add]
  rw [e]
  refine ⟨⟨by rw [List.length_take, h.1]; omega, fun s hs => h.2.1 s (List.mem_of_mem_take hs), fun hp => ?_⟩, fun h0 => by obtain ⟨h1, h2⟩ := hA h0; omega⟩
  obtain ⟨b, off, e2, hb, hcl⟩ := h.2.2 (by omega)
  refine ⟨b, off, e2, hb, fun i hi => ?_⟩
  rw [hcl i (by omega), flatS_take h.2.1 k (by have := h.1; omega), List.getElem?_take, if_pos hi]
theorem from_row {w : World} {A : Option Addr} {n cap : Nat} {L : List SpanZ} (h : SpRow w A n L) (hA : A = none → n = 0 ∧ cap = 0) (k : Nat) (hk : k ≤ n) (hc : n ≤ cap) : SpRow w (fromA A cap k) (n - k) (L.drop k) ∧ (fromA A cap k = none → n - k = 0 ∧ cap - k = 0) := by
  refine ⟨?_, fun h0 => ?_⟩
  · rcases Nat.eq_zero_or_pos (n - k) with hz | hp
    · rw [hz, List.drop_of_length_le (by have := h.1; omega)]
      exact SpRow.nil _ _
    · obtain ⟨b, off, rfl, _⟩ := h.form (by omega)
      have := h.rest k hk
      unfold fromA
      rw [if_neg (by omega), Option.map_some, Addr.add_lit]
      exact this
  · unfold fromA at h0
    split at h0
    · have := hA h0
      omega
    · cases A with
      | none => have := hA rfl; omega
      | some ad => simp at h0

/-- Loads and stores in the middle of a block, told by the slot of their address. -/
theorem load_bytes_at {ops : Array Oper} {rest : List Oper} {a : Act} {w : World} {Q : Exit → Act → World → Prop} {dst : Option Tmp} {t' : TypeId} {pos : String} {aft : Array Edge} (k : Nat) (b o : Nat) (cs : List Value) (hx : a.eval (.tmp k) = .pointer (some ⟨b, o, none⟩)) (hc : w.rangeAt b o cs)
    (hi : (Try.prog.info? 28).map (·.size) = some cs.length) (h : wpList Try.prog ops Q rest (a.put dst (.agg cs.toArray)) w) :
    wpList Try.prog ops Q ({ dst := dst, op := .load 28 (.tmp k), type := t', pos := pos, after := aft, guard := none } :: rest) a w :=
  wpList_load_mid rfl 28 (.tmp k) rfl b o hx cs _ hc Try.underlying28 rfl hi h
theorem store_bytes_at {ops : Array Oper} {rest : List Oper} {a : Act} {w : World} {Q : Exit → Act → World → Prop} {dst : Option Tmp} {t' : TypeId} {pos : String} {aft : Array Edge} (k j : Nat) (b o : Nat) (cells : Array Value) (hx : a.eval (.tmp k) = .pointer (some ⟨b, o, none⟩)) (hy : a.eval (.tmp j) = .agg cells)
    (ht : w.there b o cells.size) (hi : (Try.prog.info? 28).map (·.size) = some cells.size) (h1 : cells.all (·.oneCell') = true) (h : wpList Try.prog ops Q rest (a.put dst undef) (w.setCells b o cells.toList)) :
    wpList Try.prog ops Q ({ dst := dst, op := .store 28 (.tmp k) (.tmp j), type := t', pos := pos, after := aft, guard := none } :: rest) a w :=
  wpList_store_mid rfl 28 (.tmp k) (.tmp j) rfl b o cells hx hy ht hi h1 h
theorem load_whole_at {ops : Array Oper} {rest : List Oper} {a : Act} {w : World} {Q : Exit → Act → World → Prop} {dst : Option Tmp} {t' : TypeId} {pos : String} {aft : Array Edge} (k : Nat) (g : Nat) (cs : Array Value) (hx : a.eval (.tmp k) = .pointer (some ⟨g, 0, none⟩)) (hb : Blk w g 30 cs)
    (hi : (Try.prog.info? 30).map (·.size) = some cs.size) (h : wpList Try.prog ops Q rest (a.put dst (.agg cs)) w) :
    wpList Try.prog ops Q ({ dst := dst, op := .load 30 (.tmp k), type := t', pos := pos, after := aft, guard := none } :: rest) a w :=
  wpList_load_row rfl 30 (.tmp k) rfl g hx 30 cs (0, 0) _ hb Try.underlying30 rfl hi h
theorem build_span_at {ops : Array Oper} {rest : List Oper} {a : Act} {w : World} {Q : Exit → Act → World → Prop} {dst : Option Tmp} {t' : TypeId} {pos : String} {aft : Array Edge} (k : Nat) (cells : Array Value) (hx : a.eval (.tmp k) = .agg cells) (hb : Try.prog.builtSlice 30 1 [(0, .agg cells)] = some cells)
    (h : wpList Try.prog ops Q rest (a.put dst (.slice (some ⟨w.heap.size, 0, none⟩) 1 1)) (w.alloc (.cells cells 30))) :
    wpList Try.prog ops Q ({ dst := dst, op := .buildSlice 22 1 #[(0, .tmp k)], type := t', pos := pos, after := aft, guard := none } :: rest) a w :=
  build_to rfl 22 30 1 _ rfl w.heap.size rfl dst rfl Try.underlying22 cells _ hb (by simp [hx]) h
/-- A row of the call's own, field by field. -/
theorem SpOut.row0 {W0 wr : World} {g n cap : Nat} {L : List SpanZ} (h : SpOut W0 wr (.slice (some ⟨g, 0, none⟩) n cap) L) : n = L.length ∧ SpRow wr (some ⟨g, 0, none⟩) n L := by
  obtain ⟨a, c, e, hr, _⟩ := h.row
  injection e with e1 e2 e3
  subst e1 e2
  exact ⟨rfl, hr⟩
theorem SpOut.v0 {W0 wr : World} {g n cap : Nat} {L : List SpanZ} (h : SpOut W0 wr (.slice (some ⟨g, 0, none⟩) n cap) L) (j : Nat) (hj : j < L.length) : wr.cell? ⟨g, j * 33, none⟩ = some (.bool (L[j]).v) := by
  have := h.row0.2.v j hj
  rwa [Nat.zero_add] at this
theorem SpOut.hi0 {W0 wr : World} {g n cap : Nat} {L : List SpanZ} (h : SpOut W0 wr (.slice (some ⟨g, 0, none⟩) n cap) L) (j : Nat) (hj : j < L.length) : wr.rangeAt g (j * 33 + 17) (acells (L[j]).hi) := by
  have := h.row0.2.hi j hj
  rwa [Nat.zero_add] at this

/-- Where an element is put in. -/
theorem ins_split : ∀ (R : List SpanZ) (p : SpanZ) (k : Nat), (∀ j q, j < k → R[j]? = some q → aheadS q p = true) → k ≤ R.length → (∀ q, R[k]? = some q → aheadS q p = false) → insS p R = R.take k ++ p :: R.drop k
  | [], p, k, _, hk, _ => by
    have : k = 0 := by simpa using hk
    subst this
    rfl
  | q :: r, p, 0, _, _, h0 => by
    have := h0 q rfl
    unfold insS
    rw [if_neg (by rw [this]; simp)]
    rfl
  | q :: r, p, k + 1, ha, hk, h0 => by
    have := ha 0 q (by omega) rfl
    unfold insS
    rw [if_pos this, ins_split r p k (fun j x hj hx => ha (j + 1) x (by omega) (by rw [List.getElem?_cons_succ]; exact hx)) (by simpa using hk) (fun x hx => h0 x (by rw [List.getElem?_cons_succ]; exact hx))]
    rfl
theorem sort_step {R L : List SpanZ} {i : Nat} (hi : i < L.length) : sortS R (L.drop i) = sortS (if rightZ (L[i]).v (L[i]).lo (L[i]).hi = true then insS (L[i]) R else R) (L.drop (i + 1)) := by
  rw [List.drop_eq_getElem_cons hi]
  rfl
/-- What has come out so far: the last one goes on. -/
def MergeAt (S : List SpanZ) (k : Nat) (O : List SpanZ) : Prop := (k = 0 ∧ O = []) ∨ ∃ D c, O = D ++ [c] ∧ D ++ mergeS c (S.drop k) = joinAll S
theorem merge_first {S : List SpanZ} (h : 0 < S.length) : MergeAt S 1 [S[0]] := by
  refine .inr ⟨[], S[0], rfl, ?_⟩
  match S, h with
  | c :: r, _ => rfl
theorem merge_zero {S : List SpanZ} {k : Nat} (h : MergeAt S k []) : k = 0 := by
  rcases h with ⟨h, _⟩ | ⟨D, c, h, _⟩
  · exact h
  · simp at h
theorem merge_step {S O : List SpanZ} {k e : Nat} (h : MergeAt S k O) (hk : k < S.length) (he : O.length = e + 1) :
    (touchS (O[e]'(by omega)) S[k] = false → MergeAt S (k + 1) (O ++ [S[k]])) ∧ (touchS (O[e]'(by omega)) S[k] = true → aN (O[e]'(by omega)).hi < aN (S[k]).hi → MergeAt S (k + 1) (O.set e ⟨(O[e]'(by omega)).v, (O[e]'(by omega)).lo, (S[k]).hi⟩)) ∧
      (touchS (O[e]'(by omega)) S[k] = true → ¬ aN (O[e]'(by omega)).hi < aN (S[k]).hi → MergeAt S (k + 1) O) := by
  rcases h with ⟨_, rfl⟩ | ⟨D, c, rfl, hj⟩
  · simp at he
  have hD : D.length = e := by simpa using he
  subst hD
  have ec : (D ++ [c])[D.length]'(by simp) = c := by simp
  rw [List.drop_eq_getElem_cons hk] at hj
  unfold mergeS at hj
  simp only [ec]
  refine ⟨fun t => ?_, fun t w => ?_, fun t w => ?_⟩
  · rw [t, if_neg (by simp)] at hj
    exact .inr ⟨D ++ [c], S[k], rfl, by rw [← hj]; simp⟩
  · rw [t, if_pos rfl] at hj
    refine .inr ⟨D, wideS c S[k], ?_, hj⟩
    unfold wideS
    rw [if_pos w]
    simp
  · rw [t, if_pos rfl] at hj
    refine .inr ⟨D, c, rfl, ?_⟩
    unfold wideS at hj
    rwa [if_neg w] at hj
theorem merge_end {S O : List SpanZ} (h : MergeAt S S.length O) : O = joinAll S := by
  rcases h with ⟨h, rfl⟩ | ⟨D, c, rfl, hj⟩
  · have : S = [] := List.eq_nil_of_length_eq_zero h
    subst this
    rfl
  · rw [List.drop_of_length_le (Nat.le_refl _)] at hj
    exact hj
theorem join_sorted (L : List SpanZ) : joinAll (sortS [] L) = joinS L := by
  unfold joinS joinAll
  rfl

end Go.Proofs.Yteddeebhfnpchaa
