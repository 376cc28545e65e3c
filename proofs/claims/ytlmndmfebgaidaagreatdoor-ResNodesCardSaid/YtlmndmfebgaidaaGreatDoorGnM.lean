/-
  Merged texts: ReK, WrapF, ReV, AdO, SrU, AnO, ReB, ReW, Pk1.
-/
import Derived.Test.YtlmndmfebgaidaaGreatDoorGnL
import Derived.Test.YtlmndmfebgaidaaGreatDoorGnB
import Derived.Test.YtlmndmfebgaidaaGreatDoorRows
import Derived.ProofKit
import Derived.OpenShut
import Derived.ShutString
import Derived.LaidMore
import Derived.Lay
import Derived.Stop.Joined
import Derived.ChangeSame
import Derived.Test.YtlmndmfebgaidaaGreatDoorGnA
import Derived.WalkKit
import Derived.ChangeArms
import Derived.Deep.Strs
import Derived.Test.YtlmndmfebgaidaaGreatDoorGnF
import Derived.Lib.SmallJoins
import Derived.ChangeSlices
import Derived.Test.YtlmndmfebgaidaaGreatDoorGnG
import Derived.Test.YtlmndmfebgaidaaGreatDoorGnH
import Derived.Test.YtlmndmfebgaidaaGreatDoorGnK
namespace Go.Proofs.YtlmndmfebgaidaaGreatDoor
open Go.RowKit
set_option linter.unusedVariables false
set_option maxRecDepth 100000
def famTab : Array Value := #[.bool false, .int .i64 4, .bool true, .int .i64 16]
def Fam (w : World) : Prop := 1 ≤ w.heap.size ∧ ∃ t fr, w.heap[0]? = some (.cells famTab t fr)
theorem Fam.below {w w' : World} (h : Fam w) (hb : Below w.heap.size w w') : Fam w' := by
  obtain ⟨h1, t, fr, h2⟩ := h
  exact ⟨Nat.le_trans h1 hb.size, t, fr, (hb.block 0 h1).trans h2⟩
def PkRight13 : Prop := ∀ (r : ResZ) (v : Value) (W : World), ResAt W v r → r.sp.length ≤ 1000 → r.ns.length ≤ 1000 → Calls Tryz.prog 17 #[v] W fun e w' => e = .returned (.bool (rightR r)) ∧ Below W.heap.size W w'
def PkNode13 : Prop := ∀ (r : ResZ) (v : Value) (W : World), ResAt W v r → r.sp.length ≤ 1000 → r.ns.length ≤ 1000 → Fam W → Calls Tryz.prog 11 #[v] W (HasNodeE (nodeR r) W)
def RfNode13 : Prop := ∀ (r : ResZ) (v : Value) (W : World), ResAt W v r → r.sp.length ≤ 1000 → r.ns.length ≤ 1000 → Calls Tryz.prog 12 #[v] W (HasNodeE (nodeR r) W)
def RfRead13 : Prop := ∀ (t : T) (v : Value) (W : World), t.In W v → wt t < 30000 → dp t ≤ 61 → t.kids.length ≤ 50 → Calls Tryz.prog 15 #[v] W (GivesRes (readR t) W)
def PkRead13 : Prop := ∀ (t : T) (v : Value) (W : World), t.In W v → wt t < 30000 → dp t ≤ 61 → t.kids.length ≤ 50 → Fam W → Calls Tryz.prog 14 #[v] W (GivesRes (readR t) W)
def PkResolve13 : Prop := ∀ (x y : ResZ) (u v : Value) (W : World), ResAt W u x → ResAt W v y → x.sp.length ≤ 1000 ∧ x.ns.length ≤ 1000 → y.sp.length ≤ 1000 ∧ y.ns.length ≤ 1000 → Calls Tryz.prog 19 #[u, v] W (GivesRes (resolveR x y) W)
def PkUp13 : Prop := ∀ W : World, Fam W → Calls Tryz.prog 8 #[] W fun e w' => e = .returned (.bool true) ∧ Below W.heap.size W w'
theorem light_len {r : ResZ} (h : lightR r = true) : r.sp.length ≤ 30 ∧ r.ns.length ≤ 30 := by
  unfold lightR at h
  rw [Bool.and_eq_true, decide_eq_true_iff, decide_eq_true_iff] at h
  exact h
theorem load_res_any {ops : Array Oper} {rest : List Oper} {o : Oper} {a : Act} {w : World} {Q : Exit → Act → World → Prop} (hw : Region.wanted o (yielded ops a.tmps) = true) (x : Operand) (ho : o.op = .load 25 x) (g : Nat) (hx : a.eval x = .pointer (some ⟨g, 0, none⟩)) {b : Bool} {y z : Value} (hg : Blk w g 25 (resC b y z))
    (h : wpList Tryz.prog ops Q rest (a.put o.dst (.agg (resC b y z))) w) : wpList Tryz.prog ops Q (o :: rest) a w :=
  wpList_load_rowG hw 25 x ho g hx 25 (resC b y z) (0, 0) _ hg Tryz.underlying25 rfl (Tryz.sizeRes _ _ _) h
theorem allocRes_run {o : Oper} {a : Act} {w : World} (ho : o.op = .alloc 25) : (execOp a.eval o).run Tryz.prog w = .ok (.value (.pointer (some ⟨w.heap.size, 0, none⟩))) (w.alloc (.cells (resC false (.slice none 0 0) (.slice none 0 0)) 25)) := by
  unfold execOp
  simp only [ho]
  rfl
theorem allocRes_at {ops : Array Oper} {rest : List Oper} {a : Act} {w : World} {Q : Exit → Act → World → Prop} {dst : Option Tmp} {t' : TypeId} {pos : String} {aft : Array Edge}
    (h : wpList Tryz.prog ops Q rest (a.put dst (.pointer (some ⟨w.heap.size, 0, none⟩))) (w.alloc (.cells (resC false (.slice none 0 0) (.slice none 0 0)) 25))) :
    wpList Tryz.prog ops Q ({ dst := dst, op := .alloc 25, type := t', pos := pos, after := aft, guard := none } :: rest) a w :=
  Great.wpList_allocTo rfl dst rfl _ _ (allocRes_run rfl) h
theorem storeRes_new {ops : Array Oper} {rest : List Oper} {a : Act} {w : World} {Q : Exit → Act → World → Prop} {t' : TypeId} {pos : String} {aft : Array Edge} (k j : Nat) (w0 : World) (b : Bool) (a1 : Option Addr) (n1 c1 : Nat) (a2 : Option Addr) (n2 c2 : Nat) (hx : a.eval (.tmp k) = .pointer (some ⟨w0.heap.size, 0, none⟩)) (hy : a.eval (.tmp j) = .agg (resC b (.slice a1 n1 c1) (.slice a2 n2 c2))) (hw : w = w0.alloc (.cells (resC false (.slice none 0 0) (.slice none 0 0)) 25))
    (h : wpList Tryz.prog ops Q rest a (w0.alloc (.cells (resC b (.slice a1 n1 c1) (.slice a2 n2 c2)) 25))) :
    wpList Tryz.prog ops Q ({ dst := none, op := .store 25 (.tmp k) (.tmp j), type := t', pos := pos, after := aft, guard := none } :: rest) a w := by
  subst hw
  refine store_res_at k j w0.heap.size b a1 n1 c1 a2 n2 c2 _ _ _ hx hy (resbox w0 false (.slice none 0 0) (.slice none 0 0)) ?_
  rw [alloc_setRow]
  exact h
theorem range_below {w W : World} {g o : Nat} {cs : List Value} (h : w.rangeAt g o cs) (hb : Below w.heap.size w W) (hg : g < w.heap.size) : W.rangeAt g o cs := fun i v hv => (hb.cell (p := ⟨g, o + i, none⟩) hg).trans (h i v hv)
def nodeC (z : Int) (x y : Value) : Array Value := #[.int .i64 z, x, y]
def NodeAt (w : World) (v : Value) (t : T) : Prop := t.In w v
theorem NodeAt.below {w W : World} {v : Value} {t : T} (h : NodeAt w v t) (hb : Below w.heap.size w W) : NodeAt W v t := T.In.below hb t h
theorem nodebox (w : World) (z : Int) (x y : Value) : Blk (w.alloc (.cells (nodeC z x y) 29)) w.heap.size 29 (nodeC z x y) := Blk.new _ _ _
theorem Tryz.sizeNd (z : Int) (x y : Value) : (Tryz.prog.info? 29).map (·.size) = some (nodeC z x y).size := by kernel_rfl
theorem nodeC_one (z : Int) (a : Option Addr) (n c : Nat) (a' : Option Addr) (n' c' : Nat) : (nodeC z (.slice a n c) (.slice a' n' c')).all (·.oneCell') = true := by simp [nodeC, Value.oneCell']
theorem load_node_any {ops : Array Oper} {rest : List Oper} {o : Oper} {a : Act} {w : World} {Q : Exit → Act → World → Prop} (hw : Region.wanted o (yielded ops a.tmps) = true) (x : Operand) (ho : o.op = .load 29 x) (g : Nat) (hx : a.eval x = .pointer (some ⟨g, 0, none⟩)) {b : Int} {y z : Value} (hg : Blk w g 29 (nodeC b y z))
    (h : wpList Tryz.prog ops Q rest (a.put o.dst (.agg (nodeC b y z))) w) : wpList Tryz.prog ops Q (o :: rest) a w :=
  wpList_load_rowG hw 29 x ho g hx 29 (nodeC b y z) (0, 0) _ hg Tryz.underlying29 rfl (Tryz.sizeNd _ _ _) h
theorem allocNode_run {o : Oper} {a : Act} {w : World} (ho : o.op = .alloc 29) : (execOp a.eval o).run Tryz.prog w = .ok (.value (.pointer (some ⟨w.heap.size, 0, none⟩))) (w.alloc (.cells (nodeC 0 (.slice none 0 0) (.slice none 0 0)) 29)) := by
  unfold execOp
  simp only [ho]
  rfl
theorem allocNode_at {ops : Array Oper} {rest : List Oper} {a : Act} {w : World} {Q : Exit → Act → World → Prop} {dst : Option Tmp} {t' : TypeId} {pos : String} {aft : Array Edge}
    (h : wpList Tryz.prog ops Q rest (a.put dst (.pointer (some ⟨w.heap.size, 0, none⟩))) (w.alloc (.cells (nodeC 0 (.slice none 0 0) (.slice none 0 0)) 29))) :
    wpList Tryz.prog ops Q ({ dst := dst, op := .alloc 29, type := t', pos := pos, after := aft, guard := none } :: rest) a w :=
  Great.wpList_allocTo rfl dst rfl _ _ (allocNode_run rfl) h
theorem storeNode_new {ops : Array Oper} {rest : List Oper} {a : Act} {w : World} {Q : Exit → Act → World → Prop} {t' : TypeId} {pos : String} {aft : Array Edge} (k j : Nat) (w0 : World) (b : Int) (a1 : Option Addr) (n1 c1 : Nat) (a2 : Option Addr) (n2 c2 : Nat) (hx : a.eval (.tmp k) = .pointer (some ⟨w0.heap.size, 0, none⟩)) (hy : a.eval (.tmp j) = .agg (nodeC b (.slice a1 n1 c1) (.slice a2 n2 c2))) (hw : w = w0.alloc (.cells (nodeC 0 (.slice none 0 0) (.slice none 0 0)) 29))
    (h : wpList Tryz.prog ops Q rest a (w0.alloc (.cells (nodeC b (.slice a1 n1 c1) (.slice a2 n2 c2)) 29))) :
    wpList Tryz.prog ops Q ({ dst := none, op := .store 29 (.tmp k) (.tmp j), type := t', pos := pos, after := aft, guard := none } :: rest) a w := by
  subst hw
  refine wpList_store_rowTo rfl 29 (.tmp k) (.tmp j) rfl rfl w0.heap.size _ hx hy 29 _ (nodebox w0 0 (.slice none 0 0) (.slice none 0 0)) (Tryz.sizeNd _ _ _) rfl (nodeC_one _ _ _ _ _ _ _) ?_
  rw [alloc_setRow]
  exact h
theorem wtAll_app : ∀ (a b : List T), wtAll (a ++ b) = wtAll a + wtAll b
  | [], b => by rw [List.nil_append, wtAll]; omega
  | x :: r, b => by rw [List.cons_append, wtAll, wtAll, wtAll_app r b]; omega
theorem wt_addr (v : Bool) {A : List Int} (hA : Sixteen A) : wt (addrT v A) ≤ 17 := by
  unfold addrT
  rw [wt, wtAll]
  have : (A.take (famW v)).length ≤ 16 := by rw [List.length_take, hA.1]; omega
  omega
theorem wt_fam (v : Bool) : ∀ {l : List SpanZ}, SpansZ l → wtAll (famT v l) ≤ 34 * l.length
  | [], _ => by unfold famT; simp [wtAll]
  | s :: r, h => by
    have ih := wt_fam v (l := r) (fun x hx => h x (by simp [hx]))
    have hs := h s (by simp)
    unfold famT at ih ⊢
    rw [List.filter_cons]
    split
    · rw [List.flatMap_cons, wtAll_app]
      have h1 := wt_addr s.v hs.1
      have h2 := wt_addr s.v hs.2
      have e : wtAll (spanT s) = wt (addrT s.v s.lo) + (wt (addrT s.v s.hi) + 0) := by unfold spanT; rw [wtAll, wtAll, wtAll]
      rw [e, List.length_cons]
      omega
    · rw [List.length_cons]
      omega
theorem wt_int (n : Int) : wt (intT n) ≤ 10 := by
  unfold intT bigT
  rw [wt, wtAll]
  have h1 : (leastZ n).length ≤ 8 := by
    unfold leastZ
    rw [beZ_length]
    exact leastM_le n
  have h2 := bare_le (leastZ n)
  have h3 : (bigZ (leastZ n)).length ≤ 9 := by
    unfold bigZ
    split
    · rw [List.length_cons]; omega
    · omega
  omega
theorem wt_ranges : ∀ (l : List (Nat × Nat)), wtAll (l.flatMap rangeT) ≤ 20 * l.length
  | [] => by simp [wtAll]
  | p :: r => by
    have ih := wt_ranges r
    have h1 := wt_int (p.1 : Int)
    have h2 := wt_int (p.2 : Int)
    have e : wtAll (rangeT p) = wt (intT (p.1 : Int)) + (wt (intT (p.2 : Int)) + 0) := by unfold rangeT; rw [wtAll, wtAll, wtAll]
    rw [List.flatMap_cons, wtAll_app, e, List.length_cons]
    omega
theorem dp_leaf {t : T} (h : t.kids = []) : dp t = 1 := by
  rw [dp_eq, h, dpAll]
  rfl
theorem dpAll_leaves {l : List T} (h : ∀ t ∈ l, t.kids = []) : dpAll l ≤ 1 := dpAll_le (by omega) (fun t ht => by rw [dp_leaf (h t ht)]; omega)
theorem fam_leaves (v : Bool) (l : List SpanZ) : ∀ t ∈ famT v l, t.kids = [] := fun t ht => by
  unfold famT at ht
  obtain ⟨s, _, h⟩ := List.mem_flatMap.1 ht
  unfold spanT at h
  rcases List.mem_cons.1 h with rfl | h
  · rfl
  · rw [List.mem_singleton.1 h]
    rfl
theorem range_leaves (l : List (Nat × Nat)) : ∀ t ∈ l.flatMap rangeT, t.kids = [] := fun t ht => by
  obtain ⟨s, _, h⟩ := List.mem_flatMap.1 ht
  unfold rangeT at h
  rcases List.mem_cons.1 h with rfl | h
  · rfl
  · rw [List.mem_singleton.1 h]
    rfl
theorem node_small {r : ResZ} (hr : ResOk r) (hl : r.sp.length ≤ 30 ∧ r.ns.length ≤ 30) : wt (nodeR r).1 < 30000 ∧ dp (nodeR r).1 ≤ 61 ∧ (nodeR r).1.kids.length ≤ 50 := by
  unfold nodeR
  split
  · simp only
    cases hi : r.inh with
    | true =>
      unfold resT
      rw [if_pos hi]
      exact ⟨by decide, by decide, by decide⟩
    | false =>
      rw [resT_own hi]
      have h1 := wt_fam false hr.1
      have h2 := wt_fam true hr.1
      have h3 := wt_ranges r.ns
      refine ⟨?_, ?_, by simp [T.kids]⟩
      · simp only [wt, wtAll, List.length_nil]
        omega
      · have d1 := dpAll_leaves (fam_leaves false r.sp)
        have d2 := dpAll_leaves (fam_leaves true r.sp)
        have d3 := dpAll_leaves (range_leaves r.ns)
        rw [dp_eq]
        have := dpAll_le (ks := (T.node 48 [] [.node 48 [] (famT false r.sp), .node 48 [] (famT true r.sp), .node 48 [] (r.ns.flatMap rangeT)]).kids) (b := 2) (by omega) (fun t ht => by
          simp only [T.kids, List.mem_cons, List.mem_nil_iff, or_false] at ht
          rcases ht with rfl | rfl | rfl
          · rw [dp_eq]; simp only [T.kids]; omega
          · rw [dp_eq]; simp only [T.kids]; omega
          · rw [dp_eq]; simp only [T.kids]; omega)
        omega
  · exact ⟨by decide, by decide, by decide⟩
theorem read_len (t : T) : (readR t).1.sp.length ≤ 400 ∧ (readR t).1.ns.length ≤ 400 := by
  rcases read_ways t with ⟨_, h⟩ | h
  · exact right_len ((node_ok _).1 (by rw [h]))
  · rw [h]
    exact ⟨Nat.zero_le _, Nat.zero_le _⟩
end Go.Proofs.YtlmndmfebgaidaaGreatDoor
namespace Go.Proofs.YtlmndmfebgaidaaGreatDoor
open Go.ChangeShapes Go.WideShapes Go.ChangeAt Go.RowKit
theorem own : ownKnob Tryz.prog.godebug = none := by kernel_rfl
theorem laidOut : laidOutB Tryz.prog = true := by kernel_rfl
def laids : List (String × DataW Unit) := [("unicode/utf8.acceptRanges", Rows.laid_unicode_utf8_acceptRanges), ("lanyard/res.families", Rows.laid_lanyard_res_families), ("unicode/utf8.first", Rows.laid_unicode_utf8_first)]
theorem Tryz.cellsFam : Tryz.prog.cellsOf 58 = 2 := by kernel_rfl
theorem Tryz.cellsBool : Tryz.prog.cellsOf 4 = 1 := by kernel_rfl
theorem Tryz.cellsInt : Tryz.prog.cellsOf 3 = 1 := by kernel_rfl
set_option maxRecDepth 100000 in
theorem fam_of_trod {W : World} {v : Bool} {n : Int} {fuel : Nat} {cs : List Value} {p : List MemPlace} (h : DataW.trod (fun _ => ()) Tryz.prog W 0 (fun _ => true) false fuel 58 cs = some (.agg [.lit (.bool v), .lit (.int .i64 n)], p)) : cs = [.bool v, .int .i64 n] := by
  obtain ⟨xs, m, _, ex, hl, hlen, hf⟩ := DataW.trod_struct Tryz.underlying58 h
  rw [Tryz.cellsFam] at hl
  match cs, hl with
  | [a, b], _ =>
    match xs, hlen with
    | [y0, y1], _ =>
      have h0 : DataW.trod (fun _ => ()) Tryz.prog W 0 (fun _ => true) false m 4 (([a, b].drop 0).take (Tryz.prog.cellsOf 4)) = some y0 := hf 0 _ rfl
      have h1 : DataW.trod (fun _ => ()) Tryz.prog W 0 (fun _ => true) false m 3 (([a, b].drop 1).take (Tryz.prog.cellsOf 3)) = some y1 := hf 1 _ rfl
      simp only [List.drop_zero, List.drop_succ_cons] at h0 h1
      rw [Tryz.cellsBool] at h0
      rw [Tryz.cellsInt] at h1
      obtain ⟨b0, e1, e2⟩ := DataW.trod_bool Tryz.underlying4 h0
      obtain ⟨z, f1, f2, _⟩ := DataW.trod_int Tryz.underlying3 h1
      have ex' := (Prod.mk.inj ex).1
      simp only [List.map_cons, List.map_nil, DataW.agg.injEq, List.cons.injEq, and_true] at ex'
      simp only [List.take_succ_cons, List.take_zero, List.cons.injEq, and_true] at e1 f1
      rw [e2, f2] at ex'
      simp only [DataW.lit.injEq, Lit.bool.injEq, Lit.int.injEq, true_and] at ex'
      rw [e1, f1, ex'.1, ex'.2]
set_option maxRecDepth 100000 in
theorem fams_of_laid {W : World} {cs : Array Value} {fuel : Nat} {p : List MemPlace}
    (h : DataW.trod (fun _ => ()) Tryz.prog W 0 (fun _ => true) false fuel 59 cs.toList = some (.agg [.agg [.lit (.bool false), .lit (.int .i64 4)], .agg [.lit (.bool true), .lit (.int .i64 16)]], p)) : cs = famTab := by
  obtain ⟨xs, m, _, ex, hlen, hl, hel⟩ := DataW.trod_array Tryz.underlying59 h
  match xs, hl with
  | [y0, y1], _ =>
    have h0 := hel 0 (by decide)
    have h1 := hel 1 (by decide)
    rw [Tryz.cellsFam] at h0 h1
    have ex' := (Prod.mk.inj ex).1
    simp only [List.map_cons, List.map_nil, DataW.agg.injEq, List.cons.injEq, and_true] at ex'
    simp only [List.getElem?_cons_zero, List.getElem?_cons_succ] at h0 h1
    obtain ⟨d0, q0⟩ := y0
    obtain ⟨d1, q1⟩ := y1
    simp only at ex'
    rw [← ex'.1] at h0
    rw [← ex'.2] at h1
    have e0 := fam_of_trod h0
    have e1 := fam_of_trod h1
    rw [show Tryz.prog.cellsOf 59 = 4 by kernel_rfl] at hlen
    obtain ⟨l⟩ := cs
    match l, hlen with
    | [a, b, c, d], _ =>
      simp only [Nat.zero_mul, List.drop_zero, List.take_succ_cons, List.take_zero, List.cons.injEq, and_true, Nat.one_mul, List.drop_succ_cons] at e0 e1
      obtain ⟨rfl, rfl⟩ := e0
      obtain ⟨rfl, rfl⟩ := e1
      rfl
theorem var_block {W : World} {n : String} {g : Nat} {cs : Array Value} (hg : Tryz.prog.globalNamed n = some g) (h : W.var? Tryz.prog n = some cs) : ∃ t fr, W.heap[g]? = some (.cells cs t fr) := by
  simp only [World.var?, hg, Option.bind_some] at h
  split at h
  · rename_i c t fr hc
    injection h with h
    subst h
    exact ⟨t, fr, hc⟩
  · cases h
theorem fam_of {W : World} (h : laidMetH Tryz.prog laids W) : Fam W := by
  rw [MakeChecks.laidMetH_plain _ _ _ (by kernel_rfl)] at h
  obtain ⟨ps, ⟨_, _, _, _, _, _, _, _, _, _, ⟨g1, t1, cs1, fuel1, p1, q1, hg1, ht1, hv1, hd1, _⟩, _⟩, _, _⟩ := h
  obtain rfl := Option.some.inj ((show Tryz.prog.globalNamed "lanyard/res.families" = some 0 by kernel_rfl).symm.trans hg1)
  obtain rfl := Option.some.inj ((show (Tryz.prog.globals[0]?).map (·.type) = some 59 by kernel_rfl).symm.trans ht1)
  have e1 := fams_of_laid hd1
  obtain ⟨t0, f0, b0⟩ := var_block (by kernel_rfl) hv1
  have hlt : 0 < W.heap.size := (Array.getElem?_eq_some_iff.1 b0).1
  refine ⟨hlt, t0, f0, ?_⟩
  rw [b0, e1]
section
variable {H : Type} {enc : TypeId × Value → H}
set_option maxRecDepth 100000 in
theorem wrapped {f : FuncId} {fn : Func} {s : ChangeSpec} {conds : List PathCond} {os : Os} (started : os.Started) (noInit : Tryz.prog.inits.idxOf? f = none) (hfn : Tryz.prog.funcs[f]? = some fn)
    (witness : ∃ (w : World) (tape : Tape) (i : Input), w.os = os ∧ (w.forCall tape i).Shaped Tryz.prog ∧ i.vars = [] ∧ Input.okWide Tryz.prog (w.forCall tape i) .any w.heap.size f i ∧
      ((s.pre enc Tryz.prog fn conds false (w.forCall tape i).memory i.args ∧ laidMetH Tryz.prog laids (w.forCall tape i).memory) ∧ sizedMet enc Tryz.prog fn (OpenSpec.ofChange s) false (w.forCall tape i).memory i.args) ∧ ({} : Assume).holds Tryz.prog (lone (Frame.enter Tryz.prog f i.args .normal) [] (w.forCall tape i)))
    (contract : ∀ (W : World) (base : Nat) (args : Array Value) (ds gs : List (DataW H)) (before : List MemPlace),
      (∀ (j : Nat) t v, fn.params[j]? = some t → args[j]? = some v → Value.okWide Tryz.prog W .any base t v) →
      DataW.Whole enc Tryz.prog fn.params.toList s.vars false W args.toList ds gs before →
      Fam W →
      Calls Tryz.prog f args W fun e W' => ∃ v, e = .returned v ∧ s.post enc Tryz.prog fn false true false false W args v W') :
    ReturnsInHanded {} Tryz.checked os f .any (fun w args => (s.pre enc Tryz.prog fn conds false w args ∧ laidMetH Tryz.prog laids w) ∧ sizedMet enc Tryz.prog fn (OpenSpec.ofChange s) false w args) (s.post enc Tryz.prog fn false true false false) := by
  refine returnsInHanded_of_calls (C := Tryz.checked) own started noInit witness ?_
  intro w tape i _ hsh _ hok hpre _
  obtain ⟨_, _, _, fn', hfn', _, _, _, _, hval⟩ := hok
  obtain rfl : fn' = fn := Option.some.inj (hfn'.symm.trans hfn)
  obtain ⟨⟨⟨ds, gs, before, hw, _⟩, hl⟩, _⟩ := hpre
  have ht := fam_of hl
  refine (contract (w.forCall tape i) w.heap.size i.args ds gs before hval (DataW.Whole.of_heap (w' := w.forCall tape i) (by rfl) hw) (show Fam (w.forCall tape i) from ht)).mono fun e W' ⟨v, he, hp⟩ => ?_
  subst he
  exact ChangeSpec.post_blind hp
end
end Go.Proofs.YtlmndmfebgaidaaGreatDoor
namespace Go.Proofs.YtlmndmfebgaidaaGreatDoor
open Go.RowKit
set_option linter.unusedVariables false
set_option maxRecDepth 100000
set_option maxHeartbeats 8000000 in
theorem nodes13_any (hUp : PkUp13) (hNode : PkNode13) (hRead : PkRead13) (hRight : PkRight13) (rNode : RfNode13) (rRead : RfRead13) (x : ResZ) (t : T) (u v : Value) (w : World) (hf : Fam w) (hx : ResAt w u x) (ht : t.In w v) :
    Calls Tryz.prog 3 #[u, v] w fun e w' => e = .returned (.bool true) ∧ Below w.heap.size w w' := by
  have hx0 := hx
  have ok := hx.ok
  have ht0 : NodeAt w v t := ht
  obtain ⟨ax, nx, cx, ox, mx, dx, rfl, sx, rx⟩ := hx
  obtain ⟨jt, nt, ct, ot, mt, dt, rfl, hz1, hz2, hz3, hz4, hmt, hmt2, hz5⟩ := ht.open
  clear hz1 hz2 hz3 hz4 hz5
  change NodeAt w (.agg (nodeC t.tag (.slice jt nt ct) (.slice ot mt dt))) t at ht0
  change Calls Tryz.prog 3 #[.agg (resC x.inh (.slice ax nx cx) (.slice ox mx dx)), .agg (nodeC t.tag (.slice jt nt ct) (.slice ot mt dt))] w _
  unfold maxLen at hmt2
  have K0 := (Blk.alloc (Blk.new w 25 (resC x.inh (.slice ax nx cx) (.slice ox mx dx))) (.cells (nodeC t.tag (.slice jt nt ct) (.slice ot mt dt)) 29))
  have K1 := (Blk.new (w.alloc (.cells (resC x.inh (.slice ax nx cx) (.slice ox mx dx)) 25)) 29 (nodeC t.tag (.slice jt nt ct) (.slice ot mt dt)))
  rw [show (w.alloc (.cells (resC x.inh (.slice ax nx cx) (.slice ox mx dx)) 25)).heap.size = w.heap.size + 1 by simp] at K1
  have bw := (Below.step (boxR_below w (.cells (resC x.inh (.slice ax nx cx) (.slice ox mx dx)) 25)) (boxR_below (w.alloc (.cells (resC x.inh (.slice ax nx cx) (.slice ox mx dx)) 25)) (.cells (nodeC t.tag (.slice jt nt ct) (.slice ot mt dt)) 29)))
  have BW := Lib.hid bw
  have AX := Lib.hid (hx0.below bw)
  have AT := Lib.hid (ht0.below bw)
  have CU := Lib.hid (fun W (hb : Below w.heap.size w W) => hUp W (hf.below hb))
  have LX := Lib.hid (fun W h => rlight13_any x (.agg (resC x.inh (.slice ax nx cx) (.slice ox mx dx))) W h)
  have LT := Lib.hid (fun W (h : NodeAt W (.agg (nodeC t.tag (.slice jt nt ct) (.slice ot mt dt))) t) => light_any t (.agg (nodeC t.tag (.slice jt nt ct) (.slice ot mt dt))) W h)
  have CN := Lib.hid (fun (hl : lightR x = true) W h (hb : Below w.heap.size w W) => hNode x (.agg (resC x.inh (.slice ax nx cx) (.slice ox mx dx))) W h (by have := light_len hl; omega) (by have := light_len hl; omega) (hf.below hb))
  have RN := Lib.hid (fun (hl : lightR x = true) W h => rNode x (.agg (resC x.inh (.slice ax nx cx) (.slice ox mx dx))) W h (by have := light_len hl; omega) (by have := light_len hl; omega))
  have SN := Lib.hid (fun W u v (h : NodeAt W u (nodeR x).1) (k : NodeAt W v (nodeR x).1) => same_any (nodeR x).1 (nodeR x).1 u v W h k)
  have DM := Lib.hid (fun (hl : lightT t = true) (hk : mt ≤ 50) W (h : NodeAt W (.agg (nodeC t.tag (.slice jt nt ct) (.slice ot mt dt))) t) (hb : Below w.heap.size w W) => hRead t (.agg (nodeC t.tag (.slice jt nt ct) (.slice ot mt dt))) W h (light_wt hl).1 (light_wt hl).2 (by omega) (hf.below hb))
  have RM := Lib.hid (fun (hl : lightT t = true) (hk : mt ≤ 50) W (h : NodeAt W (.agg (nodeC t.tag (.slice jt nt ct) (.slice ot mt dt))) t) => rRead t (.agg (nodeC t.tag (.slice jt nt ct) (.slice ot mt dt))) W h (light_wt hl).1 (light_wt hl).2 (by omega))
  have CS := Lib.hid (fun W u v h k => rsame13_any (readR t).1 (readR t).1 u v W h k (by have := read_len t; omega) (by have := read_len t; omega) (by have := read_len t; omega))
  have CR := Lib.hid (fun (hl : lightR x = true) W h => hRight x (.agg (resC x.inh (.slice ax nx cx) (.slice ox mx dx))) W h (by have := light_len hl; omega) (by have := light_len hl; omega))
  have RR := Lib.hid (fun (hl : lightR x = true) W h => rright13_any x (.agg (resC x.inh (.slice ax nx cx) (.slice ox mx dx))) W h (by have := light_len hl; omega) (by have := light_len hl; omega))
  generalize hw2 : ((w.alloc (.cells (resC x.inh (.slice ax nx cx) (.slice ox mx dx)) 25)).alloc (.cells (nodeC t.tag (.slice jt nt ct) (.slice ot mt dt)) 29)) = w2 at *
  obtain ⟨g, hg⟩ : ∃ g, w.heap.size = g := ⟨_, rfl⟩
  rw [hg] at K0 K1
  generalize lightR x = lx at *
  generalize lightT t = lt at *
  rw [same_refl] at SN
  rw [eqRes_self] at CS
  clear hx0 ht0 ht sx rx bw hmt hmt2 hUp hNode hRead hRight rNode rRead ok hf
  generalize nodeR x = q1 at *
  generalize readR t = q3 at *
  generalize rightR x = r1 at *
  have BX := Lib.hid K0
  have BT := Lib.hid K1
  clear K0 K1
  go_enter Tryz.func3, Tryz.ntmps3
  go_upto_region 1 with fail
  clear hw2
  cases lx with
  | false =>
    go_wp2_with (first
      | (refine load_res_any (by rfl) (.tmp 2) rfl g rfl BX.out ?_)
      | (refine load_node_any (by rfl) (.tmp 3) rfl (g + 1) rfl BT.out ?_)
      | (go_at_call 8
         refine (CU.out _ BW.out).mono ?_
         rintro r v1 ⟨rfl, hb1⟩
         replace BW := Lib.hid (Below.step BW.out hb1)
         replace BX := Lib.hid (BX.out.below hb1 BX.out.lt)
         replace BT := Lib.hid (BT.out.below hb1 BT.out.lt)
         replace AX := Lib.hid (AX.out.below hb1)
         replace AT := Lib.hid (AT.out.below hb1)
         clear CU
         clear hb1)
      | (go_at_call 9
         refine (LX.out _ AX.out).mono ?_
         rintro r v2 ⟨rfl, hb2⟩
         replace BW := Lib.hid (Below.step BW.out hb2)
         replace BX := Lib.hid (BX.out.below hb2 BX.out.lt)
         replace BT := Lib.hid (BT.out.below hb2 BT.out.lt)
         replace AX := Lib.hid (AX.out.below hb2)
         replace AT := Lib.hid (AT.out.below hb2)
         clear LX
         clear hb2)
      | (go_at_call 10
         refine (LT.out _ AT.out).mono ?_
         rintro r v3 ⟨rfl, hb3⟩
         replace BW := Lib.hid (Below.step BW.out hb3)
         replace BX := Lib.hid (BX.out.below hb3 BX.out.lt)
         replace BT := Lib.hid (BT.out.below hb3 BT.out.lt)
         replace AX := Lib.hid (AX.out.below hb3)
         replace AT := Lib.hid (AT.out.below hb3)
         have y2 : v3.cell? ⟨g + 1, 2, none⟩ = some (.slice ot mt dt) := Blk.cell BT.out 2
         clear LT
         clear hb3))
    go_ret
    exact ⟨rfl, BW.out⟩
  | true =>
    cases lt with
    | false =>
      go_wp2_with (first
        | (refine load_res_any (by rfl) (.tmp 2) rfl g rfl BX.out ?_)
        | (refine load_node_any (by rfl) (.tmp 3) rfl (g + 1) rfl BT.out ?_)
        | (go_at_call 8
           refine (CU.out _ BW.out).mono ?_
           rintro r v1 ⟨rfl, hb1⟩
           replace BW := Lib.hid (Below.step BW.out hb1)
           replace BX := Lib.hid (BX.out.below hb1 BX.out.lt)
           replace BT := Lib.hid (BT.out.below hb1 BT.out.lt)
           replace AX := Lib.hid (AX.out.below hb1)
           replace AT := Lib.hid (AT.out.below hb1)
           clear CU
           clear hb1)
        | (go_at_call 9
           refine (LX.out _ AX.out).mono ?_
           rintro r v2 ⟨rfl, hb2⟩
           replace BW := Lib.hid (Below.step BW.out hb2)
           replace BX := Lib.hid (BX.out.below hb2 BX.out.lt)
           replace BT := Lib.hid (BT.out.below hb2 BT.out.lt)
           replace AX := Lib.hid (AX.out.below hb2)
           replace AT := Lib.hid (AT.out.below hb2)
           clear LX
           clear hb2)
        | (go_at_call 10
           refine (LT.out _ AT.out).mono ?_
           rintro r v3 ⟨rfl, hb3⟩
           replace BW := Lib.hid (Below.step BW.out hb3)
           replace BX := Lib.hid (BX.out.below hb3 BX.out.lt)
           replace BT := Lib.hid (BT.out.below hb3 BT.out.lt)
           replace AX := Lib.hid (AX.out.below hb3)
           replace AT := Lib.hid (AT.out.below hb3)
           have y2 : v3.cell? ⟨g + 1, 2, none⟩ = some (.slice ot mt dt) := Blk.cell BT.out 2
           clear LT
           clear hb3))
      go_ret
      exact ⟨rfl, BW.out⟩
    | true =>
      by_cases hk : 50 < mt
      · have tk : decide ((50 : Int) < (mt : Int)) = true := decide_eq_true (by omega)
        have tk2 : decide (50 < mt) = true := decide_eq_true hk
        go_wp2_with (first
          | (refine load_res_any (by rfl) (.tmp 2) rfl g rfl BX.out ?_)
          | (refine load_node_any (by rfl) (.tmp 3) rfl (g + 1) rfl BT.out ?_)
          | (go_at_call 8
             refine (CU.out _ BW.out).mono ?_
             rintro r v1 ⟨rfl, hb1⟩
             replace BW := Lib.hid (Below.step BW.out hb1)
             replace BX := Lib.hid (BX.out.below hb1 BX.out.lt)
             replace BT := Lib.hid (BT.out.below hb1 BT.out.lt)
             replace AX := Lib.hid (AX.out.below hb1)
             replace AT := Lib.hid (AT.out.below hb1)
             clear CU
             clear hb1)
          | (go_at_call 9
             refine (LX.out _ AX.out).mono ?_
             rintro r v2 ⟨rfl, hb2⟩
             replace BW := Lib.hid (Below.step BW.out hb2)
             replace BX := Lib.hid (BX.out.below hb2 BX.out.lt)
             replace BT := Lib.hid (BT.out.below hb2 BT.out.lt)
             replace AX := Lib.hid (AX.out.below hb2)
             replace AT := Lib.hid (AT.out.below hb2)
             clear LX
             clear hb2)
          | (go_at_call 10
             refine (LT.out _ AT.out).mono ?_
             rintro r v3 ⟨rfl, hb3⟩
             replace BW := Lib.hid (Below.step BW.out hb3)
             replace BX := Lib.hid (BX.out.below hb3 BX.out.lt)
             replace BT := Lib.hid (BT.out.below hb3 BT.out.lt)
             replace AX := Lib.hid (AX.out.below hb3)
             replace AT := Lib.hid (AT.out.below hb3)
             have y2 : v3.cell? ⟨g + 1, 2, none⟩ = some (.slice ot mt dt) := Blk.cell BT.out 2
             clear LT
             clear hb3))
        go_ret
        exact ⟨rfl, BW.out⟩
      · have tk : decide ((50 : Int) < (mt : Int)) = false := decide_eq_false (by omega)
        have tk2 : decide (50 < mt) = false := decide_eq_false hk
        replace CN := Lib.hid (CN.out rfl)
        replace RN := Lib.hid (RN.out rfl)
        replace CR := Lib.hid (CR.out rfl)
        replace RR := Lib.hid (RR.out rfl)
        replace DM := Lib.hid (DM.out rfl (by omega))
        replace RM := Lib.hid (RM.out rfl (by omega))
        clear hk
        go_upto_region 12 with (first
          | (refine load_res_any (by rfl) (.tmp 2) rfl g rfl BX.out ?_)
          | (refine load_node_any (by rfl) (.tmp 3) rfl (g + 1) rfl BT.out ?_)
          | (go_at_call 8
             refine (CU.out _ BW.out).mono ?_
             rintro r v1 ⟨rfl, hb1⟩
             replace BW := Lib.hid (Below.step BW.out hb1)
             replace BX := Lib.hid (BX.out.below hb1 BX.out.lt)
             replace BT := Lib.hid (BT.out.below hb1 BT.out.lt)
             replace AX := Lib.hid (AX.out.below hb1)
             replace AT := Lib.hid (AT.out.below hb1)
             clear CU
             clear hb1)
          | (go_at_call 9
             refine (LX.out _ AX.out).mono ?_
             rintro r v2 ⟨rfl, hb2⟩
             replace BW := Lib.hid (Below.step BW.out hb2)
             replace BX := Lib.hid (BX.out.below hb2 BX.out.lt)
             replace BT := Lib.hid (BT.out.below hb2 BT.out.lt)
             replace AX := Lib.hid (AX.out.below hb2)
             replace AT := Lib.hid (AT.out.below hb2)
             clear LX
             clear hb2)
          | (go_at_call 10
             refine (LT.out _ AT.out).mono ?_
             rintro r v3 ⟨rfl, hb3⟩
             replace BW := Lib.hid (Below.step BW.out hb3)
             replace BX := Lib.hid (BX.out.below hb3 BX.out.lt)
             replace BT := Lib.hid (BT.out.below hb3 BT.out.lt)
             replace AX := Lib.hid (AX.out.below hb3)
             replace AT := Lib.hid (AT.out.below hb3)
             have y2 : v3.cell? ⟨g + 1, 2, none⟩ = some (.slice ot mt dt) := Blk.cell BT.out 2
             clear LT
             clear hb3)
          | (go_at_call 11
             refine (CN.out _ AX.out BW.out).mono ?_
             rintro r v4 ⟨p4, m4, c4, o4, k4, d4, rfl, hat4, hb4⟩
             replace BW := Lib.hid (Below.step BW.out hb4)
             replace BX := Lib.hid (BX.out.below hb4 BX.out.lt)
             replace BT := Lib.hid (BT.out.below hb4 BT.out.lt)
             replace AX := Lib.hid (AX.out.below hb4)
             replace AT := Lib.hid (AT.out.below hb4)
             have Am : Hid (NodeAt v4 (.agg (nodeC q1.1.tag (.slice p4 m4 c4) (.slice o4 k4 d4))) q1.1) := Lib.hid hat4
             clear hb4 hat4 CN)
          | (with_reducible refine allocNode_at ?_)
          | ((with_reducible refine storeNode_new 8 39 v4 q1.1.tag p4 m4 c4 o4 k4 d4 ?_ ?_ ?_ ?_); (· rfl); (· rfl); (· rfl)
             have hb4a := boxR_below v4 (.cells (nodeC q1.1.tag (.slice p4 m4 c4) (.slice o4 k4 d4)) 29)
             replace BW := Lib.hid (Below.step BW.out hb4a)
             replace BX := Lib.hid (BX.out.below hb4a BX.out.lt)
             replace BT := Lib.hid (BT.out.below hb4a BT.out.lt)
             replace AX := Lib.hid (AX.out.below hb4a)
             replace AT := Lib.hid (AT.out.below hb4a)
             replace Am := Lib.hid (Am.out.below hb4a)
             have Bm := Lib.hid (nodebox v4 q1.1.tag (.slice p4 m4 c4) (.slice o4 k4 d4))
             clear hb4a
             generalize v4.alloc (.cells (nodeC q1.1.tag (.slice p4 m4 c4) (.slice o4 k4 d4)) 29) = v4b at *
             generalize v4.heap.size = gm at *)
          | (go_at_call 12
             refine (RN.out _ AX.out).mono ?_
             rintro r v5 ⟨p5, m5, c5, o5, k5, d5, rfl, hat5, hb5⟩
             replace BW := Lib.hid (Below.step BW.out hb5)
             replace BX := Lib.hid (BX.out.below hb5 BX.out.lt)
             replace BT := Lib.hid (BT.out.below hb5 BT.out.lt)
             replace Bm := Lib.hid (Bm.out.below hb5 Bm.out.lt)
             replace AX := Lib.hid (AX.out.below hb5)
             replace AT := Lib.hid (AT.out.below hb5)
             replace Am := Lib.hid (Am.out.below hb5)
             have Aq : Hid (NodeAt v5 (.agg (nodeC q1.1.tag (.slice p5 m5 c5) (.slice o5 k5 d5))) q1.1) := Lib.hid hat5
             clear hb5 hat5 RN)
          | (with_reducible refine allocNode_at ?_)
          | ((with_reducible refine storeNode_new 10 44 v5 q1.1.tag p5 m5 c5 o5 k5 d5 ?_ ?_ ?_ ?_); (· rfl); (· rfl); (· rfl)
             have hb5a := boxR_below v5 (.cells (nodeC q1.1.tag (.slice p5 m5 c5) (.slice o5 k5 d5)) 29)
             replace BW := Lib.hid (Below.step BW.out hb5a)
             replace BX := Lib.hid (BX.out.below hb5a BX.out.lt)
             replace BT := Lib.hid (BT.out.below hb5a BT.out.lt)
             replace Bm := Lib.hid (Bm.out.below hb5a Bm.out.lt)
             replace AX := Lib.hid (AX.out.below hb5a)
             replace AT := Lib.hid (AT.out.below hb5a)
             replace Am := Lib.hid (Am.out.below hb5a)
             replace Aq := Lib.hid (Aq.out.below hb5a)
             have Bq := Lib.hid (nodebox v5 q1.1.tag (.slice p5 m5 c5) (.slice o5 k5 d5))
             clear hb5a
             generalize v5.alloc (.cells (nodeC q1.1.tag (.slice p5 m5 c5) (.slice o5 k5 d5)) 29) = v5b at *
             generalize v5.heap.size = gq at *)
          | (refine load_node_any (by rfl) (.tmp 8) rfl gm rfl Bm.out ?_)
          | (refine load_node_any (by rfl) (.tmp 10) rfl gq rfl Bq.out ?_)
          | (go_at_call 13
             refine (SN.out _ _ _ Am.out Aq.out).mono ?_
             rintro r v6 ⟨rfl, hb6⟩
             replace BW := Lib.hid (Below.step BW.out hb6)
             replace BX := Lib.hid (BX.out.below hb6 BX.out.lt)
             replace BT := Lib.hid (BT.out.below hb6 BT.out.lt)
             replace Bm := Lib.hid (Bm.out.below hb6 Bm.out.lt)
             replace Bq := Lib.hid (Bq.out.below hb6 Bq.out.lt)
             replace AX := Lib.hid (AX.out.below hb6)
             replace AT := Lib.hid (AT.out.below hb6)
             replace Am := Lib.hid (Am.out.below hb6)
             replace Aq := Lib.hid (Aq.out.below hb6)
             clear SN
             clear hb6)
          | (go_at_call 14
             refine (DM.out _ AT.out BW.out).mono ?_
             rintro r v7 ⟨u7, rfl, hat7, hb7⟩
             replace BW := Lib.hid (Below.step BW.out hb7)
             replace BX := Lib.hid (BX.out.below hb7 BX.out.lt)
             replace BT := Lib.hid (BT.out.below hb7 BT.out.lt)
             replace Bm := Lib.hid (Bm.out.below hb7 Bm.out.lt)
             replace Bq := Lib.hid (Bq.out.below hb7 Bq.out.lt)
             replace AX := Lib.hid (AX.out.below hb7)
             replace AT := Lib.hid (AT.out.below hb7)
             replace Am := Lib.hid (Am.out.below hb7)
             replace Aq := Lib.hid (Aq.out.below hb7)
             have As := Lib.hid hat7
             obtain ⟨p7, m7, c7, o7, k7, d7, rfl, _, _⟩ := hat7
             clear hb7 DM)
          | (with_reducible refine allocRes_at ?_)
          | ((with_reducible refine storeRes_new 13 52 v7 q3.1.inh p7 m7 c7 o7 k7 d7 ?_ ?_ ?_ ?_); (· rfl); (· rfl); (· rfl)
             have hb7a := boxR_below v7 (.cells (resC q3.1.inh (.slice p7 m7 c7) (.slice o7 k7 d7)) 25)
             replace BW := Lib.hid (Below.step BW.out hb7a)
             replace BX := Lib.hid (BX.out.below hb7a BX.out.lt)
             replace BT := Lib.hid (BT.out.below hb7a BT.out.lt)
             replace Bm := Lib.hid (Bm.out.below hb7a Bm.out.lt)
             replace Bq := Lib.hid (Bq.out.below hb7a Bq.out.lt)
             replace AX := Lib.hid (AX.out.below hb7a)
             replace AT := Lib.hid (AT.out.below hb7a)
             replace Am := Lib.hid (Am.out.below hb7a)
             replace Aq := Lib.hid (Aq.out.below hb7a)
             replace As := Lib.hid (As.out.below hb7a)
             have Bs := Lib.hid (resbox v7 q3.1.inh (.slice p7 m7 c7) (.slice o7 k7 d7))
             clear hb7a
             generalize v7.alloc (.cells (resC q3.1.inh (.slice p7 m7 c7) (.slice o7 k7 d7)) 25) = v7b at *
             generalize v7.heap.size = gs at *)
          | (go_at_call 15
             refine (RM.out _ AT.out).mono ?_
             rintro r v8 ⟨u8, rfl, hat8, hb8⟩
             replace BW := Lib.hid (Below.step BW.out hb8)
             replace BX := Lib.hid (BX.out.below hb8 BX.out.lt)
             replace BT := Lib.hid (BT.out.below hb8 BT.out.lt)
             replace Bm := Lib.hid (Bm.out.below hb8 Bm.out.lt)
             replace Bq := Lib.hid (Bq.out.below hb8 Bq.out.lt)
             replace Bs := Lib.hid (Bs.out.below hb8 Bs.out.lt)
             replace AX := Lib.hid (AX.out.below hb8)
             replace AT := Lib.hid (AT.out.below hb8)
             replace Am := Lib.hid (Am.out.below hb8)
             replace Aq := Lib.hid (Aq.out.below hb8)
             replace As := Lib.hid (As.out.below hb8)
             have Ay := Lib.hid hat8
             obtain ⟨p8, m8, c8, o8, k8, d8, rfl, _, _⟩ := hat8
             clear hb8 RM)
          | (with_reducible refine allocRes_at ?_)
          | ((with_reducible refine storeRes_new 15 57 v8 q3.1.inh p8 m8 c8 o8 k8 d8 ?_ ?_ ?_ ?_); (· rfl); (· rfl); (· rfl)
             have hb8a := boxR_below v8 (.cells (resC q3.1.inh (.slice p8 m8 c8) (.slice o8 k8 d8)) 25)
             replace BW := Lib.hid (Below.step BW.out hb8a)
             replace BX := Lib.hid (BX.out.below hb8a BX.out.lt)
             replace BT := Lib.hid (BT.out.below hb8a BT.out.lt)
             replace Bm := Lib.hid (Bm.out.below hb8a Bm.out.lt)
             replace Bq := Lib.hid (Bq.out.below hb8a Bq.out.lt)
             replace Bs := Lib.hid (Bs.out.below hb8a Bs.out.lt)
             replace AX := Lib.hid (AX.out.below hb8a)
             replace AT := Lib.hid (AT.out.below hb8a)
             replace Am := Lib.hid (Am.out.below hb8a)
             replace Aq := Lib.hid (Aq.out.below hb8a)
             replace As := Lib.hid (As.out.below hb8a)
             replace Ay := Lib.hid (Ay.out.below hb8a)
             have By := Lib.hid (resbox v8 q3.1.inh (.slice p8 m8 c8) (.slice o8 k8 d8))
             clear hb8a
             generalize v8.alloc (.cells (resC q3.1.inh (.slice p8 m8 c8) (.slice o8 k8 d8)) 25) = v8b at *
             generalize v8.heap.size = gy at *)
          | (refine load_res_any (by rfl) (.tmp 13) rfl gs rfl Bs.out ?_)
          | (refine load_res_any (by rfl) (.tmp 15) rfl gy rfl By.out ?_)
          | (go_at_call 16
             refine (CS.out _ _ _ As.out Ay.out).mono ?_
             rintro r v9 ⟨rfl, hb9⟩
             replace BW := Lib.hid (Below.step BW.out hb9)
             replace BX := Lib.hid (BX.out.below hb9 BX.out.lt)
             replace BT := Lib.hid (BT.out.below hb9 BT.out.lt)
             replace Bm := Lib.hid (Bm.out.below hb9 Bm.out.lt)
             replace Bq := Lib.hid (Bq.out.below hb9 Bq.out.lt)
             replace Bs := Lib.hid (Bs.out.below hb9 Bs.out.lt)
             replace By := Lib.hid (By.out.below hb9 By.out.lt)
             replace AX := Lib.hid (AX.out.below hb9)
             replace AT := Lib.hid (AT.out.below hb9)
             replace Am := Lib.hid (Am.out.below hb9)
             replace Aq := Lib.hid (Aq.out.below hb9)
             replace As := Lib.hid (As.out.below hb9)
             replace Ay := Lib.hid (Ay.out.below hb9)
             clear CS
             clear hb9))
        refine wp_region_ord Ext Ext.refl (fun _ _ _ => Ext.trans) ((0, false) :: (1, false) :: (2, false) :: (3, false) :: (4, false) :: (5, false) :: (6, false) :: (7, false) :: (8, false) :: (9, false) :: (10, false) :: (11, false) :: (12, false) :: (13, false) :: (14, false) :: (15, false) :: (16, false) :: (17, false) :: (18, false) :: (20, false) :: (19, true) :: (21, true) :: (22, false) :: (23, false) :: (24, false) :: []) (by kernel_rfl) (by kernel_rfl) rfl (by kernel_rfl) (fun _ _ _ _ _ h => h) ?_
        replace BW : Hid (Below w.heap.size w v9.drew) := Lib.hid (Below.step BW.out (drewN_below _ 1))
        replace BX := Lib.hid (BX.out.below (drewN_below _ 1) BX.out.lt)
        replace BT := Lib.hid (BT.out.below (drewN_below _ 1) BT.out.lt)
        replace Bm := Lib.hid (Bm.out.below (drewN_below _ 1) Bm.out.lt)
        replace Bq := Lib.hid (Bq.out.below (drewN_below _ 1) Bq.out.lt)
        replace Bs := Lib.hid (Bs.out.below (drewN_below _ 1) Bs.out.lt)
        replace By := Lib.hid (By.out.below (drewN_below _ 1) By.out.lt)
        replace AX := Lib.hid (AX.out.below (drewN_below _ 1))
        replace AT := Lib.hid (AT.out.below (drewN_below _ 1))
        replace Am := Lib.hid (Am.out.below (drewN_below _ 1))
        replace Aq := Lib.hid (Aq.out.below (drewN_below _ 1))
        replace As := Lib.hid (As.out.below (drewN_below _ 1))
        replace Ay := Lib.hid (Ay.out.below (drewN_below _ 1))
        change wpOrd _ _ _ _ _ _ (v9.drewN 1)
        change Hid (Below w.heap.size w (v9.drewN 1)) at BW
        generalize v9.drewN 1 = wd at *
        repeat (first
          | (refine ord_skip rfl (by rfl) ?_; simp only [Act.put, List.setIfInBounds_toArray, List.set_cons_zero, List.set_cons_succ])
          | (refine ord_take _ rfl (by rfl) (fun W hW => yields_row 25 (.tmp 2) rfl g 25 _ _ rfl (BX.out.below hW BX.out.lt) Tryz.underlying25 rfl (Tryz.sizeRes _ _ _)) ?_; simp only [Act.put, List.setIfInBounds_toArray, List.set_cons_zero, List.set_cons_succ])
          | (refine ord_take _ rfl (by rfl) (fun W hW => by go_simp; first | done | rfl) ?_; simp only [Act.put, List.setIfInBounds_toArray, List.set_cons_zero, List.set_cons_succ])
          | (refine ord_sole rfl (by rfl) (fun K1 hK1 => ?_)
             go_simp
             refine (CR.out _ AX.out).mono ?_
             rintro e v10 ⟨rfl, hb10⟩
             refine hK1 _ _ hb10 ?_
             replace BW := Lib.hid (Below.step BW.out hb10)
             replace BX := Lib.hid (BX.out.below hb10 BX.out.lt)
             replace BT := Lib.hid (BT.out.below hb10 BT.out.lt)
             replace Bm := Lib.hid (Bm.out.below hb10 Bm.out.lt)
             replace Bq := Lib.hid (Bq.out.below hb10 Bq.out.lt)
             replace Bs := Lib.hid (Bs.out.below hb10 Bs.out.lt)
             replace By := Lib.hid (By.out.below hb10 By.out.lt)
             replace AX := Lib.hid (AX.out.below hb10)
             replace AT := Lib.hid (AT.out.below hb10)
             replace Am := Lib.hid (Am.out.below hb10)
             replace Aq := Lib.hid (Aq.out.below hb10)
             replace As := Lib.hid (As.out.below hb10)
             replace Ay := Lib.hid (Ay.out.below hb10)
             clear CR
             clear hK1 K1 hb10
             try simp only [Act.put, List.setIfInBounds_toArray, List.set_cons_zero, List.set_cons_succ])
          | (refine ord_sole rfl (by rfl) (fun K1 hK1 => ?_)
             go_simp
             refine (RR.out _ AX.out).mono ?_
             rintro e v11 ⟨rfl, hb11⟩
             refine hK1 _ _ hb11 ?_
             replace BW := Lib.hid (Below.step BW.out hb11)
             replace BX := Lib.hid (BX.out.below hb11 BX.out.lt)
             replace BT := Lib.hid (BT.out.below hb11 BT.out.lt)
             replace Bm := Lib.hid (Bm.out.below hb11 Bm.out.lt)
             replace Bq := Lib.hid (Bq.out.below hb11 Bq.out.lt)
             replace Bs := Lib.hid (Bs.out.below hb11 Bs.out.lt)
             replace By := Lib.hid (By.out.below hb11 By.out.lt)
             replace AX := Lib.hid (AX.out.below hb11)
             replace AT := Lib.hid (AT.out.below hb11)
             replace Am := Lib.hid (Am.out.below hb11)
             replace Aq := Lib.hid (Aq.out.below hb11)
             replace As := Lib.hid (As.out.below hb11)
             replace Ay := Lib.hid (Ay.out.below hb11)
             clear RR
             clear hK1 K1 hb11
             try simp only [Act.put, List.setIfInBounds_toArray, List.set_cons_zero, List.set_cons_succ]))
        refine ord_end ?_
        go_wp2_with fail
        go_ret
        exact ⟨by simp, BW.out⟩
end Go.Proofs.YtlmndmfebgaidaaGreatDoor
namespace Go.Proofs.YtlmndmfebgaidaaGreatDoor
open Go.ChangeShapes Go.WideShapes Go.ChangeAt Go.RowKit Go.Deep
set_option linter.unusedVariables false
theorem mapM_eachA {α β : Type} {f : α → Option β} : ∀ (L : List α) (ys : List β), L.mapM f = some ys → ∀ a ∈ L, ∃ y, f a = some y
  | [], _, _, a, ha => by simp at ha
  | b :: L, ys, h, a, ha => by
    rw [List.mapM_cons] at h
    simp only [bind, Option.bind_eq_some_iff, pure, Option.some.injEq] at h
    obtain ⟨y, hy, zs, hz, _⟩ := h
    rcases List.mem_cons.1 ha with rfl | ha
    · exact ⟨y, hy⟩
    · exact mapM_eachA L zs hz a ha
theorem array_eachA {H : Type} {enc : TypeId × Value → H} {P : Program} {W : World} {base : Nat} {sp : Nat → Bool} {held : Bool} {t e : TypeId} {n : Nat} (ht : P.underlying t = some (.array n e)) (hce : P.cellsOf e = 1)
    {fuel : Nat} {cs : List Value} {x : DataW H × List MemPlace} (h : DataW.trod enc P W base sp held fuel t cs = some x) : ∀ i, i < n → ∃ k y, DataW.trod enc P W base sp held k e ((cs.drop i).take 1) = some y := by
  intro i hi
  cases fuel with
  | zero => simp [DataW.trod] at h
  | succ k =>
    unfold DataW.trod at h
    rw [ht] at h
    simp only at h
    split at h
    · simp only [Option.map_eq_some_iff] at h
      obtain ⟨ys, hy, _⟩ := h
      obtain ⟨y, hy⟩ := mapM_eachA _ ys hy i (by simpa using hi)
      rw [hce, Nat.mul_one] at hy
      exact ⟨k, y, hy⟩
    · cases h
theorem one_atL {cs : List Value} {i : Nat} {a : Value} (h : (cs.drop i).take 1 = [a]) : cs[i]? = some a := by
  have : ((cs.drop i).take 1)[0]? = some a := by rw [h]; rfl
  rw [List.getElem?_take, if_pos (by omega), List.getElem?_drop, Nat.add_zero] at this
  exact this
section
variable {H : Type} {enc : TypeId × Value → H} {W : World} {base b0 : Nat} {held : Bool} {r : Reach} {v : Value} {d : DataW H} {ps : List MemPlace}
end
end Go.Proofs.YtlmndmfebgaidaaGreatDoor
namespace Go.Proofs.YtlmndmfebgaidaaGreatDoor
open Go.ChangeShapes Go.WideShapes Go.ChangeAt Go.RowKit Go.Deep
set_option linter.unusedVariables false
section
variable {H : Type} {enc : TypeId × Value → H}
theorem read_six {cs : List Value} {q : Nat} {P : Program} {W : World} {base : Nat} {sp : Nat → Bool} {held : Bool} {t e : TypeId} {fuel : Nat} {x : DataW H × List MemPlace} (ht : P.underlying t = some (.array 16 e)) (he : P.underlying e = some (.int .u8)) (hce : P.cellsOf e = 1)
    (h : DataW.trod enc P W base sp held fuel t ((cs.drop q).take 16) = some x) : ∃ A : List Int, Sixteen A ∧ ∀ i, i < 16 → cs[q + i]? = (acells A)[i]? := by
  have E := array_eachA ht hce h
  have F : ∀ i, ∃ x : Int, i < 16 → cs[q + i]? = some (.int .u8 x) ∧ 0 ≤ x ∧ x ≤ 255 := fun i => by
    by_cases hi : i < 16
    · obtain ⟨k0, z0, t0⟩ := E i hi
      obtain ⟨x, hx, _, wx⟩ := DataW.trod_int he t0
      have := bounds_u8 wx
      have e := one_atL hx
      rw [List.getElem?_take, if_pos hi, List.getElem?_drop] at e
      exact ⟨x, fun _ => ⟨e, by omega⟩⟩
    · exact ⟨0, fun h => absurd h hi⟩
  obtain ⟨f, hf'⟩ := Classical.axiomOfChoice F
  refine ⟨(List.range 16).map f, ⟨by simp, fun x hx => ?_⟩, fun i hi => ?_⟩
  · obtain ⟨i, hi, rfl⟩ := List.mem_map.1 hx
    exact (hf' i (by simpa using hi)).2
  · rw [(hf' i hi).1]
    simp [acells, hi]
set_option maxRecDepth 100000 in
theorem span_cells {w : World} {base : Nat} {held : Bool} {fuel : Nat} {cs : List Value} {x : DataW H × List MemPlace} (hf : DataW.trod enc Tryz.prog w base (fun _ => true) held fuel 62 cs = some x) : ∃ s, SixS s ∧ ∀ i, i < 33 → cs[i]? = (scL s)[i]? := by
  obtain ⟨y0, y1, y2, n, _, hl, h0, h1, h2⟩ := trod_struct3 Tryz.underlying62 hf
  rw [show Tryz.prog.cellsOf 4 = 1 by kernel_rfl] at h0
  rw [show Tryz.prog.cellsOf 41 = 16 by kernel_rfl] at h1 h2
  obtain ⟨u, e0, _⟩ := DataW.trod_bool Tryz.underlying4 h0
  obtain ⟨A, hA, eA⟩ := read_six (cs := cs) (q := 1) Tryz.underlying41 Tryz.underlying5 (by kernel_rfl) h1
  obtain ⟨B, hB, eB⟩ := read_six (cs := cs) (q := 17) Tryz.underlying41 Tryz.underlying5 (by kernel_rfl) h2
  refine ⟨⟨u, A, B⟩, ⟨hA, hB⟩, fun i hi => ?_⟩
  have g0 : cs[0]? = some (.bool u) := one_atL e0
  rcases (show i = 0 ∨ (1 ≤ i ∧ i < 17) ∨ 17 ≤ i by omega) with rfl | ⟨i1, i2⟩ | i3
  · rw [g0]
    rfl
  · obtain ⟨j, rfl⟩ : ∃ j, i = 1 + j := ⟨i - 1, by omega⟩
    rw [eA j (by omega), Nat.add_comm 1 j]
    show _ = (Value.bool u :: (acells A ++ acells B))[j + 1]?
    rw [List.getElem?_cons_succ, List.getElem?_append_left (by rw [acells_len hA.1]; omega)]
  · obtain ⟨j, rfl⟩ : ∃ j, i = 17 + j := ⟨i - 17, by omega⟩
    rw [eB j (by omega), show 17 + j = (16 + j) + 1 by omega]
    show _ = (Value.bool u :: (acells A ++ acells B))[16 + j + 1]?
    rw [List.getElem?_cons_succ, List.getElem?_append_right (by rw [acells_len hA.1]; omega), acells_len hA.1, show 16 + j - 16 = j by omega]
theorem open_spans {w : World} {held : Bool} {K : Option Addr} {k d : Nat} {x : DataW H} {p : List MemPlace} (h : DataW.Trod enc Tryz.prog w 0 (fun _ => true) held 22 (.slice K k d) x p) :
    ∃ L : List SpanZ, SpArg w K k d L := by
  obtain ⟨fuel, hf⟩ := h
  rcases DataW.trod_slice Tryz.underlying22 hf with ⟨hcs, _⟩ | ⟨a, len, cap, elems, rest, n', hn', hcs, _, _, hl, hm, hlen, hel, _, _⟩
  · simp [Value.cells] at hcs
    obtain ⟨rfl, rfl, rfl⟩ := hcs
    exact ⟨[], SpRow.nil _ _, fun _ => ⟨rfl, rfl⟩⟩
  · simp [Value.cells] at hcs
    obtain ⟨rfl, rfl, rfl⟩ := hcs
    rw [show Tryz.prog.cellsOf 62 = 33 by kernel_rfl] at hel
    have E : ∀ i, ∃ s, i < k → SixS s ∧ ∀ j, j < 33 → w.cell? ((a.add (i * 33)).add j) = (scL s)[j]? := fun i => by
      by_cases hi : i < k
      · have he := hel i hi
        rw [List.getElem?_eq_getElem (by omega)] at he
        obtain ⟨ci, hci, hti⟩ := Option.bind_eq_some_iff.1 he
        obtain ⟨s, hs, hc⟩ := span_cells hti
        obtain ⟨hci2, _, hcc⟩ := World.cells?_some hci
        refine ⟨s, fun _ => ⟨hs, fun j hj => ?_⟩⟩
        rw [← hc j hj]
        have := hcc j (by omega)
        simpa using this
      · exact ⟨zeroS, fun h => absurd h hi⟩
    obtain ⟨f, hf'⟩ := Classical.axiomOfChoice E
    have six : SixL ((List.range k).map f) := fun s hs => by
      obtain ⟨i, hi, rfl⟩ := List.mem_map.1 hs
      exact (hf' i (by simpa using hi)).1
    refine ⟨(List.range k).map f, ⟨by simp, six, fun hpos => ?_⟩, fun h => (by cases h)⟩
    obtain ⟨b, off, spot⟩ := a
    have hc0 := (hf' 0 hpos).2 0 (by omega)
    have hc1 : w.cell? (((⟨b, off, spot⟩ : Addr).add (0 * 33)).add 0) = some (.bool (f 0).v) := hc0
    have hspot : spot = none := by simpa [Addr.add] using World.cell?_spot hc1
    subst hspot
    refine ⟨b, off, rfl, by have := cell_block hc1; simpa [Addr.add] using this, fun i hi => ?_⟩
    have hq : i / 33 < k := Nat.div_lt_of_lt_mul (by omega)
    have hr : i % 33 < 33 := Nat.mod_lt _ (by omega)
    have g := (hf' (i / 33) hq).2 (i % 33) hr
    rw [Addr.add_lit, Addr.add_lit] at g
    have e : off + i / 33 * 33 + i % 33 = off + i := by have := Nat.div_add_mod i 33; omega
    rw [e] at g
    rw [g]
    have fa := flatS_at six (i / 33) (i % 33) (by simpa using hq) hr
    rw [show i / 33 * 33 + i % 33 = i by have := Nat.div_add_mod i 33; omega] at fa
    rw [fa]
    simp
end
end Go.Proofs.YtlmndmfebgaidaaGreatDoor
namespace Go.Proofs.YtlmndmfebgaidaaGreatDoor
open Go.ChangeShapes Go.WideShapes Go.ChangeAt Go.RowKit Go.Deep
set_option linter.unusedVariables false
theorem u32_nat {a : Int} (h : (Lit.int .u32 a).wf = true) : ∃ q : Nat, a = (q : Int) ∧ q < 4294967296 := by
  have := bounds_u32 h
  exact ⟨a.toNat, by omega, by omega⟩
theorem one_atR {cs : List Value} {i : Nat} {a : Value} (h : (cs.drop i).take 1 = [a]) : cs[i]? = some a := by
  have : ((cs.drop i).take 1)[0]? = some a := by rw [h]; rfl
  rw [List.getElem?_take, if_pos (by omega), List.getElem?_drop, Nat.add_zero] at this
  exact this
section
variable {H : Type} {enc : TypeId × Value → H}
theorem range_cells {w : World} {base : Nat} {held : Bool} {fuel : Nat} {cs : List Value} {x : DataW H × List MemPlace} (hf : DataW.trod enc Tryz.prog w base (fun _ => true) held fuel 54 cs = some x) : ∃ s, OkR s ∧ ∀ i, i < 2 → cs[i]? = (rcL s)[i]? := by
  obtain ⟨y0, y1, n, _, hl, h0, h1⟩ := trod_struct2 Tryz.underlying54 hf
  rw [show Tryz.prog.cellsOf 52 = 1 by kernel_rfl] at h0 h1
  obtain ⟨u, e0, _, w0⟩ := DataW.trod_int Tryz.underlying52 h0
  obtain ⟨v, e1, _, w1⟩ := DataW.trod_int Tryz.underlying52 h1
  have g0 := one_atR e0
  have g1 := one_atR e1
  obtain ⟨p, rfl, hp⟩ := u32_nat w0
  obtain ⟨q, rfl, hq⟩ := u32_nat w1
  refine ⟨(p, q), ⟨hp, hq⟩, fun i hi => ?_⟩
  rcases (show i = 0 ∨ i = 1 by omega) with rfl | rfl
  · exact g0
  · exact g1
theorem open_ranges {w : World} {held : Bool} {K : Option Addr} {k d : Nat} {x : DataW H} {p : List MemPlace} (h : DataW.Trod enc Tryz.prog w 0 (fun _ => true) held 23 (.slice K k d) x p) :
    ∃ L : List (Nat × Nat), RgArg w K k d L := by
  obtain ⟨fuel, hf⟩ := h
  rcases DataW.trod_slice Tryz.underlying23 hf with ⟨hcs, _⟩ | ⟨a, len, cap, elems, rest, n', hn', hcs, _, _, hl, hm, hlen, hel, _, _⟩
  · simp [Value.cells] at hcs
    obtain ⟨rfl, rfl, rfl⟩ := hcs
    exact ⟨[], RgRow.nil _ _, fun _ => ⟨rfl, rfl⟩⟩
  · simp [Value.cells] at hcs
    obtain ⟨rfl, rfl, rfl⟩ := hcs
    rw [show Tryz.prog.cellsOf 54 = 2 by kernel_rfl] at hel
    have E : ∀ i, ∃ s, i < k → OkR s ∧ ∀ j, j < 2 → w.cell? ((a.add (i * 2)).add j) = (rcL s)[j]? := fun i => by
      by_cases hi : i < k
      · have he := hel i hi
        rw [List.getElem?_eq_getElem (by omega)] at he
        obtain ⟨ci, hci, hti⟩ := Option.bind_eq_some_iff.1 he
        obtain ⟨s, hs, hc⟩ := range_cells hti
        obtain ⟨hci2, _, hcc⟩ := World.cells?_some hci
        refine ⟨s, fun _ => ⟨hs, fun j hj => ?_⟩⟩
        rw [← hc j hj]
        have := hcc j (by omega)
        simpa using this
      · exact ⟨(0, 0), fun h => absurd h hi⟩
    obtain ⟨f, hf'⟩ := Classical.axiomOfChoice E
    have ok : OkL ((List.range k).map f) := fun s hs => by
      obtain ⟨i, hi, rfl⟩ := List.mem_map.1 hs
      exact (hf' i (by simpa using hi)).1
    refine ⟨(List.range k).map f, ⟨by simp, ok, fun hpos => ?_⟩, fun h => (by cases h)⟩
    obtain ⟨b, off, spot⟩ := a
    have hc0 := (hf' 0 hpos).2 0 (by omega)
    have hc1 : w.cell? (((⟨b, off, spot⟩ : Addr).add (0 * 2)).add 0) = some (.int .u32 ((f 0).1 : Int)) := hc0
    have hspot : spot = none := by simpa [Addr.add] using World.cell?_spot hc1
    subst hspot
    refine ⟨b, off, rfl, by have := cell_block hc1; simpa [Addr.add] using this, fun i hi => ?_⟩
    have hq : i / 2 < k := Nat.div_lt_of_lt_mul (by omega)
    have hr : i % 2 < 2 := Nat.mod_lt _ (by omega)
    have g := (hf' (i / 2) hq).2 (i % 2) hr
    rw [Addr.add_lit, Addr.add_lit] at g
    have e : off + i / 2 * 2 + i % 2 = off + i := by have := Nat.div_add_mod i 2; omega
    rw [e] at g
    rw [g]
    have fa := flatR_at ok (i / 2) (i % 2) (by simpa using hq) hr
    rw [show i / 2 * 2 + i % 2 = i by have := Nat.div_add_mod i 2; omega] at fa
    rw [fa]
    simp
end
end Go.Proofs.YtlmndmfebgaidaaGreatDoor
namespace Go.Proofs.YtlmndmfebgaidaaGreatDoor
open Go.ChangeShapes Go.WideShapes Go.ChangeAt Go.RowKit Go.Deep
set_option linter.unusedVariables false
set_option maxRecDepth 100000
section
variable {H : Type} {enc : TypeId × Value → H} {w : World} {held : Bool}
theorem cells_res : Tryz.prog.cellsOf 25 = 3 := by kernel_rfl
theorem res_cells {fuel : Nat} {cs : List Value} {x : DataW H × List MemPlace} (h : DataW.trod enc Tryz.prog w 0 (fun _ => true) held fuel 25 cs = some x) :
    ∃ (r : ResZ) (a : Option Addr) (n c : Nat) (b : Option Addr) (m d : Nat), cs = [.bool r.inh, .slice a n c, .slice b m d] ∧ SpArg w a n c r.sp ∧ RgArg w b m d r.ns := by
  obtain ⟨k, v0, v1, v2, y0, y1, y2, hfu, rfl, h0, h1, h2⟩ := trod_three Tryz.underlying25 (by kernel_rfl) cells_res h
  obtain ⟨u, e0, _⟩ := DataW.trod_bool Tryz.underlying4 h0
  injection e0 with e0 _
  subst e0
  obtain ⟨a, n, c, rfl⟩ : ∃ a n c, v1 = .slice a n c := by
    rcases DataW.trod_slice Tryz.underlying22 h1 with ⟨hcs, _⟩ | ⟨a, len, cap, elems, rest, n', hn', hcs, _⟩
    · injection hcs with e _
      exact ⟨_, _, _, e⟩
    · injection hcs with e _
      exact ⟨_, _, _, e⟩
  obtain ⟨b, m, d, rfl⟩ : ∃ b m d, v2 = .slice b m d := by
    rcases DataW.trod_slice Tryz.underlying23 h2 with ⟨hcs, _⟩ | ⟨a, len, cap, elems, rest, n', hn', hcs, _⟩
    · injection hcs with e _
      exact ⟨_, _, _, e⟩
    · injection hcs with e _
      exact ⟨_, _, _, e⟩
  obtain ⟨L, hL⟩ := open_spans (enc := enc) (w := w) (held := held) (K := a) (k := n) (d := c) (x := y1.1) (p := y1.2) ⟨k, by simpa [Value.cells] using h1⟩
  obtain ⟨M, hM⟩ := open_ranges (enc := enc) (w := w) (held := held) (K := b) (k := m) (d := d) (x := y2.1) (p := y2.2) ⟨k, by simpa [Value.cells] using h2⟩
  exact ⟨⟨u, L, M⟩, a, n, c, b, m, d, rfl, hL, hM⟩
theorem open_res {r : Reach} {b0 : Nat} {v : Value} {d : DataW H} {p : List MemPlace} (hv : Value.okWide Tryz.prog w r b0 25 v) (h : DataW.Trod enc Tryz.prog w 0 (fun _ => true) held 25 v d p) : ∃ r : ResZ, ResAt w v r := by
  obtain ⟨cs, rfl, _⟩ := okWide_struct Tryz.underlying25 hv
  obtain ⟨fuel, hf⟩ := h
  obtain ⟨r, a, n, c, b, m, d, e, h1, h2⟩ := res_cells hf
  refine ⟨r, a, n, c, b, m, d, ?_, h1, h2⟩
  obtain ⟨l⟩ := cs
  have hl : l = [.bool r.inh, .slice a n c, .slice b m d] := e
  rw [hl]
  rfl
end
end Go.Proofs.YtlmndmfebgaidaaGreatDoor
namespace Go.Proofs.YtlmndmfebgaidaaGreatDoor
open Go.RowKit
set_option linter.unusedVariables false
set_option maxRecDepth 100000
def loT : List Int := [10, 0, 0, 0, 0, 0, 0, 0, 0, 0, 0, 0, 0, 0, 0, 0]
def hiT : List Int := [10, 255, 255, 255, 0, 0, 0, 0, 0, 0, 0, 0, 0, 0, 0, 0]
def spT : SpanZ := ⟨false, loT, hiT⟩
def tenR : ResZ := ⟨false, [spT], [(1, 9)]⟩
def twoR : ResZ := ⟨false, [], [(2, 3)]⟩
theorem spT_six : SixS spT := ⟨⟨rfl, by decide⟩, ⟨rfl, by decide⟩⟩
theorem ten_ok : ResOk tenR := ⟨fun s hs => by rw [List.mem_singleton.1 hs]; exact spT_six, fun p hp => by rw [List.mem_singleton.1 hp]; exact ⟨by decide, by decide⟩⟩
theorem two_ok : ResOk twoR := ⟨fun s hs => (by cases hs), fun p hp => by rw [List.mem_singleton.1 hp]; exact ⟨by decide, by decide⟩⟩
theorem spT_right : SpanOk spT := ⟨spT_six.1, spT_six.2, by kernel_rfl⟩
theorem ten_right : rightR tenR = true := by
  unfold rightR tenR
  rw [if_neg (by decide), if_neg (by decide), Bool.and_eq_true]
  refine ⟨eqLS_is.2 ?_, by kernel_rfl⟩
  refine (join_unique (l := [spT]) (fun s hs => by rw [List.mem_singleton.1 hs]; exact spT_six) (fun s hs => by rw [List.mem_singleton.1 hs]; exact spT_right) ?_ (fun x => Iff.rfl)).symm
  rw [onL_one spT_right]
  exact ⟨ok_line spT_right, fun q hq => (by cases hq), trivial⟩
theorem two_right : rightR twoR = true := by
  unfold rightR twoR
  rw [if_neg (by decide), if_neg (by decide), Bool.and_eq_true]
  exact ⟨eqLS_is.2 rfl, by kernel_rfl⟩
theorem ten_node : nodeR tenR = (resT tenR, 0) := by unfold nodeR; rw [if_pos ten_right]
theorem ten_read : readR (resT tenR) = (tenR, 0) := read_back ten_ok ten_right
theorem two_of_ten : resolveR twoR tenR = (twoR, 0) := by
  unfold resolveR
  rw [if_pos ⟨two_right, ten_right, rfl⟩, if_neg (by decide), if_pos ⟨in_none ten_ok.1, inN_is.2 (fun x hx => by
    obtain ⟨p, hp, h1, h2⟩ := hx
    rw [List.mem_singleton.1 hp] at h1 h2
    exact ⟨(1, 9), List.mem_singleton.2 rfl, by simp only at h1 h2 ⊢; omega, by simp only at h1 h2 ⊢; omega⟩)⟩]
theorem ten_of_two : resolveR tenR twoR = (zeroRes, 9) := by
  have h : inS tenR.sp twoR.sp = false := by
    rw [Bool.eq_false_iff]
    intro h
    have w := (inS_is ten_ok.1 two_ok.1).1 h
    have e : onL tenR.sp = [lineS spT] := onL_one spT_right
    rw [e] at w
    exact absurd (w _ (inZ_one.2 ⟨Nat.le_refl _, ok_line spT_right⟩)) inZ_nil
  unfold resolveR
  rw [if_pos ⟨ten_right, two_right, rfl⟩, if_neg (by decide), if_neg (by rw [h]; rintro ⟨h, _⟩; cases h)]
theorem built_loT : Tryz.prog.built 41 [(0, .int .u8 10)] = some (acells loT).toArray := by kernel_rfl
theorem built_hiT : Tryz.prog.built 41 [(0, .int .u8 10), (1, .int .u8 255), (2, .int .u8 255), (3, .int .u8 255)] = some (acells hiT).toArray := by kernel_rfl
theorem built_spT : Tryz.prog.built 62 [(1, .agg (acells loT).toArray), (2, .agg (acells hiT).toArray)] = some (scells spT) := by kernel_rfl
theorem slice_span1_at {ops : Array Oper} {rest : List Oper} {a : Act} {w : World} {Q : Exit → Act → World → Prop} {dst : Option Tmp} {t' : TypeId} {pos : String} {aft : Array Edge} (k : Nat) (s : SpanZ) (hs : SixS s) (hx : a.eval (.tmp k) = .agg (scells s))
    (h : wpList Tryz.prog ops Q rest (a.put dst (.slice (some ⟨w.heap.size, 0, none⟩) 1 1)) (w.alloc (.cells (scells s) 62))) :
    wpList Tryz.prog ops Q ({ dst := dst, op := .buildSlice 22 1 #[(0, .tmp k)], type := t', pos := pos, after := aft, guard := none } :: rest) a w := by
  refine Great.wpList_buildSliceTo rfl 22 62 1 _ rfl w.heap.size rfl dst rfl Tryz.underlying22 (scells s) ?_ h
  simp only [List.map_toArray, List.map_cons, List.map_nil, hx]
  exact built_one s hs
def HasRes (r : ResZ) (w : World) (e : Ending) (w' : World) : Prop := ∃ v, e = .returned v ∧ ResAt w' v r ∧ Below w.heap.size w w'
theorem RgRow.kept {w w' : World} {g off n : Nat} {L : List (Nat × Nat)} (h : RgRow w (some ⟨g, off, none⟩) n L) (hg : w'.heap[g]? = w.heap[g]?) (hlt : g < w'.heap.size) : RgRow w' (some ⟨g, off, none⟩) n L := by
  refine ⟨h.1, h.2.1, fun hn => ?_⟩
  obtain ⟨b, o, e, _, hc⟩ := h.2.2 hn
  injection e with e
  injection e with e1 e2
  subst e1 e2
  exact ⟨_, _, rfl, hlt, fun i hi => (World.cell?_of_block (a := ⟨g, off + i, none⟩) hg).trans (hc i hi)⟩
set_option maxHeartbeats 2000000 in
theorem ten_any (w : World) : Calls Tryz.prog 25 #[] w (HasRes tenR w) := by
  have U1 := Lib.hid built_loT
  have U2 := Lib.hid built_hiT
  have U3 := Lib.hid built_spT
  obtain ⟨g0, hg0⟩ : ∃ g0, w.heap.size = g0 := ⟨_, rfl⟩
  have B0 := Lib.hid (boxR_below w (.cells (resC false (.slice none 0 0) (.slice none 0 0)) 25))
  have Z0 := Lib.hid (resbox w false (.slice none 0 0) (.slice none 0 0))
  rw [hg0] at Z0
  have GL : Hid (w.heap.size ≤ g0) := Lib.hid (by omega)
  generalize hFA : (acells loT).toArray = FA at *
  generalize hFB : (acells hiT).toArray = FB at *
  clear hFA hFB
  go_enter Tryz.func25, Tryz.ntmps25
  go_upto_region 1 with (with_reducible refine allocRes_at ?_)
  rw [hg0]
  clear hg0
  generalize w.alloc (.cells (resC false (.slice none 0 0) (.slice none 0 0)) 25) = w1 at *
  have b2 := boxR_below w1 (.cells (scells spT) 62)
  have b3 := boxR_below (w1.alloc (.cells (scells spT) 62)) (.cells (rcells (1, 9)) 54)
  have B2 := Lib.hid (Below.step (Below.step B0.out b2) b3)
  have Z2 := Lib.hid (Blk.alloc (Blk.alloc Z0.out (.cells (scells spT) 62)) (.cells (rcells (1, 9)) 54))
  have S2 : Hid (SpArg ((w1.alloc (.cells (scells spT) 62)).alloc (.cells (rcells (1, 9)) 54)) (some ⟨w1.heap.size, 0, none⟩) 1 1 [spT]) := Lib.hid ⟨(sp_one w1 spT_six).below b3, fun e => by cases e⟩
  have R2 : Hid (RgArg ((w1.alloc (.cells (scells spT) 62)).alloc (.cells (rcells (1, 9)) 54)) (some ⟨w1.heap.size + 1, 0, none⟩) 1 1 [(1, 9)]) := Lib.hid ⟨by
    have := rg_one (w1.alloc (.cells (scells spT) 62)) (s := (1, 9)) ⟨by decide, by decide⟩
    rwa [World.size_alloc] at this, fun e => by cases e⟩
  have ZL := Lib.hid Z0.out.lt
  clear b2 b3 B0 Z0
  obtain ⟨g1, hg1⟩ : ∃ g1, w1.heap.size = g1 := ⟨_, rfl⟩
  rw [hg1] at S2 R2
  generalize hw4 : (w1.alloc (.cells (scells spT) 62)).alloc (.cells (rcells (1, 9)) 54) = w4 at *
  have NE : Hid (g0 < g1 ∧ g1 + 1 < w4.heap.size) := Lib.hid (by rw [← hw4, ← hg1]; have := ZL.out; simp; omega)
  go_wp2_with (first
    | (refine build1_to rfl 41 _ rfl (some 1) rfl FA _ U1.out (by kernel_rfl) ?_)
    | (refine build1_to rfl 41 _ rfl (some 2) rfl FB _ U2.out (by kernel_rfl) ?_)
    | (refine build1_to rfl 62 _ rfl (some 3) rfl (scells spT) _ U3.out (by kernel_rfl) ?_)
    | ((with_reducible refine slice_span1_at 3 spT spT_six ?_ ?_); (· rfl))
    | ((with_reducible refine slice_range_at 5 (1, 9) ?_ ?_); (· rfl); rw [hw4])
    | ((with_reducible refine store_res_at 0 7 g0 false (some ⟨g1, 0, none⟩) 1 1 (some ⟨g1 + 1, 0, none⟩) 1 1 false (.slice none 0 0) (.slice none 0 0) ?_ ?_ Z2.out ?_); (· rfl); (· rfl)))
  have ne : g0 < g1 ∧ g1 + 1 < w4.heap.size := NE.out
  have k1 := setRow_other w4 g0 g1 (resC false (.slice (some ⟨g1, 0, none⟩) 1 1) (.slice (some ⟨g1 + 1, 0, none⟩) 1 1)) (by omega)
  have k2 := setRow_other w4 g0 (g1 + 1) (resC false (.slice (some ⟨g1, 0, none⟩) 1 1) (.slice (some ⟨g1 + 1, 0, none⟩) 1 1)) (by omega)
  have hb := below_setRow B2.out GL.out (resC false (.slice (some ⟨g1, 0, none⟩) 1 1) (.slice (some ⟨g1 + 1, 0, none⟩) 1 1))
  have hs : w4.heap.size ≤ (w4.setRow g0 (resC false (.slice (some ⟨g1, 0, none⟩) 1 1) (.slice (some ⟨g1 + 1, 0, none⟩) 1 1))).heap.size := by
    unfold World.setRow
    simp
  exact bodyPost_ret (results_cell_row rfl _ _ g0 25 (resC false (.slice (some ⟨g1, 0, none⟩) 1 1) (.slice (some ⟨g1 + 1, 0, none⟩) 1 1)) (0, 0) _ rfl (setRow_heap _ _ _ _ 25 _ Z2.out) Tryz.underlying25 rfl (Tryz.sizeRes _ _ _)) rfl ⟨_, rfl, ⟨_, _, _, _, _, _, rfl, ⟨S2.out.1.kept k1 (by omega), S2.out.2⟩, ⟨R2.out.1.kept k2 (by omega), R2.out.2⟩⟩, hb⟩
end Go.Proofs.YtlmndmfebgaidaaGreatDoor
namespace Go.Proofs.YtlmndmfebgaidaaGreatDoor
open Go.RowKit
set_option linter.unusedVariables false
def GivesPart (zs : List Int) (w : World) (e : Ending) (w' : World) : Prop :=
  ∃ a c, e = .returned (.slice a zs.length c) ∧ Row w a zs.length zs ∧ (a = none → c = 0) ∧ zs.length ≤ c ∧ w' = w
theorem GivesPart.of {zs : List Int} {a : Option Addr} {m c : Nat} {w : World} (hr : Row w a m zs) (hnil : a = none → c = 0) (hc : m ≤ c) : GivesPart zs w (.returned (.slice a m c)) w := by
  obtain rfl := hr.1
  exact ⟨a, c, rfl, hr, hnil, hc, rfl⟩
theorem bare_nil_iff {zs : List Int} {k : Nat} (h : bareZ (zs.drop k) = bareZ zs) (hk : zs.length ≤ k) : bareZ zs = [] := by
  rw [← h, List.drop_of_length_le hk]
  rfl
def lenV : Value → Nat
  | .slice _ m _ => m
  | _ => 0
set_option maxHeartbeats 1000000 in
theorem trimByte_any (a : Option Addr) (n ca : Nat) (zs : List Int) (w : World) (hr : Row w a n zs) (hnc : n ≤ ca) (hn : n ≤ 1000000) (hnil : a = none → ca = 0) : Calls Tryz.prog 140 #[.slice a n ca, .int .u8 0] w (GivesPart (bareZ zs) w) := by
  have R0 := Lib.hid hr
  have NI := Lib.hid hnil
  have HL := Lib.hid hr.1
  clear hr hnil
  go_enter Tryz.func140, Tryz.ntmps140
  go_wp2_with fail
  go_loopw [0] (fun s wr => ∃ (k m : Nat) (b : Option Addr) (c : Nat), k + m = n ∧ s = .slice b m c ∧ wr = w ∧ Row w b m (zs.drop k) ∧ m ≤ c ∧ (b = none → c = 0) ∧ bareZ (zs.drop k) = bareZ zs) (fun s _ => lenV s)
  case atStart => exact ⟨0, n, a, ca, by omega, rfl, rfl, by simpa using R0.out, hnc, NI.out, by simp⟩
  case round =>
    obtain ⟨k, m, b, c, hk, rfl, rfl, hrb, hcb, hnb, hb⟩ := hrel
    have HB := Lib.hid hb
    have RB := Lib.hid hrb
    have NB := Lib.hid hnb
    clear hb hrb hnb
    have hkm : k + m ≤ n ∧ n ≤ k + m := by omega
    have HK := Lib.hid hk
    clear hk
    by_cases hlt : 0 < m
    · obtain ⟨bb, off, rfl, hbl, hc⟩ := RB.out.2.2 hlt
      have c0 := hc 0 hlt
      rw [Nat.add_zero] at c0
      have z0 := RB.out.byte 0
      have e0 : (zs.drop k)[0]?.getD 0 = zs[k]?.getD 0 := by rw [List.getElem?_drop, Nat.add_zero]
      rw [e0] at c0 z0
      have BD := Lib.hid (bare_drop (zs := zs) (k := k) (by rw [HL.out]; omega))
      have RW := Lib.hid (RB.out.rest 1 c (by omega) hcb)
      clear hc e0
      by_cases hz : zs[k]?.getD 0 = 0
      · have N : Hid (bareZ (zs.drop (k + 1)) = bareZ zs) := by
          rw [← HB.out, BD.out, if_pos hz]
          exact Lib.hid rfl
        have RX : Hid (Row wr (if c = 1 then some ⟨bb, off, none⟩ else some ⟨bb, off + 1, none⟩) (m - 1) (zs.drop (k + 1))) := by
          have h := RW.out
          rw [List.drop_drop, Option.map_some, Addr.add_lit] at h
          exact Lib.hid h
        rw [hz] at c0
        clear BD HB hz z0 RW
        by_cases hc1 : c = 1
        · subst hc1
          obtain rfl : m = 1 := by omega
          have R1 : Hid (Row wr (some ⟨bb, off, none⟩) 0 (zs.drop (k + 1))) := Lib.hid (by simpa using RX.out)
          clear RX
          go_wp2_with fail
          go_roundw
          case rel => exact ⟨k + 1, 0, _, _, by omega, by first | rfl | simp, trivial, R1.out, by omega, (fun h => by cases h), N.out⟩
          case measure => simp [lenV]
        · have R1 : Hid (Row wr (some ⟨bb, off + 1, none⟩) (m - 1) (zs.drop (k + 1))) := Lib.hid (by have := RX.out; rwa [if_neg hc1] at this)
          clear RX
          go_wp2_with fail
          go_roundw
          case rel => exact ⟨k + 1, m - 1, _, _, by omega, by first | rfl | simp, trivial, R1.out, by omega, (fun h => by cases h), N.out⟩
          case measure => simp [lenV]; omega
      · have F : Hid (bareZ zs = zs.drop k) := by
          rw [← HB.out, BD.out, if_neg hz]
          exact Lib.hid rfl
        have t0 : (zs[k]?.getD 0 == 0) = false := by simpa using hz
        have t1 : ((m : Int) == 0) = false := by simp; omega
        generalize zs[k]?.getD 0 = x at c0 z0 t0
        clear BD HB hz RW
        go_wp2_with fail
        go_ret
        rw [F.out]
        exact GivesPart.of RB.out NB.out hcb
    · obtain rfl : m = 0 := by omega
      have F : Hid (bareZ zs = []) := bare_nil_iff HB.out (by rw [HL.out]; omega)
      clear HB
      go_wp2_with fail
      go_ret
      rw [F.out]
      exact GivesPart.of (Row.nil _ _) (fun _ => rfl) (Nat.le_refl _)
set_option maxHeartbeats 1000000 in
set_option maxRecDepth 100000 in
theorem trim_any (a : Option Addr) (n ca : Nat) (zs : List Int) (w : World) (hr : Row w a n zs) (hnc : n ≤ ca) (hn : n ≤ 1000000) (hnil : a = none → ca = 0) : Calls Tryz.prog 118 #[.slice a n ca, .string ⟨#[0]⟩] w (GivesPart (bareZ zs) w) := by
  have R0 := Lib.hid hr
  have CT := Lib.hid (trimByte_any a n ca zs w hr hnc hn hnil)
  have HL := Lib.hid hr.1
  clear hr hnil
  go_enter Tryz.func118, Tryz.ntmps118
  by_cases h0 : n = 0
  · subst h0
    have F : Hid (bareZ zs = []) := by rw [List.eq_nil_of_length_eq_zero HL.out]; exact Lib.hid rfl
    clear CT HL
    go_wp2_with fail
    go_ret
    rw [F.out]
    exact GivesPart.of (Row.nil _ _) (fun _ => rfl) (Nat.le_refl _)
  have t0 : ((n : Int) == 0) = false := by simp; omega
  go_wp2_with fail
  refine CT.out.mono ?_
  rintro e w2 ⟨b, c, rfl, hr2, hn2, hc2, rfl⟩
  have G2 := Lib.hid (GivesPart.of hr2 hn2 hc2)
  clear hr2 hn2 hc2 CT
  go_wp2_with fail
  go_ret
  exact G2.out
theorem bareW_any (a : Option Addr) (n ca : Nat) (zs : List Int) (w : World) (hr : Row w a n zs) (hnc : n ≤ ca) (hn : n ≤ 1000000) (hnil : a = none → ca = 0) : Calls Tryz.prog 107 #[.slice a n ca] w (GivesPart (bareZ zs) w) := by
  have CT := Lib.hid (trim_any a n ca zs w hr hnc hn hnil)
  clear hr hnil
  go_enter Tryz.func107, Tryz.ntmps107
  go_wp2_with fail
  refine CT.out.mono ?_
  rintro e w2 ⟨b, c, rfl, hr2, hn2, hc2, rfl⟩
  have G2 := Lib.hid (GivesPart.of hr2 hn2 hc2)
  clear hr2 hn2 hc2 CT
  go_wp2_with fail
  go_ret
  exact G2.out
theorem equal_bytes {xs ys : List Int} (hx : ∀ x ∈ xs, 0 ≤ x ∧ x ≤ 255) (hy : ∀ x ∈ ys, 0 ≤ x ∧ x ≤ 255) : ((strOfNums xs).toList == (strOfNums ys).toList) = decide (xs = ys) := by
  by_cases h : xs = ys
  · rw [h, decide_eq_true rfl]
    exact beq_self_eq_true _
  · rw [decide_eq_false h]
    have : (strOfNums xs).toList ≠ (strOfNums ys).toList := fun e => h (by rw [← nums_str xs hx, ← nums_str ys hy, bytes_ext e])
    exact beq_false_of_ne this
set_option maxHeartbeats 1000000 in
theorem equal_any (a1 a2 : Option Addr) (n1 n2 c1 c2 : Nat) (xs ys : List Int) (w : World) (hx : Row w a1 n1 xs) (hy : Row w a2 n2 ys) : Calls Tryz.prog 62 #[.slice a1 n1 c1, .slice a2 n2 c2] w fun e w' => e = .returned (.bool (decide (xs = ys))) ∧ w' = w := by
  have cv1 := conv_at c1 hx
  have cv2 := conv_at c2 hy
  have E := Lib.hid (equal_bytes hx.2.1 hy.2.1)
  clear hx hy
  go_enter Tryz.func62, Tryz.ntmps62
  go_wp2_with fail
  go_ret
  exact ⟨ret_bool E.out, rfl⟩
end Go.Proofs.YtlmndmfebgaidaaGreatDoor
