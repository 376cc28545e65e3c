/-
  Merged texts: RpB, Pk4, RpC, ReD.
-/
import Derived.Test.YtlmndmfebgaidaaGreatDoorGrO
import Derived.Test.YtlmndmfebgaidaaGreatDoorGrM
namespace Go.Proofs.YtlmndmfebgaidaaGreatDoor
open Go.RowKit
set_option linter.unusedVariables false
set_option linter.unusedSimpArgs false
set_option maxRecDepth 100000
def Over (B : Nat) (a b : World) : Prop := a.heap.size ≤ b.heap.size ∧ ∀ k, B ≤ k → k < a.heap.size → b.heap[k]? = a.heap[k]?
theorem Over.refl (B : Nat) (a : World) : Over B a a := ⟨Nat.le_refl _, fun _ _ _ => rfl⟩
theorem Over.step {B : Nat} {a b c : World} (h : Over B a b) (k : Over B b c) : Over B a c := ⟨Nat.le_trans h.1 k.1, fun x h1 h2 => (k.2 x h1 (Nat.lt_of_lt_of_le h2 h.1)).trans (h.2 x h1 h2)⟩
theorem Over.below {B : Nat} {a b : World} (h : Below a.heap.size a b) : Over B a b := ⟨h.size, fun x _ h2 => h.block x h2⟩
theorem Over.cell {B g j : Nat} (a : World) (v : Value) (hg : g < B) : Over B a (a.setCell ⟨g, j, none⟩ v) := ⟨by simp, fun x h1 _ => heap_setCell_other a ⟨g, j, none⟩ x v (by show x ≠ g; omega)⟩
theorem Over.rowS {B g : Nat} (a : World) (cs : Array Value) (hg : g < B) : Over B a (a.setRow g cs) := ⟨by unfold World.setRow; simp, fun x h1 _ => setRow_other a g x cs (by omega)⟩
def SpFar (B : Nat) (w : World) (a : Option Addr) (n c : Nat) (L : List SpanZ) : Prop := SpArg w a n c L ∧ (0 < n → ∃ b off, a = some ⟨b, off, none⟩ ∧ B ≤ b)
theorem SpFar.over {B : Nat} {w W : World} {a : Option Addr} {n c : Nat} {L : List SpanZ} (h : SpFar B w a n c L) (ho : Over B w W) : SpFar B W a n c L := by
  refine ⟨⟨⟨h.1.1.1, h.1.1.2.1, fun h0 => ?_⟩, h.1.2⟩, h.2⟩
  obtain ⟨b, off, e, hlt, hc⟩ := h.1.1.2.2 h0
  obtain ⟨b', off', e', hB⟩ := h.2 h0
  rw [e] at e'
  obtain ⟨rfl, rfl⟩ : b = b' ∧ off = off' := by simpa using e'
  exact ⟨b, off, e, Nat.lt_of_lt_of_le hlt ho.1, fun i hi => (World.cell?_of_block (a := ⟨b, off + i, none⟩) (ho.2 b hB hlt)).trans (hc i hi)⟩
def RgFar (B : Nat) (w : World) (a : Option Addr) (n c : Nat) (L : List (Nat × Nat)) : Prop := RgArg w a n c L ∧ (0 < n → ∃ b off, a = some ⟨b, off, none⟩ ∧ B ≤ b)
theorem RgFar.over {B : Nat} {w W : World} {a : Option Addr} {n c : Nat} {L : List (Nat × Nat)} (h : RgFar B w a n c L) (ho : Over B w W) : RgFar B W a n c L := by
  refine ⟨⟨⟨h.1.1.1, h.1.1.2.1, fun h0 => ?_⟩, h.1.2⟩, h.2⟩
  obtain ⟨b, off, e, hlt, hc⟩ := h.1.1.2.2 h0
  obtain ⟨b', off', e', hB⟩ := h.2 h0
  rw [e] at e'
  obtain ⟨rfl, rfl⟩ : b = b' ∧ off = off' := by simpa using e'
  exact ⟨b, off, e, Nat.lt_of_lt_of_le hlt ho.1, fun i hi => (World.cell?_of_block (a := ⟨b, off + i, none⟩) (ho.2 b hB hlt)).trans (hc i hi)⟩
theorem SpOut.farB {W0 wr : World} {V : Value} {L : List SpanZ} {B : Nat} (h : SpOut W0 wr V L) (hB : B ≤ W0.heap.size) : ∃ a c, V = .slice a L.length c ∧ SpFar B wr a L.length c L := by
  obtain ⟨a, c, rfl, hr⟩ := h.arg
  refine ⟨a, c, rfl, hr, fun h0 => ?_⟩
  rcases h.form with ⟨e, e2⟩ | ⟨g, cap, e, h1, _⟩
  · rw [e2] at h0
    exact absurd h0 (by simp)
  · injection e with e1 e2 e3
    exact ⟨g, 0, e1, by omega⟩
theorem RgOut.farB {W0 wr : World} {V : Value} {L : List (Nat × Nat)} {B : Nat} (h : RgOut W0 wr V L) (hB : B ≤ W0.heap.size) : ∃ a c, V = .slice a L.length c ∧ RgFar B wr a L.length c L := by
  obtain ⟨a, c, rfl, hr⟩ := h.arg
  refine ⟨a, c, rfl, hr, fun h0 => ?_⟩
  rcases h.form with ⟨e, e2⟩ | ⟨g, cap, e, h1, _⟩
  · rw [e2] at h0
    exact absurd h0 (by simp)
  · injection e with e1 e2 e3
    exact ⟨g, 0, e1, by omega⟩
theorem SpFar.mono {B C : Nat} {w : World} {a : Option Addr} {n c : Nat} {L : List SpanZ} (h : SpFar B w a n c L) (hC : C ≤ B) : SpFar C w a n c L := ⟨h.1, fun h0 => by
  obtain ⟨b, off, e, hb⟩ := h.2 h0
  exact ⟨b, off, e, Nat.le_trans hC hb⟩⟩
theorem RgFar.mono {B C : Nat} {w : World} {a : Option Addr} {n c : Nat} {L : List (Nat × Nat)} (h : RgFar B w a n c L) (hC : C ≤ B) : RgFar C w a n c L := ⟨h.1, fun h0 => by
  obtain ⟨b, off, e, hb⟩ := h.2 h0
  exact ⟨b, off, e, Nat.le_trans hC hb⟩⟩
def GivesOwn (r : ResZ) (w : World) (e : Ending) (w' : World) : Prop := ∃ a n c b m d, e = .returned (.agg (resC r.inh (.slice a n c) (.slice b m d))) ∧ SpFar w.heap.size w' a n c r.sp ∧ RgFar w.heap.size w' b m d r.ns ∧ Below w.heap.size w w'
theorem GivesRes.row2 {fn : Func} {w W : World} {x : ResZ × Int} {tmps : Array Value} {p u : Tmp} {g B : Nat} {o : Bool} {a : Option Addr} {n c : Nat} {b : Option Addr} {m d : Nat} {y' z' : Value} {er : Int} {i : Bool} (hr : fn.results = #[.cell p 25, .tmp u]) (hp : tmps.getD p undef = .pointer (some ⟨g, 0, none⟩)) (hu : tmps.getD u undef = .int .i64 er) (he : x.2 = er) (hi : x.1.inh = i)
    (hg : Blk W g 25 (resC o y' z')) (hs : SpFar B W a n c x.1.sp) (ht : RgFar B W b m d x.1.ns) (hB : g < B) (hb : Below w.heap.size w W) (hl : w.heap.size ≤ g) :
    bodyPost Tryz.prog fn (GivesRes x w) .ret { tmps := tmps, defers := [] } (W.setRow g (resC i (.slice a n c) (.slice b m d))) := by
  subst hi
  have ov := Over.rowS (B := B) W (resC x.1.inh (.slice a n c) (.slice b m d)) hB
  refine bodyPost_ret (results_row_val hr tmps _ g 25 (resC x.1.inh (.slice a n c) (.slice b m d)) (0, 0) _ hp (setRow_heap _ _ _ _ 25 _ hg) Tryz.underlying25 rfl (Tryz.sizeRes _ _ _)) rfl ⟨_, ?_, ⟨_, _, _, _, _, _, rfl, (hs.over ov).1, (ht.over ov).1⟩, below_setRow hb hl _⟩
  rw [hu, he]
theorem ExtB.cellS (g j : Nat) (w : World) (v : Value) : ExtB g w (w.setCell ⟨g, j, none⟩ v) := Below.setCell (Below.refl g w) (p := ⟨g, j, none⟩) (Nat.le_refl _) v
theorem op_store_cell {o : Oper} {a : Act} {w : World} {K : Act → World → Prop} {Q : Exit → Act → World → Prop} (T : TypeId) (x y : Operand) (ho : o.op = .store T x y) (hdst : o.dst = none) (g j : Nat) (v : Value) {ty : TypeId} {cs : Array Value} (hx : a.eval x = .pointer (some ⟨g, j, none⟩)) (hy : a.eval y = v) (hb : Blk w g ty cs) (hj : j < cs.size)
    (hi : (Tryz.prog.info? T).map (·.size) = some 1) (hv : v.cells = #[v]) (h1 : v.oneCell' = true) (hK : K a (w.setCell ⟨g, j, none⟩ v)) : o.wp Tryz.prog a w K Q := by
  have hth : w.there g j 1 := fun i hi => ⟨by
    rw [Blk.cell hb, Array.getElem?_eq_getElem (by omega)]
    rfl, Blk.free hb _⟩
  refine op_of_skip _ ?_ (by rw [hdst]; exact hK)
  unfold execOp
  simp only [ho, hx, hy, Instr.storeAt, Instr.sureAddr, Sem.run_bind, Sem.run_pure, Result.andThen_ok, run_storeVar_cell (P := Tryz.prog) w g j T v hth hi hv h1]
set_option maxHeartbeats 4000000 in
theorem clone13_any (r : ResZ) (v : Value) (w : World) (h : ResAt w v r) (hl : r.sp.length ≤ 40000) (hm : r.ns.length ≤ 40000) : Calls Tryz.prog 45 #[v] w (GivesOwn r w) := by
  obtain ⟨a, n, c, b, m, d, rfl, h1, h2⟩ := h
  have hn' := h1.1.1
  have hm' := h2.1.1
  have K0 := (Blk.alloc (Blk.new w 25 (resC r.inh (.slice a n c) (.slice b m d))) (.cells #[.bool false, .slice none 0 0, .slice none 0 0] 25))
  have K1 := (Blk.new (w.alloc (.cells (resC r.inh (.slice a n c) (.slice b m d)) 25)) 25 #[.bool false, .slice none 0 0, .slice none 0 0])
  rw [show (w.alloc (.cells (resC r.inh (.slice a n c) (.slice b m d)) 25)).heap.size = w.heap.size + 1 by simp] at K1
  have bw := (Below.step (boxR_below w (.cells (resC r.inh (.slice a n c) (.slice b m d)) 25)) (boxR_below (w.alloc (.cells (resC r.inh (.slice a n c) (.slice b m d)) 25)) (.cells #[.bool false, .slice none 0 0, .slice none 0 0] 25)))
  have HS : Hid (((w.alloc (.cells (resC r.inh (.slice a n c) (.slice b m d)) 25)).alloc (.cells #[.bool false, .slice none 0 0, .slice none 0 0] 25)).heap.size = w.heap.size + 1 + 1) := Lib.hid (by simp)
  have BW := Lib.hid bw
  have SA := Lib.hid (h1.below bw)
  have RA := Lib.hid (h2.below bw)
  have CC := Lib.hid (fun W (h : SpArg W a n c r.sp) => cloneS_any a n c r.sp W h.1 h.2 (by omega))
  have CD := Lib.hid (fun W (h : RgArg W b m d r.ns) => cloneR_any b m d r.ns W h.1 h.2 (by omega))
  generalize hw2 : ((w.alloc (.cells (resC r.inh (.slice a n c) (.slice b m d)) 25)).alloc (.cells #[.bool false, .slice none 0 0, .slice none 0 0] 25)) = w2 at *
  obtain ⟨g, hg⟩ : ∃ g, w.heap.size = g := ⟨_, rfl⟩
  have HG := Lib.hid hg
  rw [hg] at HS K0 K1
  have XB := Lib.hid K0
  have ZB : Hid (Blk w2 (g + 1) 25 (resC false (.slice none 0 0) (.slice none 0 0))) := Lib.hid K1
  clear K0 K1 h1 h2 hl hm bw
  obtain ⟨i, X, Y⟩ := r
  simp only at *
  subst hn'
  subst hm'
  go_enter Tryz.func45, Tryz.ntmps45
  go_upto_region 1 with fail
  clear hw2
  have D1 := drewN_below w2 1
  replace BW := Lib.hid (Below.step BW.out D1)
  replace XB := Lib.hid (XB.out.below D1 XB.out.lt)
  replace ZB := Lib.hid (ZB.out.below D1 ZB.out.lt)
  replace SA := Lib.hid (SA.out.below D1)
  replace RA := Lib.hid (RA.out.below D1)
  have HS2 : Hid (g + 2 ≤ (w2.drewN 1).heap.size) := Lib.hid (by have := D1.size; have := HS.out; omega)
  clear D1 HS
  refine wp_region_plan (ExtB g) (ExtB.refl _) ExtB.trans (.take 0 (.take 3 (.fork 1 (.fork 2 (.sole 4 (.take 6 (.sole 5 (.sole 7 (.take 8 (.sole 9 .fin)))))) 4 (.sole 2 (.take 6 (.sole 5 (.sole 7 (.take 8 (.sole 9 .fin))))))) 4 (.sole 1 (.sole 2 (.take 6 (.sole 5 (.sole 7 (.take 8 (.sole 9 .fin)))))))))) (by kernel_rfl) (by kernel_rfl) rfl (by kernel_rfl) (fun _ _ _ _ _ h => h) ?_
  change wpPlan _ _ _ _ _ _ (w2.drewN 1)
  generalize w2.drewN 1 = w3 at *
  repeat' (first
    | (refine plan_take _ rfl (by rfl) (fun W hW => by go_simp; first | done | rfl) ?_; simp only [Act.put, List.setIfInBounds_toArray, List.set_cons_zero, List.set_cons_succ])
    | (refine plan_fork ?_ ?_)
    | ((first | refine plan_sole (sole_take rfl (by rfl) (fun K1 hK1 => ?_)) | refine sole_take rfl (by rfl) (fun K1 hK1 => ?_))
       refine op_of_run _ _ (yields_spans (.tmp 3) rfl g 1 (.slice a X.length c) rfl (Blk.cell XB.out 1)) ?_
       refine hK1 _ _ (ExtB.refl _ _) ?_
       clear hK1 K1
       try simp only [Act.put, List.setIfInBounds_toArray, List.set_cons_zero, List.set_cons_succ])
    | ((first | refine plan_sole (sole_take rfl (by rfl) (fun K1 hK1 => ?_)) | refine sole_take rfl (by rfl) (fun K1 hK1 => ?_))
       refine op_of_run _ _ (yields_ranges (.tmp 6) rfl g 2 (.slice b Y.length d) rfl (Blk.cell XB.out 2)) ?_
       refine hK1 _ _ (ExtB.refl _ _) ?_
       clear hK1 K1
       try simp only [Act.put, List.setIfInBounds_toArray, List.set_cons_zero, List.set_cons_succ])
    | ((first | refine plan_sole (sole_take rfl (by rfl) (fun K1 hK1 => ?_)) | refine sole_take rfl (by rfl) (fun K1 hK1 => ?_))
       refine op_store_cell 22 (.tmp 9) (.tmp 5) rfl rfl g 1 (.slice a5 X.length c5) rfl rfl XB.out (show 1 < 3 by decide) (by kernel_rfl) rfl rfl ?_
       refine hK1 _ _ (ExtB.cellS _ _ _ _) ?_
       clear hK1 K1
       have X7 := Lib.hid (Blk.set XB.out 1 (.slice a5 X.length c5))
       have Z7 := Lib.hid (show Blk _ (g + 1) _ _ from (heap_setCell_other w6 ⟨g, 1, none⟩ (g + 1) (.slice a5 X.length c5) (by show g + 1 ≠ g; omega)).trans ZB.out)
       replace F5 := Lib.hid (F5.out.over (Over.cell (j := 1) w6 (.slice a5 X.length c5) (Nat.lt_add_of_pos_right (n := g) (k := 2) (by decide))))
       replace F6 := Lib.hid (F6.out.over (Over.cell (j := 1) w6 (.slice a5 X.length c5) (Nat.lt_add_of_pos_right (n := g) (k := 2) (by decide))))
       replace BW := Lib.hid (Below.setCell BW.out (p := ⟨g, 1, none⟩) (Nat.le_of_eq HG.out) (.slice a5 X.length c5))
       clear XB ZB SA RA HS2
       generalize w6.setCell ⟨g, 1, none⟩ (.slice a5 X.length c5) = w7 at *
       try simp only [Act.put, List.setIfInBounds_toArray, List.set_cons_zero, List.set_cons_succ])
    | ((first | refine plan_sole (sole_take rfl (by rfl) (fun K1 hK1 => ?_)) | refine sole_take rfl (by rfl) (fun K1 hK1 => ?_))
       refine op_store_cell 23 (.tmp 10) (.tmp 8) rfl rfl g 2 (.slice a6 Y.length c6) rfl rfl X7.out (show 2 < 3 by decide) (by kernel_rfl) rfl rfl ?_
       refine hK1 _ _ (ExtB.cellS _ _ _ _) ?_
       clear hK1 K1
       have X8 : Hid (Blk (w7.setCell ⟨g, 2, none⟩ (.slice a6 Y.length c6)) g 25 (resC i (.slice a5 X.length c5) (.slice a6 Y.length c6))) := Lib.hid (Blk.set X7.out 2 (.slice a6 Y.length c6))
       have Z8 := Lib.hid (show Blk _ (g + 1) _ _ from (heap_setCell_other w7 ⟨g, 2, none⟩ (g + 1) (.slice a6 Y.length c6) (by show g + 1 ≠ g; omega)).trans Z7.out)
       replace F5 := Lib.hid (F5.out.over (Over.cell (j := 2) w7 (.slice a6 Y.length c6) (Nat.lt_add_of_pos_right (n := g) (k := 2) (by decide))))
       replace F6 := Lib.hid (F6.out.over (Over.cell (j := 2) w7 (.slice a6 Y.length c6) (Nat.lt_add_of_pos_right (n := g) (k := 2) (by decide))))
       replace BW := Lib.hid (Below.setCell BW.out (p := ⟨g, 2, none⟩) (Nat.le_of_eq HG.out) (.slice a6 Y.length c6))
       clear X7 Z7
       generalize w7.setCell ⟨g, 2, none⟩ (.slice a6 Y.length c6) = w8 at *
       try simp only [Act.put, List.setIfInBounds_toArray, List.set_cons_zero, List.set_cons_succ])
    | ((first | refine plan_sole (sole_take rfl (by rfl) (fun K1 hK1 => ?_)) | refine sole_take rfl (by rfl) (fun K1 hK1 => ?_))
       go_simp
       refine (CC.out _ SA.out).mono ?_
       rintro e w5 ⟨V5, rfl, ho5⟩
       have hb5 := ho5.2.1
       obtain ⟨a5, c5, rfl, hf5⟩ := ho5.farB HS2.out
       refine hK1 _ _ (hb5.mono (Nat.le_trans (Nat.le_add_right _ 2) HS2.out)) ?_
       clear hK1 K1
       have F5 := Lib.hid hf5
       replace BW := Lib.hid (Below.step BW.out hb5)
       replace XB := Lib.hid (XB.out.below hb5 XB.out.lt)
       replace ZB := Lib.hid (ZB.out.below hb5 ZB.out.lt)
       replace SA := Lib.hid (SA.out.below hb5)
       replace RA := Lib.hid (RA.out.below hb5)
       replace HS2 := Lib.hid (Nat.le_trans HS2.out hb5.size)
       clear hb5 hf5 ho5 CC
       try simp only [Act.put, List.setIfInBounds_toArray, List.set_cons_zero, List.set_cons_succ])
    | ((first | refine plan_sole (sole_take rfl (by rfl) (fun K1 hK1 => ?_)) | refine sole_take rfl (by rfl) (fun K1 hK1 => ?_))
       go_simp
       refine (CD.out _ RA.out).mono ?_
       rintro e w6 ⟨V6, rfl, ho6⟩
       have hb6 := ho6.2.1
       obtain ⟨a6, c6, rfl, hf6⟩ := ho6.farB HS2.out
       refine hK1 _ _ (hb6.mono (Nat.le_trans (Nat.le_add_right _ 2) HS2.out)) ?_
       clear hK1 K1
       have F6 := Lib.hid hf6
       replace F5 := Lib.hid (F5.out.over (Over.below hb6))
       replace BW := Lib.hid (Below.step BW.out hb6)
       replace XB := Lib.hid (XB.out.below hb6 XB.out.lt)
       replace ZB := Lib.hid (ZB.out.below hb6 ZB.out.lt)
       replace SA := Lib.hid (SA.out.below hb6)
       replace RA := Lib.hid (RA.out.below hb6)
       replace HS2 := Lib.hid (Nat.le_trans HS2.out hb6.size)
       clear hb6 hf6 ho6 CD
       try simp only [Act.put, List.setIfInBounds_toArray, List.set_cons_zero, List.set_cons_succ])
    | refine plan_end ?_)
  all_goals (
    go_wp2_with (first
      | (refine load_res_any (by rfl) (.tmp 1) rfl g rfl X8.out ?_)
      | ((with_reducible refine store_res_at 2 11 (g + 1) i a5 X.length c5 a6 Y.length c6 false (.slice none 0 0) (.slice none 0 0) ?_ ?_ Z8.out ?_); (· rfl); (· rfl)))
    have ov := Over.rowS (B := g + 2) (g := g + 1) w8 (resC i (.slice a5 X.length c5) (.slice a6 Y.length c6)) (by omega)
    exact bodyPost_ret (results_cell_row rfl _ _ (g + 1) 25 (resC i (.slice a5 X.length c5) (.slice a6 Y.length c6)) (0, 0) _ rfl (setRow_heap _ _ _ _ 25 _ Z8.out) Tryz.underlying25 rfl (Tryz.sizeRes _ _ _)) rfl ⟨_, _, _, _, _, _, rfl, (F5.out.over ov).mono (by have := HG.out; omega), (F6.out.over ov).mono (by have := HG.out; omega), below_setRow BW.out (by have := HG.out; omega) _⟩)
set_option maxHeartbeats 4000000 in
theorem resolve13_any (x y : ResZ) (u v : Value) (w : World) (hx : ResAt w u x) (hy : ResAt w v y) (lx : x.sp.length ≤ 10000 ∧ x.ns.length ≤ 10000) (ly : y.sp.length ≤ 10000 ∧ y.ns.length ≤ 10000) : Calls Tryz.prog 19 #[u, v] w (GivesRes (resolveR x y) w) := by
  have AX := Lib.hid hx
  have AY := Lib.hid hy
  obtain ⟨ax, nx, cx, bx, mx, dx, rfl, h1, h2⟩ := hx
  obtain ⟨ay, ny, cy, oy, my, dy, rfl, k1, k2⟩ := hy
  have hn := h1.1.1
  have hm := h2.1.1
  have hn' := k1.1.1
  have hm' := k2.1.1
  have K0 := (Blk.alloc (Blk.alloc (Blk.new w 25 (resC x.inh (.slice ax nx cx) (.slice bx mx dx))) (.cells (resC y.inh (.slice ay ny cy) (.slice oy my dy)) 25)) (.cells #[.bool false, .slice none 0 0, .slice none 0 0] 25))
  have K1 := (Blk.alloc (Blk.new (w.alloc (.cells (resC x.inh (.slice ax nx cx) (.slice bx mx dx)) 25)) 25 (resC y.inh (.slice ay ny cy) (.slice oy my dy))) (.cells #[.bool false, .slice none 0 0, .slice none 0 0] 25))
  rw [show (w.alloc (.cells (resC x.inh (.slice ax nx cx) (.slice bx mx dx)) 25)).heap.size = w.heap.size + 1 by simp] at K1
  have K2 := (Blk.new ((w.alloc (.cells (resC x.inh (.slice ax nx cx) (.slice bx mx dx)) 25)).alloc (.cells (resC y.inh (.slice ay ny cy) (.slice oy my dy)) 25)) 25 #[.bool false, .slice none 0 0, .slice none 0 0])
  rw [show ((w.alloc (.cells (resC x.inh (.slice ax nx cx) (.slice bx mx dx)) 25)).alloc (.cells (resC y.inh (.slice ay ny cy) (.slice oy my dy)) 25)).heap.size = w.heap.size + 1 + 1 by simp] at K2
  have bw := (Below.step (Below.step (boxR_below w (.cells (resC x.inh (.slice ax nx cx) (.slice bx mx dx)) 25)) (boxR_below (w.alloc (.cells (resC x.inh (.slice ax nx cx) (.slice bx mx dx)) 25)) (.cells (resC y.inh (.slice ay ny cy) (.slice oy my dy)) 25))) (boxR_below ((w.alloc (.cells (resC x.inh (.slice ax nx cx) (.slice bx mx dx)) 25)).alloc (.cells (resC y.inh (.slice ay ny cy) (.slice oy my dy)) 25)) (.cells #[.bool false, .slice none 0 0, .slice none 0 0] 25)))
  have HS : Hid ((((w.alloc (.cells (resC x.inh (.slice ax nx cx) (.slice bx mx dx)) 25)).alloc (.cells (resC y.inh (.slice ay ny cy) (.slice oy my dy)) 25)).alloc (.cells #[.bool false, .slice none 0 0, .slice none 0 0] 25)).heap.size = w.heap.size + 1 + 1 + 1) := Lib.hid (by simp)
  have BW := Lib.hid bw
  have Q1 : Hid (∀ W, Below w.heap.size w W → Calls Tryz.prog 17 #[.agg (resC x.inh (.slice ax nx cx) (.slice bx mx dx))] W (fun e w' => e = .returned (.bool (rightR x)) ∧ Below W.heap.size W w')) := Lib.hid (fun W h => right13_any x _ W (AX.out.below h) (by omega) (by omega))
  have Q2 : Hid (∀ W, Below w.heap.size w W → Calls Tryz.prog 17 #[.agg (resC y.inh (.slice ay ny cy) (.slice oy my dy))] W (fun e w' => e = .returned (.bool (rightR y)) ∧ Below W.heap.size W w')) := Lib.hid (fun W h => right13_any y _ W (AY.out.below h) (by omega) (by omega))
  have C1 : Hid (∀ W, Below w.heap.size w W → Calls Tryz.prog 45 #[.agg (resC x.inh (.slice ax nx cx) (.slice bx mx dx))] W (GivesOwn x W)) := Lib.hid (fun W h => clone13_any x _ W (AX.out.below h) (by omega) (by omega))
  have C2 : Hid (∀ W, Below w.heap.size w W → Calls Tryz.prog 45 #[.agg (resC y.inh (.slice ay ny cy) (.slice oy my dy))] W (GivesOwn y W)) := Lib.hid (fun W h => clone13_any y _ W (AY.out.below h) (by omega) (by omega))
  have Q3 := Lib.hid (fun W (h : Below w.heap.size w W) => within_any ax ay nx cx ny cy x.sp y.sp W (h1.below h).1 h1.2 (by omega) (k1.below h).1 k1.2 (by omega))
  have Q4 := Lib.hid (fun W (h : Below w.heap.size w W) => pkWithin_of (pkJoin_of pkSorted) bx oy mx my dx dy x.ns y.ns W (h2.below h) (by omega) (k2.below h) (by omega))
  have ER : Hid (resolveR x y = if rightR x = true ∧ rightR y = true ∧ y.inh = false then (if x.inh = true then (y, 0) else if inS x.sp y.sp = true ∧ inN x.ns y.ns = true then (x, 0) else (zeroRes, 9)) else (zeroRes, 1)) := Lib.hid rfl
  have AZ := Lib.hid (ResAt.zero w)
  generalize hw2 : (((w.alloc (.cells (resC x.inh (.slice ax nx cx) (.slice bx mx dx)) 25)).alloc (.cells (resC y.inh (.slice ay ny cy) (.slice oy my dy)) 25)).alloc (.cells #[.bool false, .slice none 0 0, .slice none 0 0] 25)) = w2 at *
  obtain ⟨g, hg⟩ : ∃ g, w.heap.size = g := ⟨_, rfl⟩
  have HG := Lib.hid hg
  rw [hg] at HS K0 K1 K2
  have XB := Lib.hid K0
  have YB := Lib.hid K1
  have ZB : Hid (Blk w2 (g + 1 + 1) 25 (resC false (.slice none 0 0) (.slice none 0 0))) := Lib.hid K2
  clear K0 K1 K2 h1 h2 k1 k2 bw hn hm hn' hm' lx ly AX AY HS
  generalize resolveR x y = z at *
  generalize rightR x = r1 at *
  generalize rightR y = r2 at *
  generalize inS x.sp y.sp = i1 at *
  generalize inN x.ns y.ns = i2 at *
  generalize hxi : x.inh = ix at *
  generalize hyi : y.inh = iy at *
  have HXI := Lib.hid hxi
  have HYI := Lib.hid hyi
  clear hxi hyi
  go_enter Tryz.func19, Tryz.ntmps19
  go_upto_region 1 with fail
  clear hw2
  cases r1 with
  | false =>
    have E2 : Hid (z = (zeroRes, 1)) := Lib.hid (by rw [ER.out, if_neg (by simp)])
    clear ER Q2 Q3 Q4 C1 C2
    have x0w2 : w2.cell? ⟨g, 0, none⟩ = some (.bool ix) := Blk.cell XB.out 0
    have x1w2 : w2.cell? ⟨g, 1, none⟩ = some (.slice ax nx cx) := Blk.cell XB.out 1
    have x2w2 : w2.cell? ⟨g, 2, none⟩ = some (.slice bx mx dx) := Blk.cell XB.out 2
    have y0w2 : w2.cell? ⟨g + 1, 0, none⟩ = some (.bool iy) := Blk.cell YB.out 0
    have y1w2 : w2.cell? ⟨g + 1, 1, none⟩ = some (.slice ay ny cy) := Blk.cell YB.out 1
    have y2w2 : w2.cell? ⟨g + 1, 2, none⟩ = some (.slice oy my dy) := Blk.cell YB.out 2
    go_wp2_with (first
      | (refine load_res_any (by rfl) (.tmp 2) rfl g rfl XB.out ?_)
      | (refine load_res_any (by rfl) (.tmp 3) rfl (g + 1) rfl YB.out ?_)
      | (go_at_call 17
         refine (Q1.out _ BW.out).mono ?_
         rintro r v1 ⟨rfl, hb1⟩
         replace BW := Lib.hid (Below.step BW.out hb1)
         replace XB := Lib.hid (XB.out.below hb1 XB.out.lt)
         replace YB := Lib.hid (YB.out.below hb1 YB.out.lt)
         replace ZB := Lib.hid (ZB.out.below hb1 ZB.out.lt)
         have x0v1 : v1.cell? ⟨g, 0, none⟩ = some (.bool ix) := Blk.cell XB.out 0
         have x1v1 : v1.cell? ⟨g, 1, none⟩ = some (.slice ax nx cx) := Blk.cell XB.out 1
         have x2v1 : v1.cell? ⟨g, 2, none⟩ = some (.slice bx mx dx) := Blk.cell XB.out 2
         have y0v1 : v1.cell? ⟨g + 1, 0, none⟩ = some (.bool iy) := Blk.cell YB.out 0
         have y1v1 : v1.cell? ⟨g + 1, 1, none⟩ = some (.slice ay ny cy) := Blk.cell YB.out 1
         have y2v1 : v1.cell? ⟨g + 1, 2, none⟩ = some (.slice oy my dy) := Blk.cell YB.out 2
         clear hb1 Q1)
      | ((with_reducible refine store_res_at 4 19 (g + 1 + 1) false none 0 0 none 0 0 false (.slice none 0 0) (.slice none 0 0) ?_ ?_ ZB.out ?_); (· rfl); (· rfl)))
    exact GivesRes.row (p := 4) (u := 5) (er := 1) rfl rfl rfl (by rw [E2.out]) ZB.out (by rw [E2.out]; exact AZ.out) BW.out (by have := HG.out; omega)
  | true =>
    cases r2 with
    | false =>
      have E2 : Hid (z = (zeroRes, 1)) := Lib.hid (by rw [ER.out, if_neg (by simp)])
      clear ER Q3 Q4 C1 C2
      have x0w2 : w2.cell? ⟨g, 0, none⟩ = some (.bool ix) := Blk.cell XB.out 0
      have x1w2 : w2.cell? ⟨g, 1, none⟩ = some (.slice ax nx cx) := Blk.cell XB.out 1
      have x2w2 : w2.cell? ⟨g, 2, none⟩ = some (.slice bx mx dx) := Blk.cell XB.out 2
      have y0w2 : w2.cell? ⟨g + 1, 0, none⟩ = some (.bool iy) := Blk.cell YB.out 0
      have y1w2 : w2.cell? ⟨g + 1, 1, none⟩ = some (.slice ay ny cy) := Blk.cell YB.out 1
      have y2w2 : w2.cell? ⟨g + 1, 2, none⟩ = some (.slice oy my dy) := Blk.cell YB.out 2
      go_wp2_with (first
        | (refine load_res_any (by rfl) (.tmp 2) rfl g rfl XB.out ?_)
        | (refine load_res_any (by rfl) (.tmp 3) rfl (g + 1) rfl YB.out ?_)
        | (go_at_call 17
           refine (Q1.out _ BW.out).mono ?_
           rintro r v1 ⟨rfl, hb1⟩
           replace BW := Lib.hid (Below.step BW.out hb1)
           replace XB := Lib.hid (XB.out.below hb1 XB.out.lt)
           replace YB := Lib.hid (YB.out.below hb1 YB.out.lt)
           replace ZB := Lib.hid (ZB.out.below hb1 ZB.out.lt)
           have x0v1 : v1.cell? ⟨g, 0, none⟩ = some (.bool ix) := Blk.cell XB.out 0
           have x1v1 : v1.cell? ⟨g, 1, none⟩ = some (.slice ax nx cx) := Blk.cell XB.out 1
           have x2v1 : v1.cell? ⟨g, 2, none⟩ = some (.slice bx mx dx) := Blk.cell XB.out 2
           have y0v1 : v1.cell? ⟨g + 1, 0, none⟩ = some (.bool iy) := Blk.cell YB.out 0
           have y1v1 : v1.cell? ⟨g + 1, 1, none⟩ = some (.slice ay ny cy) := Blk.cell YB.out 1
           have y2v1 : v1.cell? ⟨g + 1, 2, none⟩ = some (.slice oy my dy) := Blk.cell YB.out 2
           clear hb1 Q1)
        | (go_at_call 17
           refine (Q2.out _ BW.out).mono ?_
           rintro r v2 ⟨rfl, hb2⟩
           replace BW := Lib.hid (Below.step BW.out hb2)
           replace XB := Lib.hid (XB.out.below hb2 XB.out.lt)
           replace YB := Lib.hid (YB.out.below hb2 YB.out.lt)
           replace ZB := Lib.hid (ZB.out.below hb2 ZB.out.lt)
           have x0v2 : v2.cell? ⟨g, 0, none⟩ = some (.bool ix) := Blk.cell XB.out 0
           have x1v2 : v2.cell? ⟨g, 1, none⟩ = some (.slice ax nx cx) := Blk.cell XB.out 1
           have x2v2 : v2.cell? ⟨g, 2, none⟩ = some (.slice bx mx dx) := Blk.cell XB.out 2
           have y0v2 : v2.cell? ⟨g + 1, 0, none⟩ = some (.bool iy) := Blk.cell YB.out 0
           have y1v2 : v2.cell? ⟨g + 1, 1, none⟩ = some (.slice ay ny cy) := Blk.cell YB.out 1
           have y2v2 : v2.cell? ⟨g + 1, 2, none⟩ = some (.slice oy my dy) := Blk.cell YB.out 2
           clear hb2 Q2)
        | ((with_reducible refine store_res_at 4 19 (g + 1 + 1) false none 0 0 none 0 0 false (.slice none 0 0) (.slice none 0 0) ?_ ?_ ZB.out ?_); (· rfl); (· rfl)))
      exact GivesRes.row (p := 4) (u := 5) (er := 1) rfl rfl rfl (by rw [E2.out]) ZB.out (by rw [E2.out]; exact AZ.out) BW.out (by have := HG.out; omega)
    | true =>
      cases iy with
      | true =>
        have E2 : Hid (z = (zeroRes, 1)) := Lib.hid (by rw [ER.out, if_neg (by simp)])
        clear ER Q3 Q4 C1 C2
        have x0w2 : w2.cell? ⟨g, 0, none⟩ = some (.bool ix) := Blk.cell XB.out 0
        have x1w2 : w2.cell? ⟨g, 1, none⟩ = some (.slice ax nx cx) := Blk.cell XB.out 1
        have x2w2 : w2.cell? ⟨g, 2, none⟩ = some (.slice bx mx dx) := Blk.cell XB.out 2
        have y0w2 : w2.cell? ⟨g + 1, 0, none⟩ = some (.bool true) := Blk.cell YB.out 0
        have y1w2 : w2.cell? ⟨g + 1, 1, none⟩ = some (.slice ay ny cy) := Blk.cell YB.out 1
        have y2w2 : w2.cell? ⟨g + 1, 2, none⟩ = some (.slice oy my dy) := Blk.cell YB.out 2
        go_wp2_with (first
          | (refine load_res_any (by rfl) (.tmp 2) rfl g rfl XB.out ?_)
          | (refine load_res_any (by rfl) (.tmp 3) rfl (g + 1) rfl YB.out ?_)
          | (go_at_call 17
             refine (Q1.out _ BW.out).mono ?_
             rintro r v1 ⟨rfl, hb1⟩
             replace BW := Lib.hid (Below.step BW.out hb1)
             replace XB := Lib.hid (XB.out.below hb1 XB.out.lt)
             replace YB := Lib.hid (YB.out.below hb1 YB.out.lt)
             replace ZB := Lib.hid (ZB.out.below hb1 ZB.out.lt)
             have x0v1 : v1.cell? ⟨g, 0, none⟩ = some (.bool ix) := Blk.cell XB.out 0
             have x1v1 : v1.cell? ⟨g, 1, none⟩ = some (.slice ax nx cx) := Blk.cell XB.out 1
             have x2v1 : v1.cell? ⟨g, 2, none⟩ = some (.slice bx mx dx) := Blk.cell XB.out 2
             have y0v1 : v1.cell? ⟨g + 1, 0, none⟩ = some (.bool true) := Blk.cell YB.out 0
             have y1v1 : v1.cell? ⟨g + 1, 1, none⟩ = some (.slice ay ny cy) := Blk.cell YB.out 1
             have y2v1 : v1.cell? ⟨g + 1, 2, none⟩ = some (.slice oy my dy) := Blk.cell YB.out 2
             clear hb1 Q1)
          | (go_at_call 17
             refine (Q2.out _ BW.out).mono ?_
             rintro r v2 ⟨rfl, hb2⟩
             replace BW := Lib.hid (Below.step BW.out hb2)
             replace XB := Lib.hid (XB.out.below hb2 XB.out.lt)
             replace YB := Lib.hid (YB.out.below hb2 YB.out.lt)
             replace ZB := Lib.hid (ZB.out.below hb2 ZB.out.lt)
             have x0v2 : v2.cell? ⟨g, 0, none⟩ = some (.bool ix) := Blk.cell XB.out 0
             have x1v2 : v2.cell? ⟨g, 1, none⟩ = some (.slice ax nx cx) := Blk.cell XB.out 1
             have x2v2 : v2.cell? ⟨g, 2, none⟩ = some (.slice bx mx dx) := Blk.cell XB.out 2
             have y0v2 : v2.cell? ⟨g + 1, 0, none⟩ = some (.bool true) := Blk.cell YB.out 0
             have y1v2 : v2.cell? ⟨g + 1, 1, none⟩ = some (.slice ay ny cy) := Blk.cell YB.out 1
             have y2v2 : v2.cell? ⟨g + 1, 2, none⟩ = some (.slice oy my dy) := Blk.cell YB.out 2
             clear hb2 Q2)
          | ((with_reducible refine store_res_at 4 19 (g + 1 + 1) false none 0 0 none 0 0 false (.slice none 0 0) (.slice none 0 0) ?_ ?_ ZB.out ?_); (· rfl); (· rfl)))
        exact GivesRes.row (p := 4) (u := 5) (er := 1) rfl rfl rfl (by rw [E2.out]) ZB.out (by rw [E2.out]; exact AZ.out) BW.out (by have := HG.out; omega)
      | false =>
        cases ix with
        | true =>
          have e2 : z = (y, 0) := by rw [ER.out, if_pos (by simp), if_pos rfl]
          have E2 : Hid ((y, (0 : Int)).2 = 0) := Lib.hid rfl
          subst e2
          clear ER Q3 Q4 C1
          have x0w2 : w2.cell? ⟨g, 0, none⟩ = some (.bool true) := Blk.cell XB.out 0
          have x1w2 : w2.cell? ⟨g, 1, none⟩ = some (.slice ax nx cx) := Blk.cell XB.out 1
          have x2w2 : w2.cell? ⟨g, 2, none⟩ = some (.slice bx mx dx) := Blk.cell XB.out 2
          have y0w2 : w2.cell? ⟨g + 1, 0, none⟩ = some (.bool false) := Blk.cell YB.out 0
          have y1w2 : w2.cell? ⟨g + 1, 1, none⟩ = some (.slice ay ny cy) := Blk.cell YB.out 1
          have y2w2 : w2.cell? ⟨g + 1, 2, none⟩ = some (.slice oy my dy) := Blk.cell YB.out 2
          go_wp2_with (first
            | (refine load_res_any (by rfl) (.tmp 2) rfl g rfl XB.out ?_)
            | (refine load_res_any (by rfl) (.tmp 3) rfl (g + 1) rfl YB.out ?_)
            | (go_at_call 17
               refine (Q1.out _ BW.out).mono ?_
               rintro r v1 ⟨rfl, hb1⟩
               replace BW := Lib.hid (Below.step BW.out hb1)
               replace XB := Lib.hid (XB.out.below hb1 XB.out.lt)
               replace YB := Lib.hid (YB.out.below hb1 YB.out.lt)
               replace ZB := Lib.hid (ZB.out.below hb1 ZB.out.lt)
               have x0v1 : v1.cell? ⟨g, 0, none⟩ = some (.bool true) := Blk.cell XB.out 0
               have x1v1 : v1.cell? ⟨g, 1, none⟩ = some (.slice ax nx cx) := Blk.cell XB.out 1
               have x2v1 : v1.cell? ⟨g, 2, none⟩ = some (.slice bx mx dx) := Blk.cell XB.out 2
               have y0v1 : v1.cell? ⟨g + 1, 0, none⟩ = some (.bool false) := Blk.cell YB.out 0
               have y1v1 : v1.cell? ⟨g + 1, 1, none⟩ = some (.slice ay ny cy) := Blk.cell YB.out 1
               have y2v1 : v1.cell? ⟨g + 1, 2, none⟩ = some (.slice oy my dy) := Blk.cell YB.out 2
               clear hb1 Q1)
            | (go_at_call 17
               refine (Q2.out _ BW.out).mono ?_
               rintro r v2 ⟨rfl, hb2⟩
               replace BW := Lib.hid (Below.step BW.out hb2)
               replace XB := Lib.hid (XB.out.below hb2 XB.out.lt)
               replace YB := Lib.hid (YB.out.below hb2 YB.out.lt)
               replace ZB := Lib.hid (ZB.out.below hb2 ZB.out.lt)
               have x0v2 : v2.cell? ⟨g, 0, none⟩ = some (.bool true) := Blk.cell XB.out 0
               have x1v2 : v2.cell? ⟨g, 1, none⟩ = some (.slice ax nx cx) := Blk.cell XB.out 1
               have x2v2 : v2.cell? ⟨g, 2, none⟩ = some (.slice bx mx dx) := Blk.cell XB.out 2
               have y0v2 : v2.cell? ⟨g + 1, 0, none⟩ = some (.bool false) := Blk.cell YB.out 0
               have y1v2 : v2.cell? ⟨g + 1, 1, none⟩ = some (.slice ay ny cy) := Blk.cell YB.out 1
               have y2v2 : v2.cell? ⟨g + 1, 2, none⟩ = some (.slice oy my dy) := Blk.cell YB.out 2
               clear hb2 Q2)
            | (go_at_call 45
               refine (C2.out _ BW.out).mono ?_
               rintro r v5 ⟨p5, s5, q5, t5, k5, l5, rfl, hs5, hr5, hb5⟩
               have ZL := Lib.hid ZB.out.lt
               have A5 := Lib.hid hs5
               have R5 := Lib.hid hr5
               replace BW := Lib.hid (Below.step BW.out hb5)
               replace XB := Lib.hid (XB.out.below hb5 XB.out.lt)
               replace YB := Lib.hid (YB.out.below hb5 YB.out.lt)
               replace ZB := Lib.hid (ZB.out.below hb5 ZB.out.lt)
               clear hb5 hs5 hr5 C2)
            | ((with_reducible refine store_res_at 4 24 (g + 1 + 1) y.inh p5 s5 q5 t5 k5 l5 false (.slice none 0 0) (.slice none 0 0) ?_ ?_ ZB.out ?_); (· rfl); (· rfl)))
          exact GivesRes.row2 (x := (y, 0)) (p := 4) (u := 5) (er := 0) rfl rfl rfl rfl rfl ZB.out A5.out R5.out ZL.out BW.out (by have := HG.out; omega)
        | false =>
          cases i1 with
          | false =>
            have E2 : Hid (z = (zeroRes, 9)) := Lib.hid (by rw [ER.out, if_pos (by simp), if_neg (by simp), if_neg (by simp)])
            clear ER Q4 C1 C2
            have x0w2 : w2.cell? ⟨g, 0, none⟩ = some (.bool false) := Blk.cell XB.out 0
            have x1w2 : w2.cell? ⟨g, 1, none⟩ = some (.slice ax nx cx) := Blk.cell XB.out 1
            have x2w2 : w2.cell? ⟨g, 2, none⟩ = some (.slice bx mx dx) := Blk.cell XB.out 2
            have y0w2 : w2.cell? ⟨g + 1, 0, none⟩ = some (.bool false) := Blk.cell YB.out 0
            have y1w2 : w2.cell? ⟨g + 1, 1, none⟩ = some (.slice ay ny cy) := Blk.cell YB.out 1
            have y2w2 : w2.cell? ⟨g + 1, 2, none⟩ = some (.slice oy my dy) := Blk.cell YB.out 2
            go_wp2_with (first
              | (refine load_res_any (by rfl) (.tmp 2) rfl g rfl XB.out ?_)
              | (refine load_res_any (by rfl) (.tmp 3) rfl (g + 1) rfl YB.out ?_)
              | (go_at_call 17
                 refine (Q1.out _ BW.out).mono ?_
                 rintro r v1 ⟨rfl, hb1⟩
                 replace BW := Lib.hid (Below.step BW.out hb1)
                 replace XB := Lib.hid (XB.out.below hb1 XB.out.lt)
                 replace YB := Lib.hid (YB.out.below hb1 YB.out.lt)
                 replace ZB := Lib.hid (ZB.out.below hb1 ZB.out.lt)
                 have x0v1 : v1.cell? ⟨g, 0, none⟩ = some (.bool false) := Blk.cell XB.out 0
                 have x1v1 : v1.cell? ⟨g, 1, none⟩ = some (.slice ax nx cx) := Blk.cell XB.out 1
                 have x2v1 : v1.cell? ⟨g, 2, none⟩ = some (.slice bx mx dx) := Blk.cell XB.out 2
                 have y0v1 : v1.cell? ⟨g + 1, 0, none⟩ = some (.bool false) := Blk.cell YB.out 0
                 have y1v1 : v1.cell? ⟨g + 1, 1, none⟩ = some (.slice ay ny cy) := Blk.cell YB.out 1
                 have y2v1 : v1.cell? ⟨g + 1, 2, none⟩ = some (.slice oy my dy) := Blk.cell YB.out 2
                 clear hb1 Q1)
              | (go_at_call 17
                 refine (Q2.out _ BW.out).mono ?_
                 rintro r v2 ⟨rfl, hb2⟩
                 replace BW := Lib.hid (Below.step BW.out hb2)
                 replace XB := Lib.hid (XB.out.below hb2 XB.out.lt)
                 replace YB := Lib.hid (YB.out.below hb2 YB.out.lt)
                 replace ZB := Lib.hid (ZB.out.below hb2 ZB.out.lt)
                 have x0v2 : v2.cell? ⟨g, 0, none⟩ = some (.bool false) := Blk.cell XB.out 0
                 have x1v2 : v2.cell? ⟨g, 1, none⟩ = some (.slice ax nx cx) := Blk.cell XB.out 1
                 have x2v2 : v2.cell? ⟨g, 2, none⟩ = some (.slice bx mx dx) := Blk.cell XB.out 2
                 have y0v2 : v2.cell? ⟨g + 1, 0, none⟩ = some (.bool false) := Blk.cell YB.out 0
                 have y1v2 : v2.cell? ⟨g + 1, 1, none⟩ = some (.slice ay ny cy) := Blk.cell YB.out 1
                 have y2v2 : v2.cell? ⟨g + 1, 2, none⟩ = some (.slice oy my dy) := Blk.cell YB.out 2
                 clear hb2 Q2)
              | (go_at_call 46
                 refine (Q3.out _ BW.out).mono ?_
                 rintro r v3 ⟨rfl, hb3⟩
                 replace BW := Lib.hid (Below.step BW.out hb3)
                 replace XB := Lib.hid (XB.out.below hb3 XB.out.lt)
                 replace YB := Lib.hid (YB.out.below hb3 YB.out.lt)
                 replace ZB := Lib.hid (ZB.out.below hb3 ZB.out.lt)
                 have x0v3 : v3.cell? ⟨g, 0, none⟩ = some (.bool false) := Blk.cell XB.out 0
                 have x1v3 : v3.cell? ⟨g, 1, none⟩ = some (.slice ax nx cx) := Blk.cell XB.out 1
                 have x2v3 : v3.cell? ⟨g, 2, none⟩ = some (.slice bx mx dx) := Blk.cell XB.out 2
                 have y0v3 : v3.cell? ⟨g + 1, 0, none⟩ = some (.bool false) := Blk.cell YB.out 0
                 have y1v3 : v3.cell? ⟨g + 1, 1, none⟩ = some (.slice ay ny cy) := Blk.cell YB.out 1
                 have y2v3 : v3.cell? ⟨g + 1, 2, none⟩ = some (.slice oy my dy) := Blk.cell YB.out 2
                 clear hb3 Q3)
              | ((with_reducible refine store_res_at 4 40 (g + 1 + 1) false none 0 0 none 0 0 false (.slice none 0 0) (.slice none 0 0) ?_ ?_ ZB.out ?_); (· rfl); (· rfl)))
            exact GivesRes.row (p := 4) (u := 5) (er := 9) rfl rfl rfl (by rw [E2.out]) ZB.out (by rw [E2.out]; exact AZ.out) BW.out (by have := HG.out; omega)
          | true =>
            cases i2 with
            | false =>
              have E2 : Hid (z = (zeroRes, 9)) := Lib.hid (by rw [ER.out, if_pos (by simp), if_neg (by simp), if_neg (by simp)])
              clear ER C1 C2
              have x0w2 : w2.cell? ⟨g, 0, none⟩ = some (.bool false) := Blk.cell XB.out 0
              have x1w2 : w2.cell? ⟨g, 1, none⟩ = some (.slice ax nx cx) := Blk.cell XB.out 1
              have x2w2 : w2.cell? ⟨g, 2, none⟩ = some (.slice bx mx dx) := Blk.cell XB.out 2
              have y0w2 : w2.cell? ⟨g + 1, 0, none⟩ = some (.bool false) := Blk.cell YB.out 0
              have y1w2 : w2.cell? ⟨g + 1, 1, none⟩ = some (.slice ay ny cy) := Blk.cell YB.out 1
              have y2w2 : w2.cell? ⟨g + 1, 2, none⟩ = some (.slice oy my dy) := Blk.cell YB.out 2
              go_wp2_with (first
                | (refine load_res_any (by rfl) (.tmp 2) rfl g rfl XB.out ?_)
                | (refine load_res_any (by rfl) (.tmp 3) rfl (g + 1) rfl YB.out ?_)
                | (go_at_call 17
                   refine (Q1.out _ BW.out).mono ?_
                   rintro r v1 ⟨rfl, hb1⟩
                   replace BW := Lib.hid (Below.step BW.out hb1)
                   replace XB := Lib.hid (XB.out.below hb1 XB.out.lt)
                   replace YB := Lib.hid (YB.out.below hb1 YB.out.lt)
                   replace ZB := Lib.hid (ZB.out.below hb1 ZB.out.lt)
                   have x0v1 : v1.cell? ⟨g, 0, none⟩ = some (.bool false) := Blk.cell XB.out 0
                   have x1v1 : v1.cell? ⟨g, 1, none⟩ = some (.slice ax nx cx) := Blk.cell XB.out 1
                   have x2v1 : v1.cell? ⟨g, 2, none⟩ = some (.slice bx mx dx) := Blk.cell XB.out 2
                   have y0v1 : v1.cell? ⟨g + 1, 0, none⟩ = some (.bool false) := Blk.cell YB.out 0
                   have y1v1 : v1.cell? ⟨g + 1, 1, none⟩ = some (.slice ay ny cy) := Blk.cell YB.out 1
                   have y2v1 : v1.cell? ⟨g + 1, 2, none⟩ = some (.slice oy my dy) := Blk.cell YB.out 2
                   clear hb1 Q1)
                | (go_at_call 17
                   refine (Q2.out _ BW.out).mono ?_
                   rintro r v2 ⟨rfl, hb2⟩
                   replace BW := Lib.hid (Below.step BW.out hb2)
                   replace XB := Lib.hid (XB.out.below hb2 XB.out.lt)
                   replace YB := Lib.hid (YB.out.below hb2 YB.out.lt)
                   replace ZB := Lib.hid (ZB.out.below hb2 ZB.out.lt)
                   have x0v2 : v2.cell? ⟨g, 0, none⟩ = some (.bool false) := Blk.cell XB.out 0
                   have x1v2 : v2.cell? ⟨g, 1, none⟩ = some (.slice ax nx cx) := Blk.cell XB.out 1
                   have x2v2 : v2.cell? ⟨g, 2, none⟩ = some (.slice bx mx dx) := Blk.cell XB.out 2
                   have y0v2 : v2.cell? ⟨g + 1, 0, none⟩ = some (.bool false) := Blk.cell YB.out 0
                   have y1v2 : v2.cell? ⟨g + 1, 1, none⟩ = some (.slice ay ny cy) := Blk.cell YB.out 1
                   have y2v2 : v2.cell? ⟨g + 1, 2, none⟩ = some (.slice oy my dy) := Blk.cell YB.out 2
                   clear hb2 Q2)
                | (go_at_call 46
                   refine (Q3.out _ BW.out).mono ?_
                   rintro r v3 ⟨rfl, hb3⟩
                   replace BW := Lib.hid (Below.step BW.out hb3)
                   replace XB := Lib.hid (XB.out.below hb3 XB.out.lt)
                   replace YB := Lib.hid (YB.out.below hb3 YB.out.lt)
                   replace ZB := Lib.hid (ZB.out.below hb3 ZB.out.lt)
                   have x0v3 : v3.cell? ⟨g, 0, none⟩ = some (.bool false) := Blk.cell XB.out 0
                   have x1v3 : v3.cell? ⟨g, 1, none⟩ = some (.slice ax nx cx) := Blk.cell XB.out 1
                   have x2v3 : v3.cell? ⟨g, 2, none⟩ = some (.slice bx mx dx) := Blk.cell XB.out 2
                   have y0v3 : v3.cell? ⟨g + 1, 0, none⟩ = some (.bool false) := Blk.cell YB.out 0
                   have y1v3 : v3.cell? ⟨g + 1, 1, none⟩ = some (.slice ay ny cy) := Blk.cell YB.out 1
                   have y2v3 : v3.cell? ⟨g + 1, 2, none⟩ = some (.slice oy my dy) := Blk.cell YB.out 2
                   clear hb3 Q3)
                | (go_at_call 47
                   refine (Q4.out _ BW.out).mono ?_
                   rintro r v4 ⟨rfl, hb4⟩
                   replace BW := Lib.hid (Below.step BW.out hb4)
                   replace XB := Lib.hid (XB.out.below hb4 XB.out.lt)
                   replace YB := Lib.hid (YB.out.below hb4 YB.out.lt)
                   replace ZB := Lib.hid (ZB.out.below hb4 ZB.out.lt)
                   have x0v4 : v4.cell? ⟨g, 0, none⟩ = some (.bool false) := Blk.cell XB.out 0
                   have x1v4 : v4.cell? ⟨g, 1, none⟩ = some (.slice ax nx cx) := Blk.cell XB.out 1
                   have x2v4 : v4.cell? ⟨g, 2, none⟩ = some (.slice bx mx dx) := Blk.cell XB.out 2
                   have y0v4 : v4.cell? ⟨g + 1, 0, none⟩ = some (.bool false) := Blk.cell YB.out 0
                   have y1v4 : v4.cell? ⟨g + 1, 1, none⟩ = some (.slice ay ny cy) := Blk.cell YB.out 1
                   have y2v4 : v4.cell? ⟨g + 1, 2, none⟩ = some (.slice oy my dy) := Blk.cell YB.out 2
                   clear hb4 Q4)
                | ((with_reducible refine store_res_at 4 40 (g + 1 + 1) false none 0 0 none 0 0 false (.slice none 0 0) (.slice none 0 0) ?_ ?_ ZB.out ?_); (· rfl); (· rfl)))
              exact GivesRes.row (p := 4) (u := 5) (er := 9) rfl rfl rfl (by rw [E2.out]) ZB.out (by rw [E2.out]; exact AZ.out) BW.out (by have := HG.out; omega)
            | true =>
              have e2 : z = (x, 0) := by rw [ER.out, if_pos (by simp), if_neg (by simp), if_pos (by simp)]
              have E2 : Hid ((x, (0 : Int)).2 = 0) := Lib.hid rfl
              subst e2
              clear ER C2
              have x0w2 : w2.cell? ⟨g, 0, none⟩ = some (.bool false) := Blk.cell XB.out 0
              have x1w2 : w2.cell? ⟨g, 1, none⟩ = some (.slice ax nx cx) := Blk.cell XB.out 1
              have x2w2 : w2.cell? ⟨g, 2, none⟩ = some (.slice bx mx dx) := Blk.cell XB.out 2
              have y0w2 : w2.cell? ⟨g + 1, 0, none⟩ = some (.bool false) := Blk.cell YB.out 0
              have y1w2 : w2.cell? ⟨g + 1, 1, none⟩ = some (.slice ay ny cy) := Blk.cell YB.out 1
              have y2w2 : w2.cell? ⟨g + 1, 2, none⟩ = some (.slice oy my dy) := Blk.cell YB.out 2
              go_wp2_with (first
                | (refine load_res_any (by rfl) (.tmp 2) rfl g rfl XB.out ?_)
                | (refine load_res_any (by rfl) (.tmp 3) rfl (g + 1) rfl YB.out ?_)
                | (go_at_call 17
                   refine (Q1.out _ BW.out).mono ?_
                   rintro r v1 ⟨rfl, hb1⟩
                   replace BW := Lib.hid (Below.step BW.out hb1)
                   replace XB := Lib.hid (XB.out.below hb1 XB.out.lt)
                   replace YB := Lib.hid (YB.out.below hb1 YB.out.lt)
                   replace ZB := Lib.hid (ZB.out.below hb1 ZB.out.lt)
                   have x0v1 : v1.cell? ⟨g, 0, none⟩ = some (.bool false) := Blk.cell XB.out 0
                   have x1v1 : v1.cell? ⟨g, 1, none⟩ = some (.slice ax nx cx) := Blk.cell XB.out 1
                   have x2v1 : v1.cell? ⟨g, 2, none⟩ = some (.slice bx mx dx) := Blk.cell XB.out 2
                   have y0v1 : v1.cell? ⟨g + 1, 0, none⟩ = some (.bool false) := Blk.cell YB.out 0
                   have y1v1 : v1.cell? ⟨g + 1, 1, none⟩ = some (.slice ay ny cy) := Blk.cell YB.out 1
                   have y2v1 : v1.cell? ⟨g + 1, 2, none⟩ = some (.slice oy my dy) := Blk.cell YB.out 2
                   clear hb1 Q1)
                | (go_at_call 17
                   refine (Q2.out _ BW.out).mono ?_
                   rintro r v2 ⟨rfl, hb2⟩
                   replace BW := Lib.hid (Below.step BW.out hb2)
                   replace XB := Lib.hid (XB.out.below hb2 XB.out.lt)
                   replace YB := Lib.hid (YB.out.below hb2 YB.out.lt)
                   replace ZB := Lib.hid (ZB.out.below hb2 ZB.out.lt)
                   have x0v2 : v2.cell? ⟨g, 0, none⟩ = some (.bool false) := Blk.cell XB.out 0
                   have x1v2 : v2.cell? ⟨g, 1, none⟩ = some (.slice ax nx cx) := Blk.cell XB.out 1
                   have x2v2 : v2.cell? ⟨g, 2, none⟩ = some (.slice bx mx dx) := Blk.cell XB.out 2
                   have y0v2 : v2.cell? ⟨g + 1, 0, none⟩ = some (.bool false) := Blk.cell YB.out 0
                   have y1v2 : v2.cell? ⟨g + 1, 1, none⟩ = some (.slice ay ny cy) := Blk.cell YB.out 1
                   have y2v2 : v2.cell? ⟨g + 1, 2, none⟩ = some (.slice oy my dy) := Blk.cell YB.out 2
                   clear hb2 Q2)
                | (go_at_call 46
                   refine (Q3.out _ BW.out).mono ?_
                   rintro r v3 ⟨rfl, hb3⟩
                   replace BW := Lib.hid (Below.step BW.out hb3)
                   replace XB := Lib.hid (XB.out.below hb3 XB.out.lt)
                   replace YB := Lib.hid (YB.out.below hb3 YB.out.lt)
                   replace ZB := Lib.hid (ZB.out.below hb3 ZB.out.lt)
                   have x0v3 : v3.cell? ⟨g, 0, none⟩ = some (.bool false) := Blk.cell XB.out 0
                   have x1v3 : v3.cell? ⟨g, 1, none⟩ = some (.slice ax nx cx) := Blk.cell XB.out 1
                   have x2v3 : v3.cell? ⟨g, 2, none⟩ = some (.slice bx mx dx) := Blk.cell XB.out 2
                   have y0v3 : v3.cell? ⟨g + 1, 0, none⟩ = some (.bool false) := Blk.cell YB.out 0
                   have y1v3 : v3.cell? ⟨g + 1, 1, none⟩ = some (.slice ay ny cy) := Blk.cell YB.out 1
                   have y2v3 : v3.cell? ⟨g + 1, 2, none⟩ = some (.slice oy my dy) := Blk.cell YB.out 2
                   clear hb3 Q3)
                | (go_at_call 47
                   refine (Q4.out _ BW.out).mono ?_
                   rintro r v4 ⟨rfl, hb4⟩
                   replace BW := Lib.hid (Below.step BW.out hb4)
                   replace XB := Lib.hid (XB.out.below hb4 XB.out.lt)
                   replace YB := Lib.hid (YB.out.below hb4 YB.out.lt)
                   replace ZB := Lib.hid (ZB.out.below hb4 ZB.out.lt)
                   have x0v4 : v4.cell? ⟨g, 0, none⟩ = some (.bool false) := Blk.cell XB.out 0
                   have x1v4 : v4.cell? ⟨g, 1, none⟩ = some (.slice ax nx cx) := Blk.cell XB.out 1
                   have x2v4 : v4.cell? ⟨g, 2, none⟩ = some (.slice bx mx dx) := Blk.cell XB.out 2
                   have y0v4 : v4.cell? ⟨g + 1, 0, none⟩ = some (.bool false) := Blk.cell YB.out 0
                   have y1v4 : v4.cell? ⟨g + 1, 1, none⟩ = some (.slice ay ny cy) := Blk.cell YB.out 1
                   have y2v4 : v4.cell? ⟨g + 1, 2, none⟩ = some (.slice oy my dy) := Blk.cell YB.out 2
                   clear hb4 Q4)
                | (go_at_call 45
                   refine (C1.out _ BW.out).mono ?_
                   rintro r v5 ⟨p5, s5, q5, t5, k5, l5, rfl, hs5, hr5, hb5⟩
                   have ZL := Lib.hid ZB.out.lt
                   have A5 := Lib.hid hs5
                   have R5 := Lib.hid hr5
                   replace BW := Lib.hid (Below.step BW.out hb5)
                   replace XB := Lib.hid (XB.out.below hb5 XB.out.lt)
                   replace YB := Lib.hid (YB.out.below hb5 YB.out.lt)
                   replace ZB := Lib.hid (ZB.out.below hb5 ZB.out.lt)
                   clear hb5 hs5 hr5 C1)
                | ((with_reducible refine store_res_at 4 42 (g + 1 + 1) x.inh p5 s5 q5 t5 k5 l5 false (.slice none 0 0) (.slice none 0 0) ?_ ?_ ZB.out ?_); (· rfl); (· rfl)))
              exact GivesRes.row2 (x := (x, 0)) (p := 4) (u := 5) (er := 0) rfl rfl rfl rfl rfl ZB.out A5.out R5.out ZL.out BW.out (by have := HG.out; omega)
set_option maxHeartbeats 2000000 in
theorem has13_any (r : ResZ) (p : PfZ) (v : Value) (w : World) (h : ResAt w v r) (hp : Sixteen p.a) (l0 : -9223372036854775808 ≤ p.l) (l1 : p.l ≤ 9223372036854775807) (hl : r.sp.length ≤ 40000) : Calls Tryz.prog 21 #[v, .agg (pcells p.v p.a p.l)] w fun e w' => e = .returned (.bool (hasR r p)) ∧ Below w.heap.size w w' := by
  obtain ⟨a, n, c, b, m, d, rfl, h1, h2⟩ := h
  have BX := Blk.alloc (resbox w r.inh (.slice a n c) (.slice b m d)) (.cells (pcells p.v p.a p.l) 43)
  have BP := pbox (w.alloc (.cells (resC r.inh (.slice a n c) (.slice b m d)) 25)) p.v p.a p.l
  have s1 : (w.alloc (.cells (resC r.inh (.slice a n c) (.slice b m d)) 25)).heap.size = w.heap.size + 1 := by simp
  rw [s1] at BP
  have bw := Below.step (boxR_below w (.cells (resC r.inh (.slice a n c) (.slice b m d)) 25)) (boxR_below _ (.cells (pcells p.v p.a p.l) 43))
  have hn := h1.1.1
  have Q1 := Lib.hid (fun W => of_any p.v p.a p.l W hp l0 l1)
  have Q3 := Lib.hid (fun W => right_any p.v p.a p.l W hp l0 l1)
  have S6 := Lib.hid (ofS_six (v := p.v) (L := p.l) hp)
  have Q2 := Lib.hid (fun g W (k : SpRow W (some ⟨g, 0, none⟩) 1 [ofS p.v p.a p.l]) (hb : Below w.heap.size w W) => within_any (some ⟨g, 0, none⟩) a 1 1 n c [ofS p.v p.a p.l] r.sp W k (fun e => by cases e) (by omega) (h1.below hb).1 h1.2 (by omega))
  have EH : Hid (hasR r p = (rightA p.v p.a p.l && inS [ofS p.v p.a p.l] r.sp)) := Lib.hid rfl
  have SP := Lib.hid (Tryz.sizeP (v := p.v) (L := p.l) hp.1)
  have BW := Lib.hid bw
  clear bw s1 h1 h2 hn l0 l1 hl
  generalize hw2 : (w.alloc (.cells (resC r.inh (.slice a n c) (.slice b m d)) 25)).alloc (.cells (pcells p.v p.a p.l) 43) = w2 at *
  obtain ⟨g, hg⟩ : ∃ g, w.heap.size = g := ⟨_, rfl⟩
  rw [hg] at BX BP
  have XB := Lib.hid BX
  have PB : Hid (Blk w2 (g + 1) 43 (pcells p.v p.a p.l)) := Lib.hid BP
  clear BX BP
  generalize hasR r p = z at *
  generalize inS [ofS p.v p.a p.l] r.sp = i1 at *
  have SS := Lib.hid (Tryz.sizeS S6.out)
  have SO := Lib.hid (scells_one (ofS p.v p.a p.l))
  have SZ : Hid ((scells zeroS).size = (scells (ofS p.v p.a p.l)).size) := Lib.hid (by rw [scells_size S6.out, scells_size zeroS_six])
  generalize ofS p.v p.a p.l = s at *
  generalize ofE p.v p.a p.l = e0 at *
  generalize rightA p.v p.a p.l = ra at *
  generalize pcells p.v p.a p.l = PC at *
  go_enter Tryz.func21, Tryz.ntmps21
  go_upto_region 1 with fail
  clear hw2
  go_upto_region 2 with (first
    | (refine wpList_load_row rfl 43 (.tmp 3) rfl (g + 1) rfl 43 PC (0, 0) _ PB.out Tryz.underlying43 rfl SP.out ?_)
    | (go_at_call 50
       refine (Q1.out _).mono ?_
       rintro r v1 ⟨rfl, hb1⟩
       have AZ : Hid (Blk (v1.alloc (.cells (scells zeroS) 62)) v1.heap.size 62 (scells zeroS)) := Lib.hid (sbox v1 zeroS)
       have B3 := Lib.hid (Below.step (Below.step BW.out hb1) (boxR_below v1 (.cells (scells s) 62)))
       have X3 := Lib.hid ((XB.out.below hb1 XB.out.lt).alloc (.cells (scells s) 62))
       have P3 := Lib.hid (Blk.alloc (PB.out.below hb1 PB.out.lt) (.cells (scells s) 62))
       have S3 : Hid (Blk (v1.alloc (.cells (scells s) 62)) v1.heap.size 62 (scells s)) := Lib.hid (sbox v1 s)
       clear hb1 Q1 BW XB PB)
    | (refine Great.wpList_allocTo rfl (some 5) rfl (.pointer (some ⟨v1.heap.size, 0, none⟩)) (.cells (scells zeroS) 62) (alloc_span_run rfl) ?_)
    | (refine wpList_store_rowTo rfl 62 (.tmp 5) (.tmp 10) rfl rfl v1.heap.size (scells s) rfl rfl 62 (scells zeroS) AZ.out SS.out SZ.out SO.out ?_; rw [alloc_setRow]))
  clear AZ
  generalize v1.alloc (.cells (scells s) 62) = w3 at *
  generalize v1.heap.size = g5 at *
  cases ra with
  | false =>
    have e := EH.out
    rw [Bool.false_and] at e
    subst e
    clear EH
    go_wp2_with (first
      | (refine wpList_load_row rfl 43 (.tmp 3) rfl (g + 1) rfl 43 PC (0, 0) _ P3.out Tryz.underlying43 rfl SP.out ?_)
      | (go_at_call 24
         refine (Q3.out _).mono ?_
         rintro r v4 ⟨rfl, hb4⟩
         have B4 := Lib.hid (Below.step B3.out hb4)
         clear hb4 Q3))
    go_ret
    exact ⟨rfl, B4.out⟩
  | true =>
    have e := EH.out
    rw [Bool.true_and] at e
    subst e
    clear EH
    go_wp2_with (first
      | (refine wpList_load_row rfl 43 (.tmp 3) rfl (g + 1) rfl 43 PC (0, 0) _ P3.out Tryz.underlying43 rfl SP.out ?_)
      | (go_at_call 24
         refine (Q3.out _).mono ?_
         rintro r v4 ⟨rfl, hb4⟩
         have B4 := Lib.hid (Below.step B3.out hb4)
         have X4 := Lib.hid (X3.out.below hb4 X3.out.lt)
         have S4 := Lib.hid (S3.out.below hb4 S3.out.lt)
         clear hb4 Q3)
      | (refine wpList_load_rowG (by rfl) 62 (.tmp 5) rfl g5 rfl 62 (scells s) (0, 0) _ S4.out Tryz.underlying62 rfl SS.out ?_)
      | (refine one_span_g (by rfl) s S6.out #[(0, .tmp 15)] rfl (by kernel_rfl) ?_
         intro g6 w6 hr6 hb6
         have R6 := Lib.hid hr6
         have B6 := Lib.hid (Below.step B4.out hb6)
         have x6 : w6.cell? ⟨g, 1, none⟩ = some (.slice a n c) := Blk.cell (X4.out.below hb6 X4.out.lt) 1
         clear hr6 hb6)
      | (go_at_call 46
         refine (Q2.out _ _ R6.out B6.out).mono ?_
         rintro r v7 ⟨rfl, hb7⟩
         have B7 := Lib.hid (Below.step B6.out hb7)
         clear hb7 Q2))
    go_ret
    exact ⟨rfl, B7.out⟩
end Go.Proofs.YtlmndmfebgaidaaGreatDoor
namespace Go.Proofs.YtlmndmfebgaidaaGreatDoor
open Go.RowKit
set_option linter.unusedVariables false
theorem gives_copye {w W W0 : World} {tmps : Array Value} {fn : Func} {p u : Tmp} {x : T × Int} {er : Int} {A : Option Addr} {n c : Nat} {K : Option Addr} {m d : Nat} (hx : x.2 = er) (hf : fn.results = #[.cell p 29, .tmp u]) (hp : tmps.getD p undef = .pointer (some ⟨w.heap.size, 0, none⟩)) (hu : tmps.getD u undef = .int .i64 er) (hrb : RB w W) (hin : x.1.InP (W0.heap.size ≤ ·) W (.agg #[.int .i64 x.1.tag, .slice A n c, .slice K m d])) (hW : w.heap.size < W0.heap.size) :
    bodyPost Tryz.prog fn (GivesNodeE x w) .ret { tmps := tmps, defers := [] } (boxed w W (.int .i64 x.1.tag) (.slice A n c) (.slice K m d)) := by
  obtain ⟨h1, h2⟩ := hrb.boxed (.int .i64 x.1.tag) (.slice A n c) (.slice K m d)
  have h := results_nodee (P := Tryz.prog) hf tmps (boxed w W (.int .i64 x.1.tag) (.slice A n c) (.slice K m d)) w.heap.size 29 #[.int .i64 x.1.tag, .slice A n c, .slice K m d] (0, 0) _ hp h1 Tryz.underlying29 rfl Tryz.sizeNode3
  rw [hu, ← hx] at h
  exact bodyPost_ret h rfl ⟨A, n, c, K, m, d, rfl, boxed_in hin hW _ _ _, h2⟩
set_option maxHeartbeats 1000000 in
theorem uint1_any (x : Int) (w : World) (h0 : 0 ≤ x) (h1 : x ≤ 18446744073709551615) : Calls Tryz.prog 121 #[.int .u64 x] w (GivesNodeE (intT x, 0) w) := by
  have S0 := Lib.hid (RB.start w)
  go_enter Tryz.func121, Tryz.ntmps121
  go_wp2_with fail
  refine (int_any x _ h0 h1).mono ?_
  rintro e w3 ⟨A, n3, c3, K, m3, d3, rfl, hin, hb3⟩
  have S3 := Lib.hid (S0.out.go hb3)
  have IN := Lib.hid hin
  have W2 := Lib.hid (S0.out.box.lt)
  obtain ⟨p0, p1, p2, f0, f1, f2⟩ := S3.out.box.six
  clear hin hb3
  go_wp2_with fail
  exact gives_copye (x := (intT x, 0)) rfl rfl rfl rfl S3.out IN.out W2.out
set_option maxHeartbeats 2000000 in
set_option maxRecDepth 100000 in
theorem uint_any (t : T) (v : Value) (w : World) (hin : t.In w v) (hwt : t.body.length ≤ 1000000) : Calls Tryz.prog 109 #[v] w (GivesUint (uintZ t) w) := by
  obtain ⟨A, n, c, K, m, d, rfl, hw, hr, hn, hc, hm, hm', hks⟩ := hin.open
  have B2 := Lib.hid (Box.start hin)
  have GZ : Hid (uintZ t = if (numZ 0 t.body).2 = true ∧ sameT t (intT (numZ 0 t.body).1) = true then ((numZ 0 t.body).1, 0) else (0, 2)) := rfl
  have NR := numZ_range t.body hr.2.1 0 (by omega) (by omega)
  have hl := hr.1
  have CN := Lib.hid (num_any A n c t.body _ (hr.below B2.out.below) (by omega))
  obtain ⟨g0, g1, g2⟩ := B2.out.cells
  clear hr hks hc hin hm hm' hw hn hl
  generalize (numZ 0 t.body).1 = x at *
  generalize hz : (numZ 0 t.body).2 = is at *
  clear hz
  go_enter Tryz.func109, Tryz.ntmps109
  generalize hw2 : w.alloc (.cells #[.int .i64 t.tag, .slice A n c, .slice K m d] 29) = w2 at *
  go_wp2_with fail
  refine CN.out.mono ?_
  rintro e w3 ⟨rfl, rfl⟩
  clear hw2 CN
  cases is
  · have F : Hid (uintZ t = (0, 2)) := by rw [GZ.out]; simp [Hid]
    clear GZ
    go_wp2_with fail
    go_ret2
    exact GivesUint.of F.out B2.out.below
  have GX : Hid (uintZ t = if sameT t (intT x) = true then (x, 0) else (0, 2)) := by rw [GZ.out]; simp [Hid]
  clear GZ
  have CX := Lib.hid (exact_u64 t _ w3 (intT x, 0) x rfl B2.out.has (fun W hW => (uint1_any x W NR.1 NR.2).mono fun e w' h => h.has))
  go_wp2_with fail
  refine CX.out.mono ?_
  intro e w4 h4
  clear CX
  rcases h4.ways with ⟨hok, rfl, hb4⟩ | ⟨hok, rfl, hb4⟩
  · have F : Hid (uintZ t = (x, 0)) := by
      rw [GX.out, if_pos ((same_iff _ _).2 ((ok_iff _ _).1 hok).2.symm)]
      exact Lib.hid rfl
    have B4 := Lib.hid (Below.step B2.out.below hb4)
    clear hok hb4 h4 GX
    go_wp2_with fail
    go_ret2
    exact GivesUint.of F.out B4.out
  · have F : Hid (uintZ t = (0, 2)) := by
      rw [GX.out, if_neg (fun k => (ok_iff_not _ _).1 hok ⟨rfl, ((same_iff _ _).1 k).symm⟩)]
      exact Lib.hid rfl
    have B4 := Lib.hid (Below.step B2.out.below hb4)
    clear hok hb4 h4 GX
    go_wp2_with fail
    go_ret2
    exact GivesUint.of F.out B4.out
end Go.Proofs.YtlmndmfebgaidaaGreatDoor
namespace Go.Proofs.YtlmndmfebgaidaaGreatDoor
open Go.RowKit
set_option linter.unusedVariables false
set_option linter.unusedSimpArgs false
set_option maxRecDepth 100000
def KidsAt (P : Nat → Prop) (w : World) (A : Option Addr) (n c : Nat) (ts : List T) : Prop := ts.length = n ∧ (A = none → n = 0 ∧ c = 0) ∧ (0 < n → ∃ b off, A = some ⟨b, off, none⟩ ∧ b < w.heap.size ∧ T.InPAll P w ts b off)
def GivesKids (ts : List T) (w : World) (e : Ending) (w' : World) : Prop := ∃ A n c, e = .returned (.slice A n c) ∧ KidsAt (w.heap.size ≤ ·) w' A n c ts ∧ Below w.heap.size w w'
theorem KidsAt.nil (P : Nat → Prop) (w : World) : KidsAt P w none 0 0 [] := ⟨rfl, fun _ => ⟨rfl, rfl⟩, fun h => absurd h (by omega)⟩
theorem T.InPAll.keep {P Q : Nat → Prop} {w w' : World} (hP : ∀ b, b < w.heap.size → P b → Q b ∧ w'.heap[b]? = w.heap[b]?) (hs : w.heap.size ≤ w'.heap.size) {ts : List T} {b off : Nat} (hb : w'.heap[b]? = w.heap[b]?) (h : T.InPAll P w ts b off) : T.InPAll Q w' ts b off :=
  T.InPAll.of fun i hi => by
    obtain ⟨v0, v1, v2, h0, h1, h2, h3⟩ := h.at i hi
    refine ⟨v0, v1, v2, ?_, ?_, ?_, T.InP.keep hP hs _ h3⟩
    · rw [← h0]; simp only [World.cell?, hb]
    · rw [← h1]; simp only [World.cell?, hb]
    · rw [← h2]; simp only [World.cell?, hb]
theorem KidsAt.below {P Q : Nat → Prop} {w w' : World} {A : Option Addr} {n c : Nat} {ts : List T} (h : KidsAt P w A n c ts) (hb : Below w.heap.size w w') (hq : ∀ b, b < w.heap.size → P b → Q b) : KidsAt Q w' A n c ts := by
  refine ⟨h.1, h.2.1, fun h0 => ?_⟩
  obtain ⟨b, off, e, hlt, ha⟩ := h.2.2 h0
  exact ⟨b, off, e, Nat.lt_of_lt_of_le hlt hb.size, T.InPAll.keep (fun x hx hp => ⟨hq x hx hp, hb.block x hx⟩) hb.size (hb.block b hlt) ha⟩
theorem T.InPAll.cells {P : Nat → Prop} {w : World} : ∀ {ts : List T} {b off : Nat}, T.InPAll P w ts b off → ∃ xs : List Value, xs.length = ts.length * 3 ∧ (∀ j u, xs[j]? = some u → w.cell? ⟨b, off + j, none⟩ = some u) ∧ (∀ u ∈ xs, u.oneCell' = true) ∧
    ∀ i (h : i < ts.length), ∃ v0 v1 v2 : Value, xs[i * 3]? = some v0 ∧ xs[i * 3 + 1]? = some v1 ∧ xs[i * 3 + 2]? = some v2 ∧ (ts[i]).InP P w (.agg #[v0, v1, v2])
  | [], _, _, _ => ⟨[], rfl, fun j u h => by simp at h, fun u h => by simp at h, fun i h => absurd h (by simp)⟩
  | t :: r, b, off, h => by
    unfold T.InPAll at h
    obtain ⟨⟨v0, v1, v2, h0, h1, h2, h3⟩, hr⟩ := h
    obtain ⟨xs, l, hc, ho, hi⟩ := T.InPAll.cells hr
    obtain ⟨A, n, c, K, m, d, e⟩ := h3.form
    simp only [Value.agg.injEq] at e
    have e' := congrArg Array.toList e
    simp only [List.cons.injEq, and_true] at e'
    refine ⟨v0 :: v1 :: v2 :: xs, by simp only [List.length_cons, l]; omega, fun j u hu => ?_, fun u hu => ?_, fun i hi' => ?_⟩
    · rcases j with _ | _ | _ | j
      · simp only [List.getElem?_cons_zero, Option.some.injEq] at hu
        rw [← hu]; exact h0
      · simp only [List.getElem?_cons_succ, List.getElem?_cons_zero, Option.some.injEq] at hu
        rw [← hu]; exact h1
      · simp only [List.getElem?_cons_succ, List.getElem?_cons_zero, Option.some.injEq] at hu
        rw [← hu]; exact h2
      · simp only [List.getElem?_cons_succ] at hu
        have := hc j u hu
        rw [show off + (j + 1 + 1 + 1) = off + 3 + j by omega]
        exact this
    · simp only [List.mem_cons] at hu
      rcases hu with rfl | rfl | rfl | hu
      · rw [e'.1]; rfl
      · rw [e'.2.1]; rfl
      · rw [e'.2.2]; rfl
      · exact ho u hu
    · rcases i with _ | i
      · exact ⟨v0, v1, v2, rfl, rfl, rfl, h3⟩
      · obtain ⟨u0, u1, u2, k0, k1, k2, k3⟩ := hi i (by simpa using hi')
        refine ⟨u0, u1, u2, ?_, ?_, ?_, k3⟩
        · rw [show (i + 1) * 3 = i * 3 + 1 + 1 + 1 by omega]; exact k0
        · rw [show (i + 1) * 3 + 1 = i * 3 + 1 + 1 + 1 + 1 by omega]; exact k1
        · rw [show (i + 1) * 3 + 2 = i * 3 + 2 + 1 + 1 + 1 by omega]; exact k2
structure KOut (w : World) (B : Nat) (u : World) (V : Value) (ks : List T) : Prop where
  bel : Below w.heap.size w u
  lo : w.heap.size ≤ B
  hi : B ≤ u.heap.size
  row : ∃ xs : List Value, u.ownsRow B 29 3 V ks.length xs ∧ ∀ i (h : i < ks.length), ∃ v0 v1 v2 : Value, xs[i * 3]? = some v0 ∧ xs[i * 3 + 1]? = some v1 ∧ xs[i * 3 + 2]? = some v2 ∧ (ks[i]).InP (fun b => B ≤ b ∧ V.ownBlock ≠ some b) u (.agg #[v0, v1, v2])
theorem KOut.start {w u : World} {B : Nat} (hb : Below w.heap.size w u) (h1 : w.heap.size ≤ B) (h2 : B ≤ u.heap.size) : KOut w B u (.slice none 0 0) [] :=
  ⟨hb, h1, h2, [], World.ownsRow_nil _ _ _ _, fun i h => absurd h (by simp)⟩
theorem KOut.lt {w u : World} {B b : Nat} {V : Value} {ks : List T} (h : KOut w B u V ks) (e : V.ownBlock = some b) : B ≤ b ∧ b < u.heap.size := by
  obtain ⟨xs, h1, _⟩ := h.row
  exact h1.lt b e
theorem KOut.form {w u : World} {B : Nat} {V : Value} {ks : List T} (h : KOut w B u V ks) : ∃ A c, V = .slice A ks.length c := by
  obtain ⟨xs, h1, _⟩ := h.row
  rcases h1.2 with ⟨e, h0⟩ | ⟨g, cap, cur, e, _⟩
  · exact ⟨none, 0, by rw [h0]; exact e⟩
  · exact ⟨_, cap, e⟩
theorem KOut.over {w u u' : World} {B : Nat} {V : Value} {ks : List T} (h : KOut w B u V ks) (ho : Over B u u') (hb : Below w.heap.size w u') : KOut w B u' V ks := by
  refine ⟨hb, h.lo, Nat.le_trans h.hi ho.1, ?_⟩
  obtain ⟨xs, h1, h2⟩ := h.row
  refine ⟨xs, ⟨h1.1, ?_⟩, fun i hi => ?_⟩
  · rcases h1.2 with h' | ⟨g, cap, cur, e, a1, a2, a3⟩
    · exact .inl h'
    · exact .inr ⟨g, cap, cur, e, a1, (ho.2 g a1 (Array.getElem?_eq_some_iff.1 a2).1).trans a2, a3⟩
  · obtain ⟨v0, v1, v2, e0, e1, e2, hin⟩ := h2 i hi
    exact ⟨v0, v1, v2, e0, e1, e2, T.InP.keep (fun b hb hp => ⟨hp, ho.2 b hp.1 hb⟩) ho.1 _ hin⟩
theorem KOut.below {w u u' : World} {B : Nat} {V : Value} {ks : List T} (h : KOut w B u V ks) (hb : Below u.heap.size u u') : KOut w B u' V ks := h.over (Over.below hb) (Below.step h.bel hb)
theorem KOut.done {w u : World} {B : Nat} {V : Value} {ks : List T} (h : KOut w B u V ks) {z : Int} (hz : (Lit.int .i64 z).wf = true) : (T.node z [] ks).InP (B ≤ ·) u (.agg #[.int .i64 z, .slice none 0 0, V]) := by
  obtain ⟨xs, hown, hks⟩ := h.row
  unfold T.InP
  rcases hown.2 with ⟨e, h0⟩ | ⟨g', cap, cur, e, h1, h2, h3, h4, h5⟩
  · rw [e, show ks = [] from List.eq_nil_of_length_eq_zero h0]
    exact ⟨none, 0, 0, none, 0, 0, rfl, hz, Row.nil _ _, Nat.zero_le _, fun _ => rfl, rfl, Nat.zero_le _, fun h => absurd h (by omega), fun h => absurd h (by omega)⟩
  · refine ⟨none, 0, 0, some ⟨g', 0, none⟩, ks.length, cap, by rw [e], hz, Row.nil _ _, Nat.zero_le _, fun _ => rfl, rfl, Nat.le_trans h3 h4, fun h => absurd h (by omega), fun _ => ⟨g', 0, rfl, (Array.getElem?_eq_some_iff.1 h2).1, h1, T.InPAll.of fun i hi => ?_⟩⟩
    obtain ⟨u0, u1, u2, e0, e1, e2, hin'⟩ := hks i hi
    rw [e] at hown
    refine ⟨u0, u1, u2, ?_, ?_, ?_, T.InP.keep (fun b _ hp => ⟨hp.1, rfl⟩) (Nat.le_refl _) _ hin'⟩
    · rw [Nat.zero_add, hown.cellAt _ (by omega)]; exact e0
    · rw [Nat.zero_add, hown.cellAt _ (by omega)]; exact e1
    · rw [Nat.zero_add, hown.cellAt _ (by omega)]; exact e2
theorem kout_append {w u : World} {B : Nat} {V : Value} {ks ts : List T} {A : Option Addr} {n c : Nat} (h : KOut w B u V ks) (k : KidsAt (fun b => B ≤ b ∧ V.ownBlock ≠ some b) u A n c ts) (hl : ks.length + n ≤ 100000) (ty : TypeId) :
    ∃ V' u', (Builtin.append_ #[27, 27] ty #[V, .slice A n c]).run Tryz.prog u = .ok V' u' ∧ KOut w B u' V' (ks ++ ts) ∧ u.heap.size ≤ u'.heap.size ∧ Below B u u' ∧ ∀ x, x < u.heap.size → V.ownBlock ≠ some x → u'.heap[x]? = u.heap[x]? := by
  obtain ⟨i0, hi5, hz0, hz1, hz2⟩ := info_parts Tryz.infoNode
  obtain ⟨xs, hown, hks⟩ := h.row
  cases A with
  | none =>
    obtain ⟨rfl, rfl⟩ := k.2.1 rfl
    obtain rfl : ts = [] := List.eq_nil_of_length_eq_zero k.1
    refine ⟨V, u, run_append_owned_none (P := Tryz.prog) (w := u) B 27 ty 29 i0 3 Tryz.underlying27 hi5 V ks.length xs hown, ?_, Nat.le_refl _, Below.refl _ _, fun _ _ _ => rfl⟩
    rw [List.append_nil]
    exact h
  | some ad =>
    have hsrc : ∃ ns : List Value, ns.length = ts.length * 3 ∧ (∀ j v, ns[j]? = some v → u.cell? (ad.add j) = some v) ∧ (∀ v ∈ ns, v.oneCell' = true) ∧ ∀ i (h : i < ts.length), ∃ v0 v1 v2 : Value, ns[i * 3]? = some v0 ∧ ns[i * 3 + 1]? = some v1 ∧ ns[i * 3 + 2]? = some v2 ∧ (ts[i]).InP (fun b => B ≤ b ∧ V.ownBlock ≠ some b) u (.agg #[v0, v1, v2]) := by
      rcases Nat.eq_zero_or_pos n with h0 | h0
      · have e : ts = [] := List.eq_nil_of_length_eq_zero (by rw [k.1]; exact h0)
        subst e
        exact ⟨[], rfl, fun j v h => by simp at h, fun v h => by simp at h, fun i h => absurd h (by simp)⟩
      · obtain ⟨b, off, e, hlt, ha⟩ := k.2.2 h0
        injection e with e
        subst e
        obtain ⟨ns, l, h1, h2, h3⟩ := ha.cells
        exact ⟨ns, l, fun j v hv => by rw [Addr.add_lit]; exact h1 j v hv, h2, h3⟩
    obtain ⟨ns, nl, n1, n2, n3⟩ := hsrc
    obtain ⟨V', u', hr, h1, hg1, _, hat⟩ := run_append_own_at (P := Tryz.prog) (w := u) B 27 ty 29 i0 _ 3 56 Tryz.underlying27 hi5 hz0 hz1 hz2 rfl (by decide) V ks.length xs hown ad n c ns (by rw [nl, k.1]) n1 n2 (by unfold maxLen; omega) (by omega) h.hi
    have hkeep : ∀ b, b < u.heap.size → V.ownBlock ≠ some b → u'.heap[b]? = u.heap[b]? := fun b hb hne => hg1.block b hb (fun e => hne e.symm)
    have hlow : Below B u u' := ⟨hg1.os, hg1.tape, hg1.output, hg1.size, fun x hx => hkeep x (Nat.lt_of_lt_of_le hx h.hi) (fun e => by have := (h.lt e).1; omega)⟩
    have hAp : ∀ b, b < u.heap.size → (B ≤ b ∧ V.ownBlock ≠ some b) → (B ≤ b ∧ V'.ownBlock ≠ some b) ∧ u'.heap[b]? = u.heap[b]? := by
      intro b hb hp
      refine ⟨⟨hp.1, ?_⟩, hkeep b hb hp.2⟩
      rcases hat with h' | h'
      · rw [h']
        exact hp.2
      · rw [h']
        intro e
        injection e with e
        omega
    have hxl : xs.length = ks.length * 3 := hown.1
    refine ⟨V', u', hr, ⟨Below.trans h.bel (Below.mono hlow h.lo), h.lo, Nat.le_trans h.hi hg1.size, xs ++ ns, by rw [List.length_append, k.1]; exact h1, fun i hi => ?_⟩, hg1.size, hlow, hkeep⟩
    rw [List.length_append] at hi
    rcases Nat.lt_or_ge i ks.length with hlt | hge
    · obtain ⟨v0, v1, v2, e0, e1, e2, hin⟩ := hks i hlt
      refine ⟨v0, v1, v2, ?_, ?_, ?_, ?_⟩
      · rw [List.getElem?_append_left (by omega)]; exact e0
      · rw [List.getElem?_append_left (by omega)]; exact e1
      · rw [List.getElem?_append_left (by omega)]; exact e2
      · rw [List.getElem_append_left hlt]
        exact T.InP.keep hAp hg1.size _ hin
    · obtain ⟨v0, v1, v2, e0, e1, e2, hin⟩ := n3 (i - ks.length) (by omega)
      refine ⟨v0, v1, v2, ?_, ?_, ?_, ?_⟩
      · rw [List.getElem?_append_right (by omega), hxl, show i * 3 - ks.length * 3 = (i - ks.length) * 3 by omega]; exact e0
      · rw [List.getElem?_append_right (by omega), hxl, show i * 3 + 1 - ks.length * 3 = (i - ks.length) * 3 + 1 by omega]; exact e1
      · rw [List.getElem?_append_right (by omega), hxl, show i * 3 + 2 - ks.length * 3 = (i - ks.length) * 3 + 2 by omega]; exact e2
      · rw [List.getElem_append_right hge]
        exact T.InP.keep hAp hg1.size _ hin
theorem op_kout_append {o : Oper} {a : Act} {K : Act → World → Prop} {Q : Exit → Act → World → Prop} {w u : World} {B : Nat} {V : Value} {ks ts : List T} {A : Option Addr} {n c : Nat} (h : KOut w B u V ks) (s x : Operand)
    (hop : o.op = .call { callee := .builtin .append, args := #[s, x], argTypes := #[27, 27] }) (hs : a.eval s = V) (hx : a.eval x = .slice A n c) (k : KidsAt (fun b => B ≤ b ∧ V.ownBlock ≠ some b) u A n c ts) (hl : ks.length + n ≤ 100000)
    (hK : ∀ V' u', KOut w B u' V' (ks ++ ts) → u.heap.size ≤ u'.heap.size → Below B u u' → (∀ x, x < u.heap.size → V.ownBlock ≠ some x → u'.heap[x]? = u.heap[x]?) → K (a.put o.dst V') u') : o.wp Tryz.prog a u K Q := by
  obtain ⟨V', u', hr, h1, h2, h3, h4⟩ := kout_append h k hl o.type
  refine op_of_run V' u' ?_ (hK V' u' h1 h2 h3 h4)
  unfold execOp
  simp only [hop, resolve, invoke, builtin, Sem.run_bind, Sem.run_pure, Result.andThen_ok, List.map_toArray, List.map_cons, List.map_nil, hs, hx, hr]
theorem kout_append_at {ops : Array Oper} {rest : List Oper} {a : Act} {Q : Exit → Act → World → Prop} {dst : Option Tmp} {t' : TypeId} {pos : String} {aft : Array Edge} {w u : World} {B : Nat} {V : Value} {ks ts : List T} {A : Option Addr} {n c : Nat} (s x : Nat) (h : KOut w B u V ks) (hs : a.eval (.tmp s) = V) (hx : a.eval (.tmp x) = .slice A n c) (k : KidsAt (fun b => B ≤ b ∧ V.ownBlock ≠ some b) u A n c ts) (hl : ks.length + n ≤ 100000)
    (hK : ∀ V' u', KOut w B u' V' (ks ++ ts) → u.heap.size ≤ u'.heap.size → Below B u u' → (∀ x, x < u.heap.size → V.ownBlock ≠ some x → u'.heap[x]? = u.heap[x]?) → wpList Tryz.prog ops Q rest (a.put dst V') u') :
    wpList Tryz.prog ops Q ({ dst := dst, op := .call { callee := .builtin .append, args := #[.tmp s, .tmp x], argTypes := #[27, 27] }, type := t', pos := pos, after := aft, guard := none } :: rest) a u :=
  wpList_plain rfl fun K hK2 => op_kout_append h (.tmp s) (.tmp x) rfl hs hx k hl (fun V' u' h1 h2 h3 h4 => hK2 _ _ (hK V' u' h1 h2 h3 h4))
theorem built_two (a0 a1 a2 b0 b1 b2 : Value) : Tryz.prog.builtSlice 29 2 [(0, .agg #[a0, a1, a2]), (1, .agg #[b0, b1, b2])] = some #[a0, a1, a2, b0, b1, b2] := by kernel_rfl
theorem built_oneN (a0 a1 a2 : Value) : Tryz.prog.builtSlice 29 1 [(0, .agg #[a0, a1, a2])] = some #[a0, a1, a2] := by kernel_rfl
theorem op_two_kids {o : Oper} {a : Act} {K : Act → World → Prop} {Q : Exit → Act → World → Prop} {u : World} {P : Nat → Prop} {t1 t2 : T} {a0 a1 a2 b0 b1 b2 : Value} (h1 : t1.InP P u (.agg #[a0, a1, a2])) (h2 : t2.InP P u (.agg #[b0, b1, b2])) (parts : Array (Nat × Operand)) (ho : o.op = .buildSlice 27 2 parts)
    (hps : (parts.map fun (i, x) => (i, a.eval x)).toList = [(0, .agg #[a0, a1, a2]), (1, .agg #[b0, b1, b2])]) (hK : ∀ H u', KidsAt P u' (some ⟨H, 0, none⟩) 2 2 [t1, t2] → Below u.heap.size u u' → K (a.put o.dst (.slice (some ⟨H, 0, none⟩) 2 2)) u') : o.wp Tryz.prog a u K Q := by
  refine op_buildSlice 27 29 2 parts ho Tryz.underlying27 _ _ (built_two a0 a1 a2 b0 b1 b2) hps (hK u.heap.size _ ⟨rfl, (fun e => by cases e), fun _ => ⟨_, 0, rfl, by simp, T.InPAll.of fun i hi => ?_⟩⟩ (box_below _ _))
  have hc := fun j => Blk.cell (Blk.new u 29 #[a0, a1, a2, b0, b1, b2]) j
  have hb := box_below u (.cells #[a0, a1, a2, b0, b1, b2] 29)
  rcases (show i = 0 ∨ i = 1 by simp only [List.length_cons, List.length_nil] at hi; omega) with rfl | rfl
  · exact ⟨_, _, _, hc 0, hc 1, hc 2, T.InP.below hb (fun _ h => h) _ h1⟩
  · exact ⟨_, _, _, hc 3, hc 4, hc 5, T.InP.below hb (fun _ h => h) _ h2⟩
theorem one_kid_at {ops : Array Oper} {rest : List Oper} {a : Act} {Q : Exit → Act → World → Prop} {dst : Option Tmp} {t' : TypeId} {pos : String} {aft : Array Edge} {u : World} {P : Nat → Prop} {t : T} {a0 a1 a2 : Value} (k : Nat) (h : t.InP P u (.agg #[a0, a1, a2])) (hx : a.eval (.tmp k) = .agg #[a0, a1, a2])
    (hK : ∀ H u', KidsAt P u' (some ⟨H, 0, none⟩) 1 1 [t] → Below u.heap.size u u' → wpList Tryz.prog ops Q rest (a.put dst (.slice (some ⟨H, 0, none⟩) 1 1)) u') :
    wpList Tryz.prog ops Q ({ dst := dst, op := .buildSlice 27 1 #[(0, .tmp k)], type := t', pos := pos, after := aft, guard := none } :: rest) a u := by
  refine wpList_plain rfl fun K hK2 => op_buildSlice 27 29 1 #[(0, .tmp k)] rfl Tryz.underlying27 _ _ (built_oneN a0 a1 a2) (by simp only [List.map_toArray, List.map_cons, List.map_nil, hx]) (hK2 _ _ (hK u.heap.size _ ⟨rfl, (fun e => by cases e), fun _ => ⟨_, 0, rfl, by simp, T.InPAll.of fun i hi => ?_⟩⟩ (box_below _ _)))
  have hc := fun j => Blk.cell (Blk.new u 29 #[a0, a1, a2]) j
  have hb := box_below u (.cells #[a0, a1, a2] 29)
  obtain rfl : i = 0 := by simp only [List.length_cons, List.length_nil] at hi; omega
  exact ⟨_, _, _, hc 0, hc 1, hc 2, T.InP.below hb (fun _ h => h) _ h⟩
end Go.Proofs.YtlmndmfebgaidaaGreatDoor
namespace Go.Proofs.YtlmndmfebgaidaaGreatDoor
open Go.RowKit
set_option linter.unusedVariables false
set_option linter.unusedSimpArgs false
set_option maxRecDepth 100000
theorem out_nil8 {w : World} {o : Obj} : Out (w.alloc o) ((w.alloc o).alloc (.cells #[] 5)) (.slice (some ⟨w.heap.size + 1, 0, none⟩) 0 0) [] := by
  have h := Out.made (W0 := w.alloc o) 0 (by omega)
  rw [show (w.alloc o).heap.size = w.heap.size + 1 by simp, show madeCells #[.int .u8 0] 0 = #[] by simp [madeCells]] at h
  exact h
theorem GivesNode.wider {t : T} {w w1 w' : World} {e : Ending} (hb : Below w.heap.size w w1) (h : GivesNode t w1 e w') : GivesNode t w e w' := by
  obtain ⟨A, n, c, K, m, d, e, hin, hb'⟩ := h
  exact ⟨A, n, c, K, m, d, e, T.InP.keep (fun b _ hp => ⟨Nat.le_trans hb.size hp, rfl⟩) (Nat.le_refl _) _ hin, Below.step hb hb'⟩
theorem arr_row {w : World} {g : Nat} {t : TypeId} {A : List Int} (hA : Sixteen A) (h : Blk w g t (acells A).toArray) (n : Nat) (hn : n ≤ 16) : Row w (some ⟨g, 0, none⟩) n (A.take n) := by
  refine ⟨by rw [List.length_take, hA.1]; omega, fun x hx => hA.2 x (List.mem_of_mem_take hx), fun h0 => ⟨g, 0, rfl, h.lt, fun i hi => ?_⟩⟩
  rw [Nat.zero_add, Blk.cell h i, List.getElem?_toArray]
  unfold acells
  rw [List.getElem?_map, List.getElem?_take, if_pos hi, List.getElem?_eq_getElem (by rw [hA.1]; omega)]
  rfl
theorem gives_leaf1 {w w1 W W0 : World} {tmps : Array Value} {fn : Func} {p : Tmp} {z : Int} {zs : List Int} {a : Option Addr} {c : Nat} (hw : w1.heap.size = w.heap.size + 1) (hb1 : Below w.heap.size w w1) (hf : fn.results = #[.cell p 29]) (hp : tmps.getD p undef = .pointer (some ⟨w.heap.size + 1, 0, none⟩)) (hrb : RB w1 W) (ho : Out W0 W (.slice a zs.length c) zs) (hW : w1.heap.size < W0.heap.size) (hz : (Lit.int .i64 z).wf = true) (hb : ∀ x ∈ zs, 0 ≤ x ∧ x ≤ 255) (hn : zs.length ≤ 1000000) :
    bodyPost Tryz.prog fn (GivesNode (.node z zs []) w) .ret { tmps := tmps, defers := [] } (((W.setCell ⟨w.heap.size + 1, 0, none⟩ (.int .i64 z)).setCell ⟨w.heap.size + 1, 1, none⟩ (.slice a zs.length c)).setCell ⟨w.heap.size + 1, 2, none⟩ (.slice none 0 0)) := by
  obtain ⟨h1, h2⟩ := hrb.boxed (.int .i64 z) (.slice a zs.length c) (.slice none 0 0)
  obtain ⟨a', c', e, hr⟩ := ho.row hb
  injection e with e1 e2 e3
  subst e1
  have h3 := boxed_row (w := w1) hr (fun h0 => by
    obtain ⟨b, off, e, hb⟩ := out_off ho h0
    exact ⟨b, off, e, by omega⟩) (.int .i64 z) (.slice a zs.length c) (.slice none 0 0)
  unfold boxed at h1 h2 h3
  simp only [hw] at h1 h2 h3
  refine bodyPost_ret (results_cell_row hf _ _ (w.heap.size + 1) 29 #[.int .i64 z, .slice a zs.length c, .slice none 0 0] (0, 0) _ hp h1 Tryz.underlying29 rfl Tryz.sizeNode3) rfl ⟨a, zs.length, c, none, 0, 0, rfl, leaf_inP hz h3 hn ho.nilc (fun h0 => by
    obtain ⟨b, off, e, hb⟩ := out_off ho h0
    exact ⟨b, off, e, by omega⟩), hb1.trans (h2.mono (by omega))⟩
set_option maxHeartbeats 2000000 in
theorem rbytes13_any (v : Bool) (A : List Int) (w : World) (hA : Sixteen A) : Calls Tryz.prog 31 #[.bool v, .agg (acells A).toArray] w (GivesNode (addrT v A) w) := by
  have BX := Lib.hid (Blk.new w 41 (acells A).toArray)
  have BW := Lib.hid (box_below w (.cells (acells A).toArray 41))
  have HW : (w.alloc (.cells (acells A).toArray 41)).heap.size = w.heap.size + 1 := by simp
  go_enter Tryz.func31, Tryz.ntmps31
  generalize hw1 : w.alloc (.cells (acells A).toArray 41) = w1 at *
  have S0 := Lib.hid (RB.start w1)
  have hE := out_nil8 (w := w1) (o := .cells #[.int .i64 0, .slice none 0 0, .slice none 0 0] 29)
  have hB1 := Blk.alloc BX.out (.cells #[.int .i64 0, .slice none 0 0, .slice none 0 0] 29)
  rw [HW] at hE
  have W2 : Hid (w1.heap.size < (w1.alloc (.cells #[.int .i64 0, .slice none 0 0, .slice none 0 0] 29)).heap.size) := Lib.hid (by simp)
  cases v with
  | false =>
    have R2 := Lib.hid (arr_row hA hB1 4 (by decide))
    have NL : Hid ((A.take 4).length = 4) := Lib.hid R2.out.1
    have GB : Hid (∀ x ∈ A.take 4, 0 ≤ x ∧ x ≤ 255) := Lib.hid R2.out.2.1
    have R3 := Lib.hid (R2.out.below (box_below _ (.cells #[] 5)))
    have S3 := Lib.hid (S0.out.go (box_below _ (.cells #[] 5)))
    have E3 := Lib.hid hE
    have EA : Hid (addrT false A = .node 4 (A.take 4) []) := Lib.hid rfl
    clear R2 hB1 hE
    generalize A.take 4 = zs at *
    go_wp2_with (at_builtin; go_must (refine out_append (W0 := w1.alloc (.cells #[.int .i64 0, .slice none 0 0, .slice none 0 0] 29)) (L := []) (zs := zs) rfl _ _ rfl rfl E3.out rfl R3.out (fun e => by cases e) (by simp) ?_; intro V4 w4 ho4; rw [List.nil_append] at ho4; have O4 := Lib.hid ho4; have S4 := Lib.hid (S0.out.go ho4.2); obtain ⟨p0, p1, p2, f0, f1, f2⟩ := S4.out.box.six; rw [HW] at p0 p1 p2 f0 f1 f2; obtain ⟨b4, c4, rfl, hr4⟩ := ho4.row GB.out; clear ho4))
    rw [EA.out]
    exact gives_leaf1 HW BW.out rfl rfl S4.out O4.out W2.out rfl GB.out (by rw [NL.out]; decide)
  | true =>
    have R2 := Lib.hid (arr_row hA hB1 16 (by decide))
    have NL : Hid ((A.take 16).length = 16) := Lib.hid R2.out.1
    have GB : Hid (∀ x ∈ A.take 16, 0 ≤ x ∧ x ≤ 255) := Lib.hid R2.out.2.1
    have R3 := Lib.hid (R2.out.below (box_below _ (.cells #[] 5)))
    have S3 := Lib.hid (S0.out.go (box_below _ (.cells #[] 5)))
    have E3 := Lib.hid hE
    have EA : Hid (addrT true A = .node 4 (A.take 16) []) := Lib.hid rfl
    clear R2 hB1 hE
    generalize A.take 16 = zs at *
    go_wp2_with (at_builtin; go_must (refine out_append (W0 := w1.alloc (.cells #[.int .i64 0, .slice none 0 0, .slice none 0 0] 29)) (L := []) (zs := zs) rfl _ _ rfl rfl E3.out rfl R3.out (fun e => by cases e) (by simp) ?_; intro V4 w4 ho4; rw [List.nil_append] at ho4; have O4 := Lib.hid ho4; have S4 := Lib.hid (S0.out.go ho4.2); obtain ⟨p0, p1, p2, f0, f1, f2⟩ := S4.out.box.six; rw [HW] at p0 p1 p2 f0 f1 f2; obtain ⟨b4, c4, rfl, hr4⟩ := ho4.row GB.out; clear ho4))
    rw [EA.out]
    exact gives_leaf1 HW BW.out rfl rfl S4.out O4.out W2.out rfl GB.out (by rw [NL.out]; decide)
end Go.Proofs.YtlmndmfebgaidaaGreatDoor
