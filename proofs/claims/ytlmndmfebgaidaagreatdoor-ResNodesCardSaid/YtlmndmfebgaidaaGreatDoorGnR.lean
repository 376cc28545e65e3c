/-
  Merged texts: RpF, RpH, RpI.
-/
import Derived.Test.YtlmndmfebgaidaaGreatDoorGnQ
import Derived.Test.YtlmndmfebgaidaaGreatDoorGnI
namespace Go.Proofs.YtlmndmfebgaidaaGreatDoor
open Go.RowKit
set_option linter.unusedVariables false
set_option linter.unusedSimpArgs false
set_option maxRecDepth 100000
theorem node_far {w u : World} {B : Nat} {V : Value} {t : T} {v : Value} (h : t.InP (w.heap.size ≤ ·) u v) (hB : B ≤ w.heap.size) (hV : ∀ b, V.ownBlock = some b → b < w.heap.size) : t.InP (fun b => B ≤ b ∧ V.ownBlock ≠ some b) u v :=
  T.InP.keep (fun b _ hb => ⟨⟨Nat.le_trans hB hb, fun e => by have := hV b e; have hb' : w.heap.size ≤ b := hb; omega⟩, rfl⟩) (Nat.le_refl _) _ h
theorem allocFam_run {o : Oper} {a : Act} {w : World} (ho : o.op = .alloc 58) : (execOp a.eval o).run Tryz.prog w = .ok (.value (.pointer (some ⟨w.heap.size, 0, none⟩))) (w.alloc (.cells #[.bool false, .int .i64 0] 58)) := by
  unfold execOp
  simp only [ho]
  rfl
theorem allocFam_at {ops : Array Oper} {rest : List Oper} {a : Act} {w : World} {Q : Exit → Act → World → Prop} {dst : Option Tmp} {t' : TypeId} {pos : String} {aft : Array Edge}
    (h : wpList Tryz.prog ops Q rest (a.put dst (.pointer (some ⟨w.heap.size, 0, none⟩))) (w.alloc (.cells #[.bool false, .int .i64 0] 58))) :
    wpList Tryz.prog ops Q ({ dst := dst, op := .alloc 58, type := t', pos := pos, after := aft, guard := none } :: rest) a w :=
  Great.wpList_allocTo rfl dst rfl _ _ (allocFam_run rfl) h
theorem storeFam_new {ops : Array Oper} {rest : List Oper} {a : Act} {w : World} {Q : Exit → Act → World → Prop} {t' : TypeId} {pos : String} {aft : Array Edge} (k j : Nat) (w0 : World) (v : Bool) (hx : a.eval (.tmp k) = .pointer (some ⟨w0.heap.size, 0, none⟩)) (hy : a.eval (.tmp j) = .agg (famV v)) (hw : w = w0.alloc (.cells #[.bool false, .int .i64 0] 58))
    (h : wpList Tryz.prog ops Q rest a (w0.alloc (.cells (famV v) 58))) :
    wpList Tryz.prog ops Q ({ dst := none, op := .store 58 (.tmp k) (.tmp j), type := t', pos := pos, after := aft, guard := none } :: rest) a w := by
  subst hw
  refine wpList_store_rowTo rfl 58 (.tmp k) (.tmp j) rfl rfl w0.heap.size _ hx hy 58 _ (Blk.new w0 58 #[.bool false, .int .i64 0]) (Tryz.sizeFam v) rfl (by simp [famV, Value.oneCell']) ?_
  rw [alloc_setRow]
  exact h
theorem indexFam_run (v : Bool) (w : World) {o : Oper} {a : Act} (x y : Operand) (ho : o.op = .index 59 x y) (hx : a.eval x = .agg #[.bool false, .int .i64 4, .bool true, .int .i64 16]) (hy : a.eval y = .int .i64 (if v then 1 else 0)) : (execOp a.eval o).run Tryz.prog w = .ok (.value (.agg (famV v))) w := by
  have u1 := Tryz.underlying59
  unfold execOp
  simp only [ho, hx, hy]
  cases v with
  | false =>
    have i0 : (0 : Int) < 2 := by decide
    go_simp
    rfl
  | true =>
    have i0 : (1 : Int) < 2 := by decide
    go_simp
    rfl
theorem indexFam_at {ops : Array Oper} {rest : List Oper} {a : Act} {w : World} {Q : Exit → Act → World → Prop} {dst : Option Tmp} {t' : TypeId} {pos : String} {aft : Array Edge} (v : Bool) (k j : Nat) (hx : a.eval (.tmp k) = .agg #[.bool false, .int .i64 4, .bool true, .int .i64 16]) (hy : a.eval (.tmp j) = .int .i64 (if v then 1 else 0))
    (h : wpList Tryz.prog ops Q rest (a.put dst (.agg (famV v))) w) :
    wpList Tryz.prog ops Q ({ dst := dst, op := .index 59 (.tmp k) (.tmp j), type := t', pos := pos, after := aft, guard := none } :: rest) a w :=
  wpList_plain rfl fun K hK => op_of_run _ _ (indexFam_run v w (.tmp k) (.tmp j) rfl hx hy) (hK _ _ h)
theorem Tryz.sizeFam2 : (Tryz.prog.info? 59).map (·.size) = some famTab.size := by kernel_rfl
theorem has_nodeX {w W : World} {tmps : Array Value} {fn : Func} {p u : Tmp} {t : T} {er : Int} {g B : Nat} {z : Int} {A : Option Addr} {n c : Nat} {K : Option Addr} {m d : Nat} {x0 : Int} {x1 x2 : Value} (hf : fn.results = #[.cell p 29, .tmp u]) (hp : tmps.getD p undef = .pointer (some ⟨g, 0, none⟩)) (hu : tmps.getD u undef = .int .i64 er)
    (hb : Blk W g 29 (nodeC x0 x1 x2)) (hin : t.InP (B ≤ ·) W (.agg #[.int .i64 z, .slice A n c, .slice K m d])) (hg : w.heap.size ≤ g) (hg2 : g < B) (hbel : Below w.heap.size w W) :
    bodyPost Tryz.prog fn (HasNodeE (t, er) w) .ret { tmps := tmps, defers := [] } (W.setRow g (nodeC z (.slice A n c) (.slice K m d))) := by
  obtain ⟨A1, n1, c1, K1, m1, d1, e⟩ := hin.form
  have ez : z = t.tag := by
    simp only [Value.agg.injEq] at e
    have e' := congrArg Array.toList e
    simp only [List.cons.injEq, Value.int.injEq, true_and] at e'
    exact e'.1
  subst ez
  have ov := Over.rowS (B := B) W (nodeC t.tag (.slice A n c) (.slice K m d)) hg2
  have h := results_nodee (P := Tryz.prog) hf tmps _ g 29 (nodeC t.tag (.slice A n c) (.slice K m d)) (0, 0) _ hp (setRow_heap _ _ _ _ 29 _ hb) Tryz.underlying29 rfl (Tryz.sizeNd _ _ _)
  rw [hu] at h
  exact bodyPost_ret h rfl ⟨A, n, c, K, m, d, rfl, T.InP.in (P := fun _ => True) _ (T.InP.keep (fun x hx hp => ⟨trivial, ov.2 x hp hx⟩) ov.1 _ hin), below_setRow hbel hg _⟩
theorem leafN {B : Nat} {w : World} {z : Int} (hz : (Lit.int .i64 z).wf = true) : (T.node z [] []).InP (B ≤ ·) w (.agg #[.int .i64 z, .slice none 0 0, .slice none 0 0]) := by
  unfold T.InP
  exact ⟨none, 0, 0, none, 0, 0, rfl, hz, Row.nil _ _, Nat.zero_le _, fun _ => rfl, rfl, Nat.zero_le _, fun h => absurd h (by omega), fun h => absurd h (by omega)⟩
set_option maxHeartbeats 8000000 in
theorem node13_any (r : ResZ) (v : Value) (w : World) (h : ResAt w v r) (hl : r.sp.length ≤ 40000) (hm : r.ns.length ≤ 40000) (hf : Fam w) : Calls Tryz.prog 11 #[v] w (HasNodeE (nodeR r) w) := by
  have h0 := h
  obtain ⟨a, n, c, b, m, d, rfl, h1, h2⟩ := h
  have hn' := h1.1.1
  have hm' := h2.1.1
  have K0 := Blk.alloc (resbox w r.inh (.slice a n c) (.slice b m d)) (.cells #[.int .i64 0, .slice none 0 0, .slice none 0 0] 29)
  have K1 := Blk.new (w.alloc (.cells (resC r.inh (.slice a n c) (.slice b m d)) 25)) 29 #[.int .i64 0, .slice none 0 0, .slice none 0 0]
  have ws1 : (w.alloc (.cells (resC r.inh (.slice a n c) (.slice b m d)) 25)).heap.size = w.heap.size + 1 := by simp
  rw [ws1] at K1
  have bw := Below.step (boxR_below w (.cells (resC r.inh (.slice a n c) (.slice b m d)) 25)) (boxR_below _ (.cells #[.int .i64 0, .slice none 0 0, .slice none 0 0] 29))
  have CR := Lib.hid (right13_any r _ _ (h0.below bw) hl hm)
  have CF := Lib.hid (fun W (hb : Below w.heap.size w W) => listS_any false a n c r.sp W (h1.below hb) (by omega))
  have CT := Lib.hid (fun W (hb : Below w.heap.size w W) => listS_any true a n c r.sp W (h1.below hb) (by omega))
  have CA := Lib.hid (fun W (hb : Below w.heap.size w W) => listR_any b m d r.ns W (h2.below hb) (by omega))
  have FF := Lib.hid (fun W (hb : Below w.heap.size w W) => hf.below hb)
  have HS : Hid (((w.alloc (.cells (resC r.inh (.slice a n c) (.slice b m d)) 25)).alloc (.cells #[.int .i64 0, .slice none 0 0, .slice none 0 0] 29)).heap.size = w.heap.size + 2) := Lib.hid (by simp)
  have BW := Lib.hid bw
  generalize hw2 : (w.alloc (.cells (resC r.inh (.slice a n c) (.slice b m d)) 25)).alloc (.cells #[.int .i64 0, .slice none 0 0, .slice none 0 0] 29) = w2 at *
  obtain ⟨g, hg⟩ : ∃ g, w.heap.size = g := ⟨_, rfl⟩
  have HG := Lib.hid hg
  rw [hg] at K0 K1 HS
  have XB := Lib.hid K0
  have NB : Hid (Blk w2 (g + 1) 29 (nodeC 0 (.slice none 0 0) (.slice none 0 0))) := Lib.hid K1
  have EN : Hid (nodeR r = if rightR r = true then (if r.inh = true then (.node 5 [] [], 0) else (.node 48 [] [.node 48 [] (famT false r.sp), .node 48 [] (famT true r.sp), .node 48 [] (rngsT r.ns)], 0)) else (zeroT, 1)) := Lib.hid (by
    unfold nodeR resT
    split
    · split <;> rfl
    · rfl)
  clear K0 K1 h0 h1 h2 bw hl hm hn' hm' hf ws1
  generalize nodeR r = q at *
  generalize rightR r = rr at *
  generalize r.inh = i at *
  generalize famT false r.sp = TF at *
  generalize famT true r.sp = TT at *
  generalize rngsT r.ns = TR at *
  go_enter Tryz.func11, Tryz.ntmps11
  go_upto_region 1 with fail
  clear hw2
  cases rr with
  | false =>
    rw [if_neg (by decide)] at EN
    obtain rfl := EN.out
    clear EN CF CT CA FF HS
    go_wp2_with (first
      | (refine load_res_any (by rfl) (.tmp 1) rfl g rfl XB.out ?_)
      | (go_at_call 17
         refine CR.out.mono ?_
         rintro e w3 ⟨rfl, hb3⟩
         replace BW := Lib.hid (Below.step BW.out hb3)
         replace NB := Lib.hid (NB.out.below hb3 NB.out.lt)
         replace XB := Lib.hid (XB.out.below hb3 XB.out.lt)
         skip
         have c0 : w3.cell? ⟨g, 0, none⟩ = some (.bool i) := Blk.cell XB.out 0
         clear hb3 CR)
      | ((with_reducible refine storeNode_at 2 11 (g + 1) 0 none 0 0 none 0 0 ?_ ?_ NB.out ?_); (· rfl); (· rfl)))
    exact has_nodeX (B := g + 2) (t := zeroT) rfl rfl rfl NB.out (zero_in _ _) (by have := HG.out; omega) (by omega) BW.out
  | true =>
  rw [if_pos rfl] at EN
  cases i with
  | true =>
    rw [if_pos rfl] at EN
    obtain rfl := EN.out
    clear EN CF CT CA FF HS
    go_wp2_with (first
      | (refine load_res_any (by rfl) (.tmp 1) rfl g rfl XB.out ?_)
      | (go_at_call 17
         refine CR.out.mono ?_
         rintro e w3 ⟨rfl, hb3⟩
         replace BW := Lib.hid (Below.step BW.out hb3)
         replace NB := Lib.hid (NB.out.below hb3 NB.out.lt)
         replace XB := Lib.hid (XB.out.below hb3 XB.out.lt)
         skip
         have c0 : w3.cell? ⟨g, 0, none⟩ = some (.bool true) := Blk.cell XB.out 0
         clear hb3 CR)
      | ((with_reducible refine storeNode_at 2 15 (g + 1) 5 none 0 0 none 0 0 ?_ ?_ NB.out ?_); (· rfl); (· rfl)))
    exact has_nodeX (B := g + 2) (t := .node 5 [] []) rfl rfl rfl NB.out (leafN rfl) (by have := HG.out; omega) (by omega) BW.out
  | false =>
  rw [if_neg (by decide)] at EN
  obtain rfl := EN.out
  clear EN
  go_upto_region 6 with (first
    | (refine load_res_any (by rfl) (.tmp 1) rfl g rfl XB.out ?_)
      | (go_at_call 17
         refine CR.out.mono ?_
         rintro e w3 ⟨rfl, hb3⟩
         replace BW := Lib.hid (Below.step BW.out hb3)
         replace NB := Lib.hid (NB.out.below hb3 NB.out.lt)
         replace XB := Lib.hid (XB.out.below hb3 XB.out.lt)
         replace HS := Lib.hid (Nat.le_trans (Nat.le_of_eq HS.out.symm) hb3.size)
         have c0 : w3.cell? ⟨g, 0, none⟩ = some (.bool false) := Blk.cell XB.out 0
         clear hb3 CR))
  clear c0
  obtain ⟨_, tt, fr, hF⟩ := FF.out _ BW.out
  have HF := Lib.hid hF
  clear hF FF
  have KO := Lib.hid (KOut.start (B := g + 2) BW.out (by have := HG.out; omega) HS.out)
  go_wp2_with (refine wpList_load_row rfl 59 (.global 0) rfl 0 rfl tt #[.bool false, .int .i64 4, .bool true, .int .i64 16] fr _ HF.out Tryz.underlying59 rfl Tryz.sizeFam2 ?_)
  clear HF HS
  go_loopw [17, 4] (fun iV V wr => ∃ k : Nat, iV = .int .i64 (k : Int) ∧ k ≤ 2 ∧ KOut w (g + 2) wr V ([T.node 48 [] TF, T.node 48 [] TT].take k) ∧ Blk wr g 25 (resC false (.slice a n c) (.slice b m d)) ∧ Blk wr (g + 1) 29 (nodeC 0 (.slice none 0 0) (.slice none 0 0))) (fun iV _ _ => ((2 : Int) - intOf iV).toNat)
  case atStart => exact ⟨0, rfl, Nat.zero_le _, KO.out, XB.out, NB.out⟩
  case round =>
    obtain ⟨k, rfl, hk, hko, hxb, hnb⟩ := hrel
    clear KO XB NB BW
    have KO := Lib.hid hko
    have XB := Lib.hid hxb
    have NB := Lib.hid hnb
    clear hko hxb hnb
    rcases k with _ | _ | _ | k
    · have t0 : decide (((0 : Nat) : Int) < 2) = true := by decide
      have i0 : (0 : Int) ≤ ((0 : Nat) : Int) := by decide
      have i1 : ((0 : Nat) : Int) < 2 := by decide
      have kI : IntKind.i64.wrap (((0 : Nat) : Int) + 1) = ((0 : Nat) : Int) + 1 := by decide
      have LE := Lib.hid (show (List.take 0 [T.node 48 [] TF, T.node 48 [] TT]).length + 1 ≤ 100000 by simp)
      have x1 : ∀ o, (wr.alloc o).cell? ⟨g, 1, none⟩ = some (.slice a n c) := fun o => Blk.cell (XB.out.alloc o) 1
      go_wp2_with (first
      | ((with_reducible refine indexFam_at false 16 17 ?_ ?_ ?_); (· rfl); (· rfl))
      | (with_reducible refine allocFam_at ?_)
      | ((with_reducible refine storeFam_new 6 19 wr false ?_ ?_ ?_ ?_)
         (· rfl)
         (· rfl)
         (· rfl)
         have hb4 := boxR_below wr (.cells (famV false) 58)
         have FB : Hid (Blk (wr.alloc (.cells (famV false) 58)) wr.heap.size 58 (famV false)) := Lib.hid (Blk.new wr 58 (famV false))
         replace KO := Lib.hid (KO.out.below hb4)
         replace XB := Lib.hid (XB.out.below hb4 XB.out.lt)
         replace NB := Lib.hid (NB.out.below hb4 NB.out.lt)
         have x1b := x1 (.cells (famV false) 58)
         clear hb4 x1
         generalize wr.alloc (.cells (famV false) 58) = w4 at *
         generalize wr.heap.size = h4 at *)
      | (refine wpList_load_row rfl 58 (.tmp 6) rfl h4 rfl 58 (famV false) (0, 0) _ FB.out Tryz.underlying58 rfl (Tryz.sizeFam false) ?_)
      | (go_at_call 27
         refine (CF.out _ KO.out.bel).mono ?_
         rintro e w5 ⟨A5, n5, c5, L5, m5, d5, rfl, hin5, hb5⟩
         have I5 := Lib.hid (node_far (B := g + 2) (V := u4) hin5 KO.out.hi (fun b e => (KO.out.lt e).2))
         replace KO := Lib.hid (KO.out.below hb5)
         replace XB := Lib.hid (XB.out.below hb5 XB.out.lt)
         replace NB := Lib.hid (NB.out.below hb5 NB.out.lt)
         clear hin5 hb5 CF)
      | ((with_reducible refine one_kid_at 25 I5.out ?_ ?_)
         (· rfl)
         intro H w6 hk6 hb6
         have KA := Lib.hid hk6
         replace KO := Lib.hid (KO.out.below hb6)
         replace XB := Lib.hid (XB.out.below hb6 XB.out.lt)
         replace NB := Lib.hid (NB.out.below hb6 NB.out.lt)
         clear hk6 hb6 I5)
      | ((with_reducible refine kout_append_at 20 26 KO.out ?_ ?_ KA.out LE.out ?_)
         (· rfl)
         (· rfl)
         intro V7 w7 ho7 hs7 hb7 hf7
         have K7 := Lib.hid ho7
         have X7 := Lib.hid (XB.out.below hb7 (by omega))
         have N7 := Lib.hid (NB.out.below hb7 (by omega))
         clear ho7 hs7 hb7 hf7 KO XB NB KA))
      go_roundw
      case rel => exact ⟨1, by go_num, by decide, K7.out, X7.out, N7.out⟩
      case measure => decide
    · have t0 : decide (((1 : Nat) : Int) < 2) = true := by decide
      have i0 : (0 : Int) ≤ ((1 : Nat) : Int) := by decide
      have i1 : ((1 : Nat) : Int) < 2 := by decide
      have kI : IntKind.i64.wrap (((1 : Nat) : Int) + 1) = ((1 : Nat) : Int) + 1 := by decide
      have LE := Lib.hid (show (List.take 1 [T.node 48 [] TF, T.node 48 [] TT]).length + 1 ≤ 100000 by simp)
      have x1 : ∀ o, (wr.alloc o).cell? ⟨g, 1, none⟩ = some (.slice a n c) := fun o => Blk.cell (XB.out.alloc o) 1
      go_wp2_with (first
      | ((with_reducible refine indexFam_at true 16 17 ?_ ?_ ?_); (· rfl); (· rfl))
      | (with_reducible refine allocFam_at ?_)
      | ((with_reducible refine storeFam_new 6 19 wr true ?_ ?_ ?_ ?_)
         (· rfl)
         (· rfl)
         (· rfl)
         have hb4 := boxR_below wr (.cells (famV true) 58)
         have FB : Hid (Blk (wr.alloc (.cells (famV true) 58)) wr.heap.size 58 (famV true)) := Lib.hid (Blk.new wr 58 (famV true))
         replace KO := Lib.hid (KO.out.below hb4)
         replace XB := Lib.hid (XB.out.below hb4 XB.out.lt)
         replace NB := Lib.hid (NB.out.below hb4 NB.out.lt)
         have x1b := x1 (.cells (famV true) 58)
         clear hb4 x1
         generalize wr.alloc (.cells (famV true) 58) = w4 at *
         generalize wr.heap.size = h4 at *)
      | (refine wpList_load_row rfl 58 (.tmp 6) rfl h4 rfl 58 (famV true) (0, 0) _ FB.out Tryz.underlying58 rfl (Tryz.sizeFam true) ?_)
      | (go_at_call 27
         refine (CT.out _ KO.out.bel).mono ?_
         rintro e w5 ⟨A5, n5, c5, L5, m5, d5, rfl, hin5, hb5⟩
         have I5 := Lib.hid (node_far (B := g + 2) (V := u4) hin5 KO.out.hi (fun b e => (KO.out.lt e).2))
         replace KO := Lib.hid (KO.out.below hb5)
         replace XB := Lib.hid (XB.out.below hb5 XB.out.lt)
         replace NB := Lib.hid (NB.out.below hb5 NB.out.lt)
         clear hin5 hb5 CT)
      | ((with_reducible refine one_kid_at 25 I5.out ?_ ?_)
         (· rfl)
         intro H w6 hk6 hb6
         have KA := Lib.hid hk6
         replace KO := Lib.hid (KO.out.below hb6)
         replace XB := Lib.hid (XB.out.below hb6 XB.out.lt)
         replace NB := Lib.hid (NB.out.below hb6 NB.out.lt)
         clear hk6 hb6 I5)
      | ((with_reducible refine kout_append_at 20 26 KO.out ?_ ?_ KA.out LE.out ?_)
         (· rfl)
         (· rfl)
         intro V7 w7 ho7 hs7 hb7 hf7
         have K7 := Lib.hid ho7
         have X7 := Lib.hid (XB.out.below hb7 (by omega))
         have N7 := Lib.hid (NB.out.below hb7 (by omega))
         clear ho7 hs7 hb7 hf7 KO XB NB KA))
      go_roundw
      case rel => exact ⟨2, by go_num, by decide, K7.out, X7.out, N7.out⟩
      case measure => decide
    · have t0 : decide (((2 : Nat) : Int) < 2) = false := by decide
      have LE := Lib.hid (show (List.take 2 [T.node 48 [] TF, T.node 48 [] TT]).length + 1 ≤ 100000 by simp)
      have x2 : wr.cell? ⟨g, 2, none⟩ = some (.slice b m d) := Blk.cell XB.out 2
      go_upto_region 12 with (first
      | (go_at_call 29
         refine (CA.out _ KO.out.bel).mono ?_
         rintro e w5 ⟨A5, n5, c5, L5, m5, d5, rfl, hin5, hb5⟩
         have I5 := Lib.hid (node_far (B := g + 2) (V := u4) hin5 KO.out.hi (fun b e => (KO.out.lt e).2))
         replace KO := Lib.hid (KO.out.below hb5)
         replace XB := Lib.hid (XB.out.below hb5 XB.out.lt)
         replace NB := Lib.hid (NB.out.below hb5 NB.out.lt)
         clear hin5 hb5 CA)
      | ((with_reducible refine one_kid_at 32 I5.out ?_ ?_)
         (· rfl)
         intro H w6 hk6 hb6
         have KA := Lib.hid hk6
         replace KO := Lib.hid (KO.out.below hb6)
         replace XB := Lib.hid (XB.out.below hb6 XB.out.lt)
         replace NB := Lib.hid (NB.out.below hb6 NB.out.lt)
         clear hk6 hb6 I5)
      | ((with_reducible refine kout_append_at 29 33 KO.out ?_ ?_ KA.out LE.out ?_)
         (· rfl)
         (· rfl)
         intro V7 w7 ho7 hs7 hb7 hf7
         have K7 := Lib.hid ho7
         have X7 := Lib.hid (XB.out.below hb7 (by omega))
         have N7 := Lib.hid (NB.out.below hb7 (by omega))
         clear ho7 hs7 hb7 hf7 KO XB NB KA))
      obtain ⟨A8, c8, rfl⟩ := K7.out.form
      have IN := Lib.hid (K7.out.done (z := 48) rfl)
      go_wp2_with ((with_reducible refine storeNode_at 2 36 (g + 1) 48 none 0 0 A8 3 c8 ?_ ?_ N7.out ?_); (· rfl); (· rfl))
      exact has_nodeX (B := g + 2) rfl rfl rfl N7.out IN.out (by have := HG.out; omega) (by omega) K7.out.bel
    · omega
end Go.Proofs.YtlmndmfebgaidaaGreatDoor
namespace Go.Proofs.YtlmndmfebgaidaaGreatDoor
open Go.RowKit
set_option linter.unusedVariables false
set_option linter.unusedSimpArgs false
set_option maxRecDepth 100000
def Z16 : List Int := List.replicate 16 0
theorem Z16_six : Sixteen Z16 := ⟨rfl, fun x hx => by rw [(List.mem_replicate.1 hx).2]; omega⟩
theorem acells_app (A B : List Int) : acells (A ++ B) = acells A ++ acells B := by simp [acells]
theorem full_cells (xs : List Int) : (xs.take 16).map (Value.int .u8) ++ (acells Z16).drop (xs.take 16).length = acells (fullA xs) := by
  unfold fullA
  rw [acells_app]
  congr 1
  unfold acells Z16
  rw [List.map_replicate, List.map_replicate, List.drop_replicate, List.length_take]
  congr 1
  omega
theorem splice_lo (v : Bool) (B xs : List Int) : (splice (scells ⟨v, Z16, B⟩).toList 1 ((xs.take 16).map (Value.int .u8))).toArray = scells ⟨v, fullA xs, B⟩ := by
  show (splice (Value.bool v :: (acells Z16 ++ acells B)) 1 _).toArray = (Value.bool v :: (acells (fullA xs) ++ acells B)).toArray
  unfold splice
  rw [List.take_succ_cons, List.take_zero, Nat.add_comm 1, List.drop_succ_cons, List.drop_append_of_le_length (by rw [List.length_map, List.length_take]; simp only [acells, Z16, List.length_map, List.length_replicate]; omega), List.length_map, ← full_cells xs]
  simp
theorem splice_hi (v : Bool) (A xs : List Int) (hA : A.length = 16) : (splice (scells ⟨v, A, Z16⟩).toList 17 ((xs.take 16).map (Value.int .u8))).toArray = scells ⟨v, A, fullA xs⟩ := by
  show (splice (Value.bool v :: (acells A ++ acells Z16)) 17 _).toArray = (Value.bool v :: (acells A ++ acells (fullA xs))).toArray
  have hl := acells_len hA
  unfold splice
  rw [show (17 : Nat) = 16 + 1 by rfl, List.take_succ_cons, List.take_append_of_le_length (by omega), List.take_of_length_le (by omega), show 16 + 1 + ((xs.take 16).map (Value.int .u8)).length = (16 + ((xs.take 16).map (Value.int .u8)).length) + 1 by omega, List.drop_succ_cons, List.drop_append, List.drop_of_length_le (by omega), hl, Nat.add_sub_cancel_left, List.nil_append, List.length_map, ← full_cells xs]
  simp
theorem Tryz.size8 : (Tryz.prog.info? 5).map (·.size) = some 1 := by kernel_rfl
theorem one8 (l : List Int) : ∀ u ∈ l.map (Value.int .u8), u.oneCell' = true := fun u hu => by
  obtain ⟨x, _, rfl⟩ := List.mem_map.1 hu
  rfl
theorem op_copy_part {o : Oper} {a : Act} {K : Act → World → Prop} {Q : Exit → Act → World → Prop} {w : World} (d s : Operand) (hop : o.op = .call { callee := .builtin .copy, args := #[d, s], argTypes := #[26, 26] })
    (g off dLen dCap : Nat) (sp : Option Addr) (sLen sCap : Nat) (hd : a.eval d = .slice (some ⟨g, off, none⟩) dLen dCap) (hs : a.eval s = .slice sp sLen sCap)
    (cur : Array Value) (t : TypeId) (hg : Blk w g t cur) (zs : List Int) (hr : Row w sp sLen zs) (hfit : off + dLen ≤ cur.size)
    (h : ∀ n w', Blk w' g t (splice cur.toList off ((zs.take dLen).map (Value.int .u8))).toArray → w.grownBy w' (some g) → K (a.put o.dst (goInt n)) w') : o.wp Tryz.prog a w K Q := by
  have hmn : Nat.min sLen dLen = min sLen dLen := rfl
  have hcl : ((zs.take dLen).map (Value.int .u8)).length = Nat.min sLen dLen := by rw [hmn, List.length_map, List.length_take, hr.1]; omega
  have hsrc : ∀ j v, ((zs.take dLen).map (Value.int .u8))[j]? = some v → ∃ b of, sp = some ⟨b, of, none⟩ ∧ w.cell? ⟨b, of + j, none⟩ = some v := fun j v hv => by
    have hj : j < min sLen dLen := by
      have := (List.getElem?_eq_some_iff.1 hv).1
      rw [hcl, hmn] at this
      exact this
    obtain ⟨b, of, e, hb, hc⟩ := hr.2.2 (by omega)
    have hj' : j < zs.length := by rw [hr.1]; omega
    refine ⟨b, of, e, ?_⟩
    rw [hc j (by omega)]
    rw [List.getElem?_map, List.getElem?_take, if_pos (by omega), List.getElem?_eq_getElem hj'] at hv
    rw [List.getElem?_eq_getElem hj']
    exact hv
  have ho1 := one8 (zs.take dLen)
  generalize (zs.take dLen).map (Value.int .u8) = cs at *
  by_cases h0 : Nat.min sLen dLen = 0
  · have hrun := run_copy_none (P := Tryz.prog) w 26 26 o.type 5 (some ⟨g, off, none⟩) sp dLen dCap sLen sCap Tryz.underlying26 Tryz.size8 h0
    have e0 : cs = [] := List.eq_nil_of_length_eq_zero (by rw [hcl, h0])
    subst e0
    refine op_of_run (goInt 0) w ?_ (h 0 w (by simpa [splice] using hg) (World.grownBy.refl w _))
    unfold execOp
    simp only [hop, resolve, invoke, builtin, Sem.run_bind, Sem.run_pure, Result.andThen_ok, List.map_toArray, List.map_cons, List.map_nil, hd, hs, hrun]
  · have hpos : 0 < cs.length := by omega
    obtain ⟨b, of, rfl, _⟩ := hsrc 0 cs[0] (List.getElem?_eq_getElem hpos)
    have hrun := run_copy_row (P := Tryz.prog) w 26 26 o.type 5 g off dLen dCap ⟨b, of, none⟩ sLen sCap cur t cs Tryz.underlying26 Tryz.size8 hg hcl (fun j v hv => by
      obtain ⟨b', of', e, hc⟩ := hsrc j v hv
      injection e with e
      injection e with e1 e2
      subst e1 e2
      rw [Addr.add_lit]
      exact hc) (by rw [hcl, hmn]; omega) ho1
    refine op_of_run (goInt cs.length) (w.setRow g (cur.toList.take off ++ cs ++ cur.toList.drop (off + cs.length)).toArray) ?_ (h cs.length _ (show _ = _ by simpa [splice] using setRow_heap w g _ _ _ _ hg) ⟨rfl, rfl, rfl, by simp [World.setRow], fun k _ hk => setRow_other w g k _ (fun e => hk (by simp [e]))⟩)
    unfold execOp
    simp only [hop, resolve, invoke, builtin, Sem.run_bind, Sem.run_pure, Result.andThen_ok, List.map_toArray, List.map_cons, List.map_nil, hd, hs, hrun]
theorem built_sp (v : Bool) : Tryz.prog.built 62 [(0, .bool v)] = some (scells ⟨v, Z16, Z16⟩) := by kernel_rfl
theorem yields_bytes {o : Oper} {a : Act} {W : World} (x : Operand) (ho : o.op = .load 26 x) (g off : Nat) (v : Value) (hx : a.eval x = .pointer (some ⟨g, off, none⟩)) (hc : W.cell? ⟨g, off, none⟩ = some v) : (execOp a.eval o).run Tryz.prog W = .ok (.value v) W := by
  have u3 := Tryz.underlying26
  unfold execOp
  simp only [ho, hx]
  go_simp
set_option maxHeartbeats 4000000 in
theorem spanOf13_any (v : Bool) (s t : T) (x y : Value) (w : World) (hs : s.In w x) (ht : t.In w y) : Calls Tryz.prog 59 #[.agg (famV v), x, y] w fun e w' => e = .returned (.agg (scells (spanOf v s t))) ∧ Below w.heap.size w w' := by
  obtain ⟨A, n, c, K, m, d, rfl, wx, rx, hn, hc, hm, hm', hks⟩ := hs.open
  obtain ⟨A2, n2, c2, K2, m2, d2, rfl, wy, ry, hn2, hc2, hk2, hm2, hks2⟩ := ht.open
  change Calls _ _ #[.agg (famV v), .agg (nodeC s.tag (.slice A n c) (.slice K m d)), .agg (nodeC t.tag (.slice A2 n2 c2) (.slice K2 m2 d2))] w _
  have ws1 : (w.alloc (.cells (famV v) 58)).heap.size = w.heap.size + 1 := by simp
  have ws2 : ((w.alloc (.cells (famV v) 58)).alloc (.cells (nodeC s.tag (.slice A n c) (.slice K m d)) 29)).heap.size = w.heap.size + 1 + 1 := by simp
  have ws3 : (((w.alloc (.cells (famV v) 58)).alloc (.cells (nodeC s.tag (.slice A n c) (.slice K m d)) 29)).alloc (.cells (nodeC t.tag (.slice A2 n2 c2) (.slice K2 m2 d2)) 29)).heap.size = w.heap.size + 1 + 1 + 1 := by simp
  have K0 := Blk.alloc (Blk.alloc (Blk.alloc (Blk.new w 58 (famV v)) (.cells (nodeC s.tag (.slice A n c) (.slice K m d)) 29)) (.cells (nodeC t.tag (.slice A2 n2 c2) (.slice K2 m2 d2)) 29)) (.cells (scells zeroS) 62)
  have K1 := Blk.alloc (Blk.alloc (Blk.new (w.alloc (.cells (famV v) 58)) 29 (nodeC s.tag (.slice A n c) (.slice K m d))) (.cells (nodeC t.tag (.slice A2 n2 c2) (.slice K2 m2 d2)) 29)) (.cells (scells zeroS) 62)
  have K2' := Blk.alloc (Blk.new ((w.alloc (.cells (famV v) 58)).alloc (.cells (nodeC s.tag (.slice A n c) (.slice K m d)) 29)) 29 (nodeC t.tag (.slice A2 n2 c2) (.slice K2 m2 d2))) (.cells (scells zeroS) 62)
  have K3 := Blk.new (((w.alloc (.cells (famV v) 58)).alloc (.cells (nodeC s.tag (.slice A n c) (.slice K m d)) 29)).alloc (.cells (nodeC t.tag (.slice A2 n2 c2) (.slice K2 m2 d2)) 29)) 62 (scells zeroS)
  rw [ws1] at K1
  rw [ws2] at K2'
  rw [ws3] at K3
  have bw := Below.step (Below.step (Below.step (box_below w (.cells (famV v) 58)) (box_below _ (.cells (nodeC s.tag (.slice A n c) (.slice K m d)) 29))) (box_below _ (.cells (nodeC t.tag (.slice A2 n2 c2) (.slice K2 m2 d2)) 29))) (box_below _ (.cells (scells zeroS) 62))
  have RX := Lib.hid (fun W (h : Below w.heap.size w W) => rx.below h)
  have RY := Lib.hid (fun W (h : Below w.heap.size w W) => ry.below h)
  have XB := Lib.hid rx.2.1
  have YB := Lib.hid ry.2.1
  have BW := Lib.hid bw
  go_enter Tryz.func59, Tryz.ntmps59
  go_upto_region 1 with (with_reducible refine alloc_span_at ?_)
  generalize (((w.alloc (.cells (famV v) 58)).alloc (.cells (nodeC s.tag (.slice A n c) (.slice K m d)) 29)).alloc (.cells (nodeC t.tag (.slice A2 n2 c2) (.slice K2 m2 d2)) 29)).alloc (.cells (scells zeroS) 62) = w2 at *
  try rw [ws3]
  obtain ⟨g, hg⟩ : ∃ g, w.heap.size = g := ⟨_, rfl⟩
  have HG := Lib.hid hg
  rw [hg] at K0 K1 K2' K3
  have c0 : w2.cell? ⟨g, 0, none⟩ = some (.bool v) := Blk.cell K0 0
  have N1 : Hid (Blk w2 (g + 1) 29 (nodeC s.tag (.slice A n c) (.slice K m d))) := Lib.hid K1
  have N2 : Hid (Blk w2 (g + 1 + 1) 29 (nodeC t.tag (.slice A2 n2 c2) (.slice K2 m2 d2))) := Lib.hid K2'
  have ZB : Hid (Blk w2 (g + 1 + 1 + 1) 62 (scells zeroS)) := Lib.hid K3
  have SZ1 : SixS ⟨v, Z16, Z16⟩ := ⟨Z16_six, Z16_six⟩
  have AZ : Hid (SBlk (w2.alloc (.cells (scells zeroS) 62)) w2.heap.size zeroS) := Lib.hid (sbox w2 zeroS)
  have F1 : Hid (Sixteen (fullA s.body)) := Lib.hid (full_six XB.out)
  have F2 : Hid (Sixteen (fullA t.body)) := Lib.hid (full_six YB.out)
  clear K0 K1 K2' K3 bw ws1 ws2 ws3 rx ry hks hks2 hs ht wx wy hc hc2 hm hm' hk2 hm2 hn hn2
  go_upto_region 2 with (first
    | ((refine build1_to rfl 62 _ rfl (some 10) rfl (scells ⟨v, Z16, Z16⟩) _ (built_sp v) ?_ ?_); (· rfl))
    | (with_reducible refine alloc_span_at ?_)
    | ((with_reducible refine store_span_at 7 10 w2.heap.size zeroS ⟨v, Z16, Z16⟩ zeroS_six SZ1 ?_ ?_ AZ.out ?_); (· rfl); (· rfl); rw [alloc_setRow]))
  have HB0 : Hid (Blk (w2.alloc (.cells (scells ⟨v, Z16, Z16⟩) 62)) w2.heap.size 62 (scells ⟨v, Z16, Z16⟩)) := Lib.hid (sbox w2 ⟨v, Z16, Z16⟩)
  have b3 := box_below w2 (.cells (scells ⟨v, Z16, Z16⟩) 62)
  have GL : Hid (g + 1 + 1 + 1 < w2.heap.size) := Lib.hid ZB.out.lt
  replace BW := Lib.hid (Below.step BW.out b3)
  replace N1 := Lib.hid (N1.out.below b3 N1.out.lt)
  replace N2 := Lib.hid (N2.out.below b3 N2.out.lt)
  replace ZB := Lib.hid (ZB.out.below b3 ZB.out.lt)
  clear AZ c0 b3
  generalize w2.alloc (.cells (scells ⟨v, Z16, Z16⟩) 62) = w3 at *
  obtain ⟨h, hh⟩ : ∃ h, w2.heap.size = h := ⟨_, rfl⟩
  rw [hh] at HB0 GL
  try rw [hh]
  refine wp_region_ord (ExtB h) (ExtB.refl _) ExtB.trans ((0, false) :: (1, false) :: (2, false) :: (3, false) :: (4, true) :: []) (by kernel_rfl) (by kernel_rfl) rfl (by kernel_rfl) (fun _ _ _ _ _ h => h) ?_
  change wpOrd _ _ _ _ _ _ (w3.drewN 1)
  have D1 := drewN_below w3 1
  replace BW := Lib.hid (Below.step BW.out D1)
  replace N1 := Lib.hid (N1.out.below D1 N1.out.lt)
  replace N2 := Lib.hid (N2.out.below D1 N2.out.lt)
  replace ZB := Lib.hid (ZB.out.below D1 ZB.out.lt)
  replace HB0 := Lib.hid (HB0.out.below D1 HB0.out.lt)
  clear D1
  generalize w3.drewN 1 = w4 at *
  have EK : Hid (∀ W, ExtB h w4 W → W.cell? ⟨g + 1, 1, none⟩ = some (.slice A n c)) := Lib.hid (fun W hW => Blk.cell (Blk.below N1.out hW (by have := GL.out; omega)) 1)
  repeat (first
    | (refine ord_skip rfl (by rfl) ?_; simp only [Act.put, List.setIfInBounds_toArray, List.set_cons_zero, List.set_cons_succ])
    | (refine ord_take _ rfl (by rfl) (fun W hW => yields_bytes (.tmp 13) rfl (g + 1) 1 (.slice A n c) rfl (EK.out W hW)) ?_; simp only [Act.put, List.setIfInBounds_toArray, List.set_cons_zero, List.set_cons_succ])
    | (refine ord_take _ rfl (by rfl) (fun W hW => by go_simp; first | done | rfl) ?_; simp only [Act.put, List.setIfInBounds_toArray, List.set_cons_zero, List.set_cons_succ])
    | (refine ord_sole rfl (by rfl) (fun K1 hK1 => ?_)
       refine op_copy_part (.tmp 12) (.tmp 14) rfl h 1 16 16 A n c rfl rfl _ 62 HB0.out s.body (RX.out _ BW.out) (by rw [scells_size SZ1]; decide) ?_
       intro nr w5 hbk hgk
       rw [splice_lo] at hbk
       have bk : Below h w4 w5 := ⟨hgk.os, hgk.tape, hgk.output, hgk.size, fun x hx => hgk.block x (Nat.lt_trans hx HB0.out.lt) (fun e => by injection e with e; omega)⟩
       refine hK1 _ _ bk ?_
       have HB1 := Lib.hid hbk
       replace BW := Lib.hid (Below.trans BW.out (Below.mono bk (by have := GL.out; have := HG.out; omega)))
       replace N1 := Lib.hid (N1.out.below bk (by have := GL.out; omega))
       replace N2 := Lib.hid (N2.out.below bk (by have := GL.out; omega))
       replace ZB := Lib.hid (ZB.out.below bk (by have := GL.out; omega))
       clear hK1 K1 hbk hgk bk EK HB0
       try simp only [Act.put, List.setIfInBounds_toArray, List.set_cons_zero, List.set_cons_succ]))
  refine ord_end ?_
  go_upto_region 3 with fail
  refine wp_region_ord (ExtB h) (ExtB.refl _) ExtB.trans ((0, false) :: (1, false) :: (2, false) :: (3, false) :: (4, true) :: []) (by kernel_rfl) (by kernel_rfl) rfl (by kernel_rfl) (fun _ _ _ _ _ h => h) ?_
  change wpOrd _ _ _ _ _ _ (w5.drewN 1)
  have D1 := drewN_below w5 1
  replace BW := Lib.hid (Below.step BW.out D1)
  replace N1 := Lib.hid (N1.out.below D1 N1.out.lt)
  replace N2 := Lib.hid (N2.out.below D1 N2.out.lt)
  replace ZB := Lib.hid (ZB.out.below D1 ZB.out.lt)
  replace HB1 := Lib.hid (HB1.out.below D1 HB1.out.lt)
  clear D1
  generalize w5.drewN 1 = w6 at *
  have EK : Hid (∀ W, ExtB h w6 W → W.cell? ⟨g + 1 + 1, 1, none⟩ = some (.slice A2 n2 c2)) := Lib.hid (fun W hW => Blk.cell (Blk.below N2.out hW (by have := GL.out; omega)) 1)
  repeat (first
    | (refine ord_skip rfl (by rfl) ?_; simp only [Act.put, List.setIfInBounds_toArray, List.set_cons_zero, List.set_cons_succ])
    | (refine ord_take _ rfl (by rfl) (fun W hW => yields_bytes (.tmp 18) rfl (g + 1 + 1) 1 (.slice A2 n2 c2) rfl (EK.out W hW)) ?_; simp only [Act.put, List.setIfInBounds_toArray, List.set_cons_zero, List.set_cons_succ])
    | (refine ord_take _ rfl (by rfl) (fun W hW => by go_simp; first | done | rfl) ?_; simp only [Act.put, List.setIfInBounds_toArray, List.set_cons_zero, List.set_cons_succ])
    | (refine ord_sole rfl (by rfl) (fun K1 hK1 => ?_)
       refine op_copy_part (.tmp 17) (.tmp 19) rfl h 17 16 16 A2 n2 c2 rfl rfl _ 62 HB1.out t.body (RY.out _ BW.out) (by rw [scells_size (show SixS ⟨v, fullA s.body, Z16⟩ from ⟨F1.out, Z16_six⟩)]; decide) ?_
       intro nr w7 hbk hgk
       rw [splice_hi v _ _ F1.out.1] at hbk
       have bk : Below h w6 w7 := ⟨hgk.os, hgk.tape, hgk.output, hgk.size, fun x hx => hgk.block x (Nat.lt_trans hx HB1.out.lt) (fun e => by injection e with e; omega)⟩
       refine hK1 _ _ bk ?_
       have HB2 := Lib.hid hbk
       replace BW := Lib.hid (Below.trans BW.out (Below.mono bk (by have := GL.out; have := HG.out; omega)))
       replace N1 := Lib.hid (N1.out.below bk (by have := GL.out; omega))
       replace N2 := Lib.hid (N2.out.below bk (by have := GL.out; omega))
       replace ZB := Lib.hid (ZB.out.below bk (by have := GL.out; omega))
       clear hK1 K1 hbk hgk bk EK HB1
       try simp only [Act.put, List.setIfInBounds_toArray, List.set_cons_zero, List.set_cons_succ]))
  refine ord_end ?_
  have S8 : Hid (SixS ⟨v, fullA s.body, fullA t.body⟩) := Lib.hid ⟨F1.out, F2.out⟩
  have SS8 := Lib.hid (Tryz.sizeS S8.out)
  have ZS : Hid (SBlk w7 (g + 1 + 1 + 1) zeroS) := Lib.hid ZB.out
  go_wp2_with (first
    | ((with_reducible refine load_whole_at 7 h (scells ⟨v, fullA s.body, fullA t.body⟩) ?_ HB2.out SS8.out ?_); (· rfl))
    | ((with_reducible refine store_span_at 6 21 (g + 1 + 1 + 1) zeroS ⟨v, fullA s.body, fullA t.body⟩ zeroS_six S8.out ?_ ?_ ZS.out ?_); (· rfl); (· rfl)))
  exact bodyPost_ret (results_cell_row rfl _ _ (g + 1 + 1 + 1) 62 (scells ⟨v, fullA s.body, fullA t.body⟩) (0, 0) _ rfl (setRow_heap _ _ _ _ 62 _ ZB.out) Tryz.underlying62 rfl (Tryz.sizeS ⟨F1.out, F2.out⟩)) rfl ⟨rfl, below_setRow BW.out (by have := HG.out; omega) _⟩
def num32 (t : T) : Nat := ((uintZ t).1 % 4294967296).toNat
theorem num32_is (t : T) : IntKind.u32.wrap (uintZ t).1 = (num32 t : Int) := by
  rw [IntKind.wrap_u32]
  unfold num32
  omega
theorem num32_lt (t : T) : num32 t < 4294967296 := by
  unfold num32
  omega
set_option maxHeartbeats 2000000 in
theorem number13_any (t : T) (v : Value) (w : World) (ht : t.In w v) (hl : t.body.length ≤ 1000000) : Calls Tryz.prog 88 #[v] w fun e w' => e = .returned (.int .u32 (num32 t : Int)) ∧ Below w.heap.size w w' := by
  have ht0 := ht
  obtain ⟨A, n, c, K, m, d, rfl, wx, rx, hn, hc, hm, hm', hks⟩ := ht.open
  change Calls _ _ #[.agg (nodeC t.tag (.slice A n c) (.slice K m d))] w _
  have NB := Lib.hid (nodebox w t.tag (.slice A n c) (.slice K m d))
  have bw := box_below w (.cells (nodeC t.tag (.slice A n c) (.slice K m d)) 29)
  have CU := Lib.hid (uint_any t (.agg (nodeC t.tag (.slice A n c) (.slice K m d))) _ (T.In.below bw t ht0) hl)
  have BW := Lib.hid bw
  have WR := Lib.hid (num32_is t)
  clear ht0 ht rx hks wx hn hc hm hm' bw
  generalize hw2 : w.alloc (.cells (nodeC t.tag (.slice A n c) (.slice K m d)) 29) = w2 at *
  obtain ⟨g, hg⟩ : ∃ g, w.heap.size = g := ⟨_, rfl⟩
  rw [hg] at NB
  generalize uintZ t = x at *
  go_enter Tryz.func88, Tryz.ntmps88
  go_wp2_with (first
    | (refine load_node_any (by rfl) (.tmp 1) rfl g rfl NB.out ?_)
    | (go_at_call 109
       refine CU.out.mono ?_
       rintro e w3 ⟨rfl, hb3⟩
       replace BW := Lib.hid (Below.step BW.out hb3)
       have wr : IntKind.u32.wrap x.1 = (num32 t : Int) := WR.out
       clear hb3 CU))
  go_ret
  exact ⟨rfl, BW.out⟩
theorem rangeOf_is (s t : T) : rangeOf s t = (num32 s, num32 t) := rfl
theorem op_store_rng {o : Oper} {a : Act} {w : World} {K : Act → World → Prop} {Q : Exit → Act → World → Prop} (x y : Operand) (ho : o.op = .store 54 x y) (hdst : o.dst = none) (g : Nat) (p : Nat × Nat) (hx : a.eval x = .pointer (some ⟨g, 0, none⟩)) (hy : a.eval y = .agg (rcells p))
    (hb : Blk w g 54 (rcells (0, 0))) (hK : K a (w.setRow g (rcells p))) : o.wp Tryz.prog a w K Q := by
  refine op_of_skip (w.setRow g (rcells p)) ?_ (by rw [hdst]; exact hK)
  unfold execOp
  simp only [ho, hx, hy, Instr.storeAt, Instr.sureAddr, Sem.run_bind, Sem.run_pure, Result.andThen_ok, run_storeVar_row (P := Tryz.prog) w g 54 54 (rcells (0, 0)) (rcells p) hb (by kernel_rfl) rfl (rcells_one p)]
theorem yields_rng {o : Oper} {a : Act} {W : World} (x y : Operand) (ho : o.op = .build 54 #[(0, x), (1, y)]) (p : Nat × Nat) (hx : a.eval x = .int .u32 (p.1 : Int)) (hy : a.eval y = .int .u32 (p.2 : Int)) : (execOp a.eval o).run Tryz.prog W = .ok (.value (.agg (rcells p))) W := by
  unfold execOp
  simp only [ho, List.map_toArray, List.map_cons, List.map_nil, hx, hy]
  go_simp
  first | done | rfl
set_option maxHeartbeats 4000000 in
theorem rangeOf13_any (s t : T) (x y : Value) (w : World) (hs : s.In w x) (ht : t.In w y) (ls : s.body.length ≤ 1000000) (lt : t.body.length ≤ 1000000) : Calls Tryz.prog 61 #[x, y] w fun e w' => e = .returned (.agg (rcells (rangeOf s t))) ∧ Below w.heap.size w w' := by
  have hs0 := hs
  have ht0 := ht
  obtain ⟨A, n, c, K, m, d, rfl, _⟩ := hs.open
  obtain ⟨A2, n2, c2, K2, m2, d2, rfl, _⟩ := ht.open
  change Calls _ _ #[.agg (nodeC s.tag (.slice A n c) (.slice K m d)), .agg (nodeC t.tag (.slice A2 n2 c2) (.slice K2 m2 d2))] w _
  have ws1 : (w.alloc (.cells (nodeC s.tag (.slice A n c) (.slice K m d)) 29)).heap.size = w.heap.size + 1 := by simp
  have ws2 : ((w.alloc (.cells (nodeC s.tag (.slice A n c) (.slice K m d)) 29)).alloc (.cells (nodeC t.tag (.slice A2 n2 c2) (.slice K2 m2 d2)) 29)).heap.size = w.heap.size + 1 + 1 := by simp
  have K0 := Blk.alloc (Blk.alloc (Blk.new w 29 (nodeC s.tag (.slice A n c) (.slice K m d))) (.cells (nodeC t.tag (.slice A2 n2 c2) (.slice K2 m2 d2)) 29)) (.cells (rcells (0, 0)) 54)
  have K1 := Blk.alloc (Blk.new (w.alloc (.cells (nodeC s.tag (.slice A n c) (.slice K m d)) 29)) 29 (nodeC t.tag (.slice A2 n2 c2) (.slice K2 m2 d2))) (.cells (rcells (0, 0)) 54)
  have K3 := Blk.new ((w.alloc (.cells (nodeC s.tag (.slice A n c) (.slice K m d)) 29)).alloc (.cells (nodeC t.tag (.slice A2 n2 c2) (.slice K2 m2 d2)) 29)) 54 (rcells (0, 0))
  rw [ws1] at K1
  rw [ws2] at K3
  have bw := Below.step (Below.step (box_below w (.cells (nodeC s.tag (.slice A n c) (.slice K m d)) 29)) (box_below _ (.cells (nodeC t.tag (.slice A2 n2 c2) (.slice K2 m2 d2)) 29))) (box_below _ (.cells (rcells (0, 0)) 54))
  have C1 := Lib.hid (fun W (h : Below w.heap.size w W) => number13_any s (.agg (nodeC s.tag (.slice A n c) (.slice K m d))) W (T.In.below h s hs0) ls)
  have C2 := Lib.hid (fun W (h : Below w.heap.size w W) => number13_any t (.agg (nodeC t.tag (.slice A2 n2 c2) (.slice K2 m2 d2))) W (T.In.below h t ht0) lt)
  have ER := Lib.hid (rangeOf_is s t)
  rw [ER.out]
  have BW := Lib.hid bw
  clear hs ht hs0 ht0 ls lt bw ER
  generalize num32 s = x1 at *
  generalize num32 t = x2 at *
  go_enter Tryz.func61, Tryz.ntmps61
  go_upto_region 1 with (with_reducible refine allocR_at ?_)
  generalize ((w.alloc (.cells (nodeC s.tag (.slice A n c) (.slice K m d)) 29)).alloc (.cells (nodeC t.tag (.slice A2 n2 c2) (.slice K2 m2 d2)) 29)).alloc (.cells (rcells (0, 0)) 54) = w2 at *
  try rw [ws2]
  obtain ⟨g, hg⟩ : ∃ g, w.heap.size = g := ⟨_, rfl⟩
  have HG := Lib.hid hg
  rw [hg] at K0 K1 K3
  have N1 : Hid (Blk w2 g 29 (nodeC s.tag (.slice A n c) (.slice K m d))) := Lib.hid K0
  have N2 : Hid (Blk w2 (g + 1) 29 (nodeC t.tag (.slice A2 n2 c2) (.slice K2 m2 d2))) := Lib.hid K1
  have ZB : Hid (Blk w2 (g + 1 + 1) 54 (rcells (0, 0))) := Lib.hid K3
  clear K0 K1 K3 ws1 ws2
  simp only [Act.put, List.setIfInBounds_toArray, List.set_cons_zero, List.set_cons_succ, hg]
  refine wp_region_ord (ExtB (g + 1 + 1)) (ExtB.refl _) ExtB.trans ((0, false) :: (2, false) :: (1, true) :: (3, true) :: (4, false) :: (5, true) :: []) (by kernel_rfl) (by kernel_rfl) rfl (by kernel_rfl) (fun _ _ _ _ _ h => h) ?_
  change wpOrd _ _ _ _ _ _ (w2.drewN 1)
  have D1 := drewN_below w2 1
  replace BW := Lib.hid (Below.step BW.out D1)
  replace N1 := Lib.hid (N1.out.below D1 N1.out.lt)
  replace N2 := Lib.hid (N2.out.below D1 N2.out.lt)
  replace ZB := Lib.hid (ZB.out.below D1 ZB.out.lt)
  clear D1
  generalize w2.drewN 1 = w3 at *
  repeat (first
    | (refine ord_skip rfl (by rfl) ?_; simp only [Act.put, List.setIfInBounds_toArray, List.set_cons_zero, List.set_cons_succ])
    | (refine ord_take _ rfl (by rfl) (fun W hW => yields_row 29 (.tmp 2) rfl g 29 (nodeC s.tag (.slice A n c) (.slice K m d)) _ rfl (Blk.below N1.out hW (by omega)) Tryz.underlying29 rfl (Tryz.sizeNd _ _ _)) ?_; simp only [Act.put, List.setIfInBounds_toArray, List.set_cons_zero, List.set_cons_succ])
    | (refine ord_take _ rfl (by rfl) (fun W hW => yields_row 29 (.tmp 3) rfl (g + 1) 29 (nodeC t.tag (.slice A2 n2 c2) (.slice K2 m2 d2)) _ rfl (Blk.below N2.out hW (by omega)) Tryz.underlying29 rfl (Tryz.sizeNd _ _ _)) ?_; simp only [Act.put, List.setIfInBounds_toArray, List.set_cons_zero, List.set_cons_succ])
    | (refine ord_take _ rfl (by rfl) (fun W hW => yields_rng (.tmp 6) (.tmp 8) rfl (x1, x2) rfl rfl) ?_; simp only [Act.put, List.setIfInBounds_toArray, List.set_cons_zero, List.set_cons_succ])
    | (refine ord_sole rfl (by rfl) (fun K1 hK1 => ?_)
       refine op_store_rng (.tmp 4) (.tmp 9) rfl rfl (g + 1 + 1) (x1, x2) rfl rfl ZB.out ?_
       refine hK1 _ _ (below_setRow (Below.refl _ _) (Nat.le_refl _) _) ?_
       clear hK1 K1)
    | (refine ord_sole rfl (by rfl) (fun K1 hK1 => ?_)
       go_simp
       refine (C1.out _ BW.out).mono ?_
       rintro e w4 ⟨rfl, hb4⟩
       refine hK1 _ _ (hb4.mono (Nat.le_of_lt ZB.out.lt)) ?_
       replace BW := Lib.hid (Below.step BW.out hb4)
       replace ZB := Lib.hid (ZB.out.below hb4 ZB.out.lt)
       replace N1 := Lib.hid (N1.out.below hb4 N1.out.lt)
       replace N2 := Lib.hid (N2.out.below hb4 N2.out.lt)
       clear hK1 K1 hb4 C1
       try simp only [Act.put, List.setIfInBounds_toArray, List.set_cons_zero, List.set_cons_succ])
    | (refine ord_sole rfl (by rfl) (fun K1 hK1 => ?_)
       go_simp
       refine (C2.out _ BW.out).mono ?_
       rintro e w5 ⟨rfl, hb5⟩
       refine hK1 _ _ (hb5.mono (Nat.le_of_lt ZB.out.lt)) ?_
       replace BW := Lib.hid (Below.step BW.out hb5)
       replace ZB := Lib.hid (ZB.out.below hb5 ZB.out.lt)
       clear hK1 K1 hb5 C2 N1 N2
       try simp only [Act.put, List.setIfInBounds_toArray, List.set_cons_zero, List.set_cons_succ]))
  refine ord_end ?_
  go_wp2_with fail
  exact bodyPost_ret (results_cell_row rfl _ _ (g + 1 + 1) 54 (rcells (x1, x2)) (0, 0) _ rfl (setRow_heap _ _ _ _ 54 _ ZB.out) Tryz.underlying54 rfl (by kernel_rfl)) rfl ⟨rfl, below_setRow BW.out (by have := HG.out; omega) _⟩
end Go.Proofs.YtlmndmfebgaidaaGreatDoor
namespace Go.Proofs.YtlmndmfebgaidaaGreatDoor
open Go.RowKit
set_option linter.unusedVariables false
set_option linter.unusedSimpArgs false
set_option maxRecDepth 100000
theorem own_keep {u u' : World} {B sz n : Nat} {e : TypeId} {V : Value} {xs : List Value} (h : u.ownsRow B e sz V n xs) (hk : ∀ b, V.ownBlock = some b → u'.heap[b]? = u.heap[b]?) : u'.ownsRow B e sz V n xs := by
  refine ⟨h.1, ?_⟩
  rcases h.2 with hn | ⟨g, cap, cur, rfl, hb, hgg, rest⟩
  · exact .inl hn
  · exact .inr ⟨g, cap, cur, rfl, hb, (hk g rfl).trans hgg, rest⟩
structure PSt (w : World) (B R : Nat) (u : World) (i : Bool) (V V2 : Value) (S : List SpanZ) (N : List (Nat × Nat)) : Prop where
  bel : Below w.heap.size w u
  lo : w.heap.size ≤ R
  rb : R < B
  hi : B ≤ u.heap.size
  box : Blk u R 25 (resC i V V2)
  sp : u.ownsRow B 62 33 V S.length (flatS S)
  s6 : SixL S
  rg : u.ownsRow B 54 2 V2 N.length (flatR N)
  ok : OkL N
  ap : ∀ b, V.ownBlock = some b → V2.ownBlock ≠ some b
section
variable {w u : World} {B R : Nat} {i : Bool} {V V2 : Value} {S : List SpanZ} {N : List (Nat × Nat)}
theorem PSt.lt1 (h : PSt w B R u i V V2 S N) {b : Nat} (e : V.ownBlock = some b) : B ≤ b ∧ b < u.heap.size := h.sp.lt b e
theorem PSt.lt2 (h : PSt w B R u i V V2 S N) {b : Nat} (e : V2.ownBlock = some b) : B ≤ b ∧ b < u.heap.size := h.rg.lt b e
theorem PSt.below (h : PSt w B R u i V V2 S N) {u' : World} (hb : Below u.heap.size u u') : PSt w B R u' i V V2 S N :=
  ⟨Below.step h.bel hb, h.lo, h.rb, Nat.le_trans h.hi hb.size, h.box.below hb h.box.lt, own_keep h.sp (fun b e => hb.block b (h.lt1 e).2), h.s6, own_keep h.rg (fun b e => hb.block b (h.lt2 e).2), h.ok, h.ap⟩
theorem PSt.form1 (h : PSt w B R u i V V2 S N) : ∃ a c, V = .slice a S.length c ∧ SpFar B u a S.length c S := by
  rcases h.sp.2 with ⟨e, h0⟩ | ⟨g, cap, cur, e, h1, h2, h3⟩
  · have e0 : S = [] := List.eq_nil_of_length_eq_zero h0
    subst e0
    exact ⟨none, 0, e, ⟨SpRow.nil _ _, fun _ => ⟨rfl, rfl⟩⟩, fun h => absurd h (by simp)⟩
  · refine ⟨_, cap, e, ⟨⟨rfl, h.s6, fun _ => ⟨g, 0, rfl, (Array.getElem?_eq_some_iff.1 h2).1, fun j hj => ?_⟩⟩, fun e => by cases e⟩, fun _ => ⟨g, 0, rfl, h1⟩⟩
    have hs := h.sp
    rw [e] at hs
    rw [Nat.zero_add, hs.cellAt j hj]
theorem PSt.form2 (h : PSt w B R u i V V2 S N) : ∃ a c, V2 = .slice a N.length c ∧ RgFar B u a N.length c N := by
  rcases h.rg.2 with ⟨e, h0⟩ | ⟨g, cap, cur, e, h1, h2, h3⟩
  · have e0 : N = [] := List.eq_nil_of_length_eq_zero h0
    subst e0
    exact ⟨none, 0, e, ⟨RgRow.nil _ _, fun _ => ⟨rfl, rfl⟩⟩, fun h => absurd h (by simp)⟩
  · refine ⟨_, cap, e, ⟨⟨rfl, h.ok, fun _ => ⟨g, 0, rfl, (Array.getElem?_eq_some_iff.1 h2).1, fun j hj => ?_⟩⟩, fun e => by cases e⟩, fun _ => ⟨g, 0, rfl, h1⟩⟩
    have hs := h.rg
    rw [e] at hs
    rw [Nat.zero_add, hs.cellAt j hj]
def AppTo (B : Nat) (e : TypeId) (sz : Nat) (V V' : Value) (n : Nat) (xs : List Value) (u u' : World) : Prop := u'.ownsRow B e sz V' n xs ∧ Below B u u' ∧ (∀ x, x < u.heap.size → V.ownBlock ≠ some x → u'.heap[x]? = u.heap[x]?) ∧ (V'.ownBlock = V.ownBlock ∨ V'.ownBlock = some u.heap.size)
theorem AppTo.below {B : Nat} {e : TypeId} {sz : Nat} {V V' : Value} {n : Nat} {xs : List Value} {u u' : World} (h : AppTo B e sz V V' n xs u u') : u.heap.size ≤ u'.heap.size := h.2.1.size
theorem op_app_span (h : PSt w B R u i V V2 S N) {o : Oper} {a : Act} {K : Act → World → Prop} {Q : Exit → Act → World → Prop} (x y : Operand) (s : SpanZ) (hs : SixS s) (H : Nat) (hr : SpRow u (some ⟨H, 0, none⟩) 1 [s])
    (hop : o.op = .call { callee := .builtin .append, args := #[x, y], argTypes := #[22, 22] }) (hx : a.eval x = V) (hy : a.eval y = .slice (some ⟨H, 0, none⟩) 1 1) (hl : S.length + 1 ≤ 100000)
    (hK : ∀ V' u', AppTo B 62 33 V V' (S ++ [s]).length (flatS (S ++ [s])) u u' → K (a.put o.dst V') u') : o.wp Tryz.prog a u K Q := by
  obtain ⟨i0, hi5, hz0, hz1, hz2⟩ := info_parts Tryz.infoSpan
  have hcl : (flatS [s]).length = 1 * 33 := by rw [flatS_len (fun x hx => by rw [List.mem_singleton.1 hx]; exact hs)]; rfl
  obtain ⟨V', u', hrun, h1, hg1, _, hat⟩ := run_append_own_at (P := Tryz.prog) (w := u) B 22 o.type 62 i0 (.agg (scells zeroS)) 33 33 Tryz.underlying22 hi5 hz0 hz1 hz2 (scells_size zeroS_six) (by decide) V S.length (flatS S) h.sp ⟨H, 0, none⟩ 1 1 (flatS [s]) hcl (fun j v hv => by
    obtain ⟨b, off, e, _, hc⟩ := hr.2.2 (by decide)
    injection e with e
    injection e with e1 e2
    subst e1 e2
    have hj : j < 1 * 33 := by have := (List.getElem?_eq_some_iff.1 hv).1; omega
    rw [Addr.add_lit, hc j hj]
    exact hv) (flatS_one [s]) (by unfold maxLen; omega) (by omega) h.hi
  refine op_of_run V' u' ?_ (hK V' u' ⟨?_, ⟨hg1.os, hg1.tape, hg1.output, hg1.size, fun x hx => hg1.block x (Nat.lt_of_lt_of_le hx h.hi) (fun e => by have := (h.lt1 e.symm).1; omega)⟩, fun x hx hne => hg1.block x hx (fun e => hne e.symm), hat⟩)
  · unfold execOp
    simp only [hop, resolve, invoke, builtin, Sem.run_bind, Sem.run_pure, Result.andThen_ok, List.map_toArray, List.map_cons, List.map_nil, hx, hy, hrun]
  · rw [List.length_append, flatS_app]
    exact h1
theorem op_app_range (h : PSt w B R u i V V2 S N) {o : Oper} {a : Act} {K : Act → World → Prop} {Q : Exit → Act → World → Prop} (x y : Operand) (s : Nat × Nat) (hs : OkR s) (H : Nat) (hr : RgRow u (some ⟨H, 0, none⟩) 1 [s])
    (hop : o.op = .call { callee := .builtin .append, args := #[x, y], argTypes := #[23, 23] }) (hx : a.eval x = V2) (hy : a.eval y = .slice (some ⟨H, 0, none⟩) 1 1) (hl : N.length + 1 ≤ 100000)
    (hK : ∀ V' u', AppTo B 54 2 V2 V' (N ++ [s]).length (flatR (N ++ [s])) u u' → K (a.put o.dst V') u') : o.wp Tryz.prog a u K Q := by
  obtain ⟨i0, hi5, hz0, hz1, hz2⟩ := info_parts Tryz.infoRange
  have hcl : (flatR [s]).length = 1 * 2 := rfl
  obtain ⟨V', u', hrun, h1, hg1, _, hat⟩ := run_append_own_at (P := Tryz.prog) (w := u) B 23 o.type 54 i0 (.agg (rcells (0, 0))) 2 8 Tryz.underlying23 hi5 hz0 hz1 hz2 rfl (by decide) V2 N.length (flatR N) h.rg ⟨H, 0, none⟩ 1 1 (flatR [s]) hcl (fun j v hv => by
    obtain ⟨b, off, e, _, hc⟩ := hr.2.2 (by decide)
    injection e with e
    injection e with e1 e2
    subst e1 e2
    have hj : j < 1 * 2 := by have := (List.getElem?_eq_some_iff.1 hv).1; omega
    rw [Addr.add_lit, hc j hj]
    exact hv) (flatR_one [s]) (by unfold maxLen; omega) (by omega) h.hi
  refine op_of_run V' u' ?_ (hK V' u' ⟨?_, ⟨hg1.os, hg1.tape, hg1.output, hg1.size, fun x hx => hg1.block x (Nat.lt_of_lt_of_le hx h.hi) (fun e => by have := (h.lt2 e.symm).1; omega)⟩, fun x hx hne => hg1.block x hx (fun e => hne e.symm), hat⟩)
  · unfold execOp
    simp only [hop, resolve, invoke, builtin, Sem.run_bind, Sem.run_pure, Result.andThen_ok, List.map_toArray, List.map_cons, List.map_nil, hx, hy, hrun]
  · rw [List.length_append, flatR_app]
    exact h1
theorem PSt.set1 (h : PSt w B R u i V V2 S N) {V' : Value} {S' : List SpanZ} {u' : World} (hs : SixL S') (ha : AppTo B 62 33 V V' S'.length (flatS S') u u') : PSt w B R (u'.setCell ⟨R, 1, none⟩ V') i V' V2 S' N := by
  obtain ⟨h1, h2, h3, h4⟩ := ha
  have hR : R < u.heap.size := h.box.lt
  have hbox : Blk u' R 25 (resC i V V2) := h.box.below h2 h.rb
  have hfar : ∀ b, b ≠ R → (u'.setCell ⟨R, 1, none⟩ V').heap[b]? = u'.heap[b]? := fun b hb => heap_setCell_other u' ⟨R, 1, none⟩ b V' hb
  have hr := h.rb
  refine ⟨Below.setCell (Below.trans h.bel (h2.mono (by have := h.lo; omega))) (p := ⟨R, 1, none⟩) h.lo _, h.lo, h.rb, by have := h.hi; have := h2.size; simp; omega, Blk.set hbox 1 V', own_keep h1 (fun b e => hfar b (by have := (h1.lt b e).1; omega)), hs, own_keep h.rg (fun b e => ?_), h.ok, fun b e => ?_⟩
  · have hb := h.lt2 e
    rw [hfar b (by omega)]
    exact h3 b hb.2 (fun e1 => h.ap b e1 e)
  · rcases h4 with h4 | h4
    · exact h.ap b (h4 ▸ e)
    · rw [h4] at e
      injection e with e
      intro e2
      have := (h.lt2 e2).2
      omega
theorem PSt.set2 (h : PSt w B R u i V V2 S N) {V' : Value} {N' : List (Nat × Nat)} {u' : World} (hs : OkL N') (ha : AppTo B 54 2 V2 V' N'.length (flatR N') u u') : PSt w B R (u'.setCell ⟨R, 2, none⟩ V') i V V' S N' := by
  obtain ⟨h1, h2, h3, h4⟩ := ha
  have hR : R < u.heap.size := h.box.lt
  have hbox : Blk u' R 25 (resC i V V2) := h.box.below h2 h.rb
  have hfar : ∀ b, b ≠ R → (u'.setCell ⟨R, 2, none⟩ V').heap[b]? = u'.heap[b]? := fun b hb => heap_setCell_other u' ⟨R, 2, none⟩ b V' hb
  have hr := h.rb
  refine ⟨Below.setCell (Below.trans h.bel (h2.mono (by have := h.lo; omega))) (p := ⟨R, 2, none⟩) h.lo _, h.lo, h.rb, by have := h.hi; have := h2.size; simp; omega, Blk.set hbox 2 V', own_keep h.sp (fun b e => ?_), h.s6, own_keep h1 (fun b e => hfar b (by have := (h1.lt b e).1; omega)), hs, fun b e => ?_⟩
  · have hb := h.lt1 e
    rw [hfar b (by omega)]
    exact h3 b hb.2 (fun e1 => h.ap b e e1)
  · rcases h4 with h4 | h4
    · rw [h4]
      exact h.ap b e
    · rw [h4]
      intro e2
      injection e2 with e2
      have := (h.lt1 e).2
      omega
def NewRow (u : World) (V V' : Value) : Prop := V'.ownBlock = V.ownBlock ∨ ∃ b, V'.ownBlock = some b ∧ u.heap.size ≤ b
theorem op_rg_build1 {o : Oper} {a : Act} {w : World} {K : Act → World → Prop} {Q : Exit → Act → World → Prop} (s : Nat × Nat) (hs : OkR s) (parts : Array (Nat × Operand)) (ho : o.op = .buildSlice 23 1 parts) (hps : (parts.map fun (i, x) => (i, a.eval x)).toList = [(0, .agg (rcells s))])
    (hK : ∀ g w', RgRow w' (some ⟨g, 0, none⟩) 1 [s] → Below w.heap.size w w' → K (a.put o.dst (.slice (some ⟨g, 0, none⟩) 1 1)) w') : o.wp Tryz.prog a w K Q :=
  op_buildSlice 23 54 1 parts ho Tryz.underlying23 _ _ (rbuilt_one s) hps (hK _ _ (rg_one w hs) (box_below _ _))
end
theorem own_form {u : World} {B sz n : Nat} {e : TypeId} {V : Value} {xs : List Value} (h : u.ownsRow B e sz V n xs) : ∃ a c, V = .slice a n c := by
  rcases h.2 with ⟨e, h0⟩ | ⟨g, cap, cur, e, _⟩
  · exact ⟨none, 0, by rw [h0]; exact e⟩
  · exact ⟨_, cap, e⟩
set_option maxHeartbeats 4000000 in
theorem parse1_any (w u : World) (B R F : Nat) (i v : Bool) (V V2 : Value) (S : List SpanZ) (N : List (Nat × Nat)) (s t : T) (x y : Value) (h : PSt w B R u i V V2 S N) (hF : Blk u F 58 (famV v)) (hFR : F ≠ R) (hFV : V.ownBlock ≠ some F) (hs : s.In u x) (ht : t.In u y) (hl : S.length + 1 ≤ 100000) :
    Calls Tryz.prog 58 #[x, y, .pointer (some ⟨R, 0, none⟩), .pointer (some ⟨F, 0, none⟩)] u fun e u' => e = .returned (.tuple #[]) ∧ ∃ V', PSt w B R u' i V' V2 (S ++ [spanOf v s t]) N ∧ StillV R V u u' ∧ NewRow u V V' := by
  have hs0 := hs
  have ht0 := ht
  obtain ⟨A, n, c, K, m, d, rfl, _⟩ := hs.open
  obtain ⟨A2, n2, c2, K2, m2, d2, rfl, _⟩ := ht.open
  change Calls _ _ #[.agg (nodeC s.tag (.slice A n c) (.slice K m d)), .agg (nodeC t.tag (.slice A2 n2 c2) (.slice K2 m2 d2)), .pointer (some ⟨R, 0, none⟩), .pointer (some ⟨F, 0, none⟩)] u _
  have K0 := Blk.alloc (Blk.new u 29 (nodeC s.tag (.slice A n c) (.slice K m d))) (.cells (nodeC t.tag (.slice A2 n2 c2) (.slice K2 m2 d2)) 29)
  have K1 := Blk.new (u.alloc (.cells (nodeC s.tag (.slice A n c) (.slice K m d)) 29)) 29 (nodeC t.tag (.slice A2 n2 c2) (.slice K2 m2 d2))
  have ws1 : (u.alloc (.cells (nodeC s.tag (.slice A n c) (.slice K m d)) 29)).heap.size = u.heap.size + 1 := by simp
  rw [ws1] at K1
  have bw := Below.step (box_below u (.cells (nodeC s.tag (.slice A n c) (.slice K m d)) 29)) (box_below _ (.cells (nodeC t.tag (.slice A2 n2 c2) (.slice K2 m2 d2)) 29))
  have CS := Lib.hid (fun W (hb : Below u.heap.size u W) => spanOf13_any v s t (.agg (nodeC s.tag (.slice A n c) (.slice K m d))) (.agg (nodeC t.tag (.slice A2 n2 c2) (.slice K2 m2 d2))) W (T.In.below hb s hs0) (T.In.below hb t ht0))
  have VL := Lib.hid (fun b (e : V.ownBlock = some b) => (h.lt1 e).2)
  have P0 := Lib.hid (h.below bw)
  have SV : Hid (StillV R V u ((u.alloc (.cells (nodeC s.tag (.slice A n c) (.slice K m d)) 29)).alloc (.cells (nodeC t.tag (.slice A2 n2 c2) (.slice K2 m2 d2)) 29))) := Lib.hid (StillV.below bw)
  have BW := Lib.hid bw
  have FB := Lib.hid (hF.below bw hF.lt)
  have FR := Lib.hid hFR
  have FVE := Lib.hid hFV
  have RL : Hid (R < u.heap.size) := Lib.hid h.box.lt
  have OK : Hid (SixS (spanOf v s t)) := Lib.hid (⟨full_six (by obtain ⟨A1, n1, c1, K1, m1, d1, e, _, rx, _⟩ := hs0.open; exact rx.2.1), full_six (by obtain ⟨A1, n1, c1, K1, m1, d1, e, _, rx, _⟩ := ht0.open; exact rx.2.1)⟩)
  have LE : Hid (S.length + 1 ≤ 100000) := Lib.hid hl
  clear h hs ht hs0 ht0 bw hF hFR hFV hl
  generalize (spanOf v s t) = z at *
  go_enter Tryz.func58, Tryz.ntmps58
  go_upto_region 1 with fail
  generalize (u.alloc (.cells (nodeC s.tag (.slice A n c) (.slice K m d)) 29)).alloc (.cells (nodeC t.tag (.slice A2 n2 c2) (.slice K2 m2 d2)) 29) = w2 at *
  try rw [ws1]
  obtain ⟨g, hg⟩ : ∃ g, u.heap.size = g := ⟨_, rfl⟩
  have HG := Lib.hid hg
  rw [hg] at K0 K1 RL VL
  have N1 : Hid (Blk w2 g 29 (nodeC s.tag (.slice A n c) (.slice K m d))) := Lib.hid K0
  have N2 : Hid (Blk w2 (g + 1) 29 (nodeC t.tag (.slice A2 n2 c2) (.slice K2 m2 d2))) := Lib.hid K1
  clear K0 K1 ws1
  simp only [Act.put, List.setIfInBounds_toArray, List.set_cons_zero, List.set_cons_succ, hg]
  refine wp_region_plan (StillV R V) (StillV.refl _ _) StillV.trans (.take 0 (.take 2 (.take 3 (.take 4 (.fork 1 (.sole 5 (.sole 6 (.sole 7 (.take 8 (.sole 9 .fin))))) 5 (.fork 1 (.sole 6 (.sole 7 (.take 8 (.sole 9 .fin)))) 6 (.sole 1 (.sole 7 (.take 8 (.sole 9 .fin)))))))))) (by kernel_rfl) (by kernel_rfl) rfl (by kernel_rfl) (fun _ _ _ _ _ h => h) ?_
  change wpPlan _ _ _ _ _ _ (w2.drewN 1)
  have D1 := drewN_below w2 1
  replace BW := Lib.hid (Below.step BW.out D1)
  replace N1 := Lib.hid (N1.out.below D1 N1.out.lt)
  replace N2 := Lib.hid (N2.out.below D1 N2.out.lt)
  replace P0 := Lib.hid (P0.out.below D1)
  replace SV := Lib.hid (StillV.trans _ _ _ SV.out (StillV.below D1))
  replace FB := Lib.hid (FB.out.below D1 FB.out.lt)
  clear D1
  generalize w2.drewN 1 = w3 at *
  have E1 : Hid (∀ W, StillV R V w3 W → Blk W g 29 (nodeC s.tag (.slice A n c) (.slice K m d))) := Lib.hid (fun W hW => (hW.2 g N1.out.lt (by have := RL.out; omega) (fun e => by have := VL.out g e; omega)).trans N1.out)
  have E2 : Hid (∀ W, StillV R V w3 W → Blk W (g + 1) 29 (nodeC t.tag (.slice A2 n2 c2) (.slice K2 m2 d2))) := Lib.hid (fun W hW => (hW.2 (g + 1) N2.out.lt (by have := RL.out; omega) (fun e => by have := VL.out (g + 1) e; omega)).trans N2.out)
  have E3 : Hid (∀ W, StillV R V w3 W → Blk W F 58 (famV v)) := Lib.hid (fun W hW => (hW.2 F FB.out.lt FR.out FVE.out).trans FB.out)
  repeat' (first
    | (refine plan_take _ rfl (by rfl) (fun W hW => yields_row 29 (.tmp 4) rfl g 29 (nodeC s.tag (.slice A n c) (.slice K m d)) _ rfl (E1.out W hW) Tryz.underlying29 rfl (Tryz.sizeNd _ _ _)) ?_; simp only [Act.put, List.setIfInBounds_toArray, List.set_cons_zero, List.set_cons_succ])
    | (refine plan_take _ rfl (by rfl) (fun W hW => yields_row 29 (.tmp 5) rfl (g + 1) 29 (nodeC t.tag (.slice A2 n2 c2) (.slice K2 m2 d2)) _ rfl (E2.out W hW) Tryz.underlying29 rfl (Tryz.sizeNd _ _ _)) ?_; simp only [Act.put, List.setIfInBounds_toArray, List.set_cons_zero, List.set_cons_succ])
    | (refine plan_take _ rfl (by rfl) (fun W hW => yields_row 58 (.tmp 3) rfl F 58 (famV v) _ rfl (E3.out W hW) Tryz.underlying58 rfl (Tryz.sizeFam v)) ?_; simp only [Act.put, List.setIfInBounds_toArray, List.set_cons_zero, List.set_cons_succ])
    | (refine plan_take _ rfl (by rfl) (fun W hW => by go_simp; first | done | rfl) ?_; simp only [Act.put, List.setIfInBounds_toArray, List.set_cons_zero, List.set_cons_succ])
    | (refine plan_fork ?_ ?_)
    | ((first | refine plan_sole (sole_take rfl (by rfl) (fun K1 hK1 => ?_)) | refine sole_take rfl (by rfl) (fun K1 hK1 => ?_))
       refine op_of_run _ _ (yields_spans (.tmp 6) rfl R 1 V rfl (Blk.cell P0.out.box 1)) ?_
       refine hK1 _ _ (StillV.refl _ _ _) ?_
       clear hK1 K1
       try simp only [Act.put, List.setIfInBounds_toArray, List.set_cons_zero, List.set_cons_succ])
    | ((first | refine plan_sole (sole_take rfl (by rfl) (fun K1 hK1 => ?_)) | refine sole_take rfl (by rfl) (fun K1 hK1 => ?_))
       refine op_sp_build1 z OK.out _ rfl (by kernel_rfl) ?_
       intro H w5 hr5 hb5 _ _
       refine hK1 _ _ (StillV.below hb5) ?_
       have R5 := Lib.hid hr5
       replace BW := Lib.hid (Below.step BW.out hb5)
       replace P0 := Lib.hid (P0.out.below hb5)
       replace SV := Lib.hid (StillV.trans _ _ _ SV.out (StillV.below hb5))
       clear hK1 K1 hr5 hb5
       try simp only [Act.put, List.setIfInBounds_toArray, List.set_cons_zero, List.set_cons_succ])
    | ((first | refine plan_sole (sole_take rfl (by rfl) (fun K1 hK1 => ?_)) | refine sole_take rfl (by rfl) (fun K1 hK1 => ?_))
       refine op_app_span P0.out (.tmp 7) (.tmp 12) z OK.out H R5.out rfl rfl rfl LE.out ?_
       intro V6 w6 ha6
       have sv6 : StillV R V w5 w6 := ⟨ha6.below, fun c hc _ hne => ha6.2.2.1 c hc hne⟩
       refine hK1 _ _ sv6 ?_
       have A6 := Lib.hid ha6
       replace SV := Lib.hid (StillV.trans _ _ _ SV.out sv6)
       have X6 := Lib.hid (P0.out.box.below ha6.2.1 P0.out.rb)
       have O6 : Hid (NewRow u V V6) := Lib.hid (ha6.2.2.2.elim .inl (fun e => .inr ⟨_, e, by have := BW.out.size; omega⟩))
       clear hK1 K1 sv6 ha6
       try simp only [Act.put, List.setIfInBounds_toArray, List.set_cons_zero, List.set_cons_succ])
    | ((first | refine plan_sole (sole_take rfl (by rfl) (fun K1 hK1 => ?_)) | refine sole_take rfl (by rfl) (fun K1 hK1 => ?_))
       obtain ⟨a6, c6, hV6⟩ := own_form A6.out.1
       refine op_store_cell 22 (.tmp 14) (.tmp 13) rfl rfl R 1 V6 rfl rfl X6.out (show 1 < 3 by decide) (by kernel_rfl) (by rw [hV6]; rfl) (by rw [hV6]; rfl) ?_
       refine hK1 _ _ (StillV.cellS _ _ _ _ _) ?_
       have P7 := Lib.hid (P0.out.set1 (fun x hx => (List.mem_append.1 hx).elim (fun hx => P0.out.s6 x hx) (fun hx => by rw [List.mem_singleton.1 hx]; exact OK.out)) A6.out)
       replace SV := Lib.hid (StillV.trans _ _ _ SV.out (StillV.cellS R 1 V w6 V6))
       clear hK1 K1 hV6 P0 A6 X6
       generalize w6.setCell ⟨R, 1, none⟩ V6 = w7 at *
       try simp only [Act.put, List.setIfInBounds_toArray, List.set_cons_zero, List.set_cons_succ])
    | ((first | refine plan_sole (sole_take rfl (by rfl) (fun K1 hK1 => ?_)) | refine sole_take rfl (by rfl) (fun K1 hK1 => ?_))
       go_simp
       refine (CS.out _ BW.out).mono ?_
       rintro e w4 ⟨rfl, hb4⟩
       refine hK1 _ _ (StillV.below hb4) ?_
       replace BW := Lib.hid (Below.step BW.out hb4)
       replace P0 := Lib.hid (P0.out.below hb4)
       replace SV := Lib.hid (StillV.trans _ _ _ SV.out (StillV.below hb4))
       clear hK1 K1 hb4 CS
       try simp only [Act.put, List.setIfInBounds_toArray, List.set_cons_zero, List.set_cons_succ])
    | refine plan_end ?_)
  all_goals (
    go_wp2_with fail
    go_end0
    exact ⟨rfl, V6, P7.out, SV.out, O6.out⟩)
set_option maxHeartbeats 4000000 in
theorem parse2_any (w u : World) (B R F : Nat) (i v : Bool) (V V2 : Value) (S : List SpanZ) (N : List (Nat × Nat)) (s t : T) (x y : Value) (h : PSt w B R u i V V2 S N) (l1 : s.body.length ≤ 1000000) (l2 : t.body.length ≤ 1000000) (hs : s.In u x) (ht : t.In u y) (hl : N.length + 1 ≤ 100000) :
    Calls Tryz.prog 60 #[x, y, .pointer (some ⟨R, 0, none⟩)] u fun e u' => e = .returned (.tuple #[]) ∧ ∃ V', PSt w B R u' i V V' S (N ++ [rangeOf s t]) ∧ StillV R V2 u u' ∧ NewRow u V2 V' := by
  have hs0 := hs
  have ht0 := ht
  obtain ⟨A, n, c, K, m, d, rfl, _⟩ := hs.open
  obtain ⟨A2, n2, c2, K2, m2, d2, rfl, _⟩ := ht.open
  change Calls _ _ #[.agg (nodeC s.tag (.slice A n c) (.slice K m d)), .agg (nodeC t.tag (.slice A2 n2 c2) (.slice K2 m2 d2)), .pointer (some ⟨R, 0, none⟩)] u _
  have K0 := Blk.alloc (Blk.new u 29 (nodeC s.tag (.slice A n c) (.slice K m d))) (.cells (nodeC t.tag (.slice A2 n2 c2) (.slice K2 m2 d2)) 29)
  have K1 := Blk.new (u.alloc (.cells (nodeC s.tag (.slice A n c) (.slice K m d)) 29)) 29 (nodeC t.tag (.slice A2 n2 c2) (.slice K2 m2 d2))
  have ws1 : (u.alloc (.cells (nodeC s.tag (.slice A n c) (.slice K m d)) 29)).heap.size = u.heap.size + 1 := by simp
  rw [ws1] at K1
  have bw := Below.step (box_below u (.cells (nodeC s.tag (.slice A n c) (.slice K m d)) 29)) (box_below _ (.cells (nodeC t.tag (.slice A2 n2 c2) (.slice K2 m2 d2)) 29))
  have CS := Lib.hid (fun W (hb : Below u.heap.size u W) => rangeOf13_any s t (.agg (nodeC s.tag (.slice A n c) (.slice K m d))) (.agg (nodeC t.tag (.slice A2 n2 c2) (.slice K2 m2 d2))) W (T.In.below hb s hs0) (T.In.below hb t ht0) l1 l2)
  have VL := Lib.hid (fun b (e : V2.ownBlock = some b) => (h.lt2 e).2)
  have P0 := Lib.hid (h.below bw)
  have SV : Hid (StillV R V2 u ((u.alloc (.cells (nodeC s.tag (.slice A n c) (.slice K m d)) 29)).alloc (.cells (nodeC t.tag (.slice A2 n2 c2) (.slice K2 m2 d2)) 29))) := Lib.hid (StillV.below bw)
  have BW := Lib.hid bw
  skip
  have RL : Hid (R < u.heap.size) := Lib.hid h.box.lt
  have OK : Hid (OkR (rangeOf s t)) := Lib.hid (⟨num32_lt s, num32_lt t⟩)
  have LE : Hid (N.length + 1 ≤ 100000) := Lib.hid hl
  clear h hs ht hs0 ht0 bw hl l1 l2
  generalize (rangeOf s t) = z at *
  go_enter Tryz.func60, Tryz.ntmps60
  go_upto_region 1 with fail
  generalize (u.alloc (.cells (nodeC s.tag (.slice A n c) (.slice K m d)) 29)).alloc (.cells (nodeC t.tag (.slice A2 n2 c2) (.slice K2 m2 d2)) 29) = w2 at *
  try rw [ws1]
  obtain ⟨g, hg⟩ : ∃ g, u.heap.size = g := ⟨_, rfl⟩
  have HG := Lib.hid hg
  rw [hg] at K0 K1 RL VL
  have N1 : Hid (Blk w2 g 29 (nodeC s.tag (.slice A n c) (.slice K m d))) := Lib.hid K0
  have N2 : Hid (Blk w2 (g + 1) 29 (nodeC t.tag (.slice A2 n2 c2) (.slice K2 m2 d2))) := Lib.hid K1
  clear K0 K1 ws1
  simp only [Act.put, List.setIfInBounds_toArray, List.set_cons_zero, List.set_cons_succ, hg]
  refine wp_region_plan (StillV R V2) (StillV.refl _ _) StillV.trans (.take 0 (.take 2 (.take 3 (.fork 1 (.sole 4 (.sole 5 (.sole 6 (.take 7 (.sole 8 .fin))))) 4 (.fork 1 (.sole 5 (.sole 6 (.take 7 (.sole 8 .fin)))) 5 (.sole 1 (.sole 6 (.take 7 (.sole 8 .fin))))))))) (by kernel_rfl) (by kernel_rfl) rfl (by kernel_rfl) (fun _ _ _ _ _ h => h) ?_
  change wpPlan _ _ _ _ _ _ (w2.drewN 1)
  have D1 := drewN_below w2 1
  replace BW := Lib.hid (Below.step BW.out D1)
  replace N1 := Lib.hid (N1.out.below D1 N1.out.lt)
  replace N2 := Lib.hid (N2.out.below D1 N2.out.lt)
  replace P0 := Lib.hid (P0.out.below D1)
  replace SV := Lib.hid (StillV.trans _ _ _ SV.out (StillV.below D1))
  skip
  clear D1
  generalize w2.drewN 1 = w3 at *
  have E1 : Hid (∀ W, StillV R V2 w3 W → Blk W g 29 (nodeC s.tag (.slice A n c) (.slice K m d))) := Lib.hid (fun W hW => (hW.2 g N1.out.lt (by have := RL.out; omega) (fun e => by have := VL.out g e; omega)).trans N1.out)
  have E2 : Hid (∀ W, StillV R V2 w3 W → Blk W (g + 1) 29 (nodeC t.tag (.slice A2 n2 c2) (.slice K2 m2 d2))) := Lib.hid (fun W hW => (hW.2 (g + 1) N2.out.lt (by have := RL.out; omega) (fun e => by have := VL.out (g + 1) e; omega)).trans N2.out)
  skip
  repeat' (first
    | (refine plan_take _ rfl (by rfl) (fun W hW => yields_row 29 (.tmp 3) rfl g 29 (nodeC s.tag (.slice A n c) (.slice K m d)) _ rfl (E1.out W hW) Tryz.underlying29 rfl (Tryz.sizeNd _ _ _)) ?_; simp only [Act.put, List.setIfInBounds_toArray, List.set_cons_zero, List.set_cons_succ])
    | (refine plan_take _ rfl (by rfl) (fun W hW => yields_row 29 (.tmp 4) rfl (g + 1) 29 (nodeC t.tag (.slice A2 n2 c2) (.slice K2 m2 d2)) _ rfl (E2.out W hW) Tryz.underlying29 rfl (Tryz.sizeNd _ _ _)) ?_; simp only [Act.put, List.setIfInBounds_toArray, List.set_cons_zero, List.set_cons_succ])
    | (refine plan_take _ rfl (by rfl) (fun W hW => by go_simp; first | done | rfl) ?_; simp only [Act.put, List.setIfInBounds_toArray, List.set_cons_zero, List.set_cons_succ])
    | (refine plan_fork ?_ ?_)
    | ((first | refine plan_sole (sole_take rfl (by rfl) (fun K1 hK1 => ?_)) | refine sole_take rfl (by rfl) (fun K1 hK1 => ?_))
       refine op_of_run _ _ (yields_ranges (.tmp 5) rfl R 2 V2 rfl (Blk.cell P0.out.box 2)) ?_
       refine hK1 _ _ (StillV.refl _ _ _) ?_
       clear hK1 K1
       try simp only [Act.put, List.setIfInBounds_toArray, List.set_cons_zero, List.set_cons_succ])
    | ((first | refine plan_sole (sole_take rfl (by rfl) (fun K1 hK1 => ?_)) | refine sole_take rfl (by rfl) (fun K1 hK1 => ?_))
       refine op_rg_build1 z OK.out _ rfl (by kernel_rfl) ?_
       intro H w5 hr5 hb5 
       refine hK1 _ _ (StillV.below hb5) ?_
       have R5 := Lib.hid hr5
       replace BW := Lib.hid (Below.step BW.out hb5)
       replace P0 := Lib.hid (P0.out.below hb5)
       replace SV := Lib.hid (StillV.trans _ _ _ SV.out (StillV.below hb5))
       clear hK1 K1 hr5 hb5
       try simp only [Act.put, List.setIfInBounds_toArray, List.set_cons_zero, List.set_cons_succ])
    | ((first | refine plan_sole (sole_take rfl (by rfl) (fun K1 hK1 => ?_)) | refine sole_take rfl (by rfl) (fun K1 hK1 => ?_))
       refine op_app_range P0.out (.tmp 6) (.tmp 10) z OK.out H R5.out rfl rfl rfl LE.out ?_
       intro V6 w6 ha6
       have sv6 : StillV R V2 w5 w6 := ⟨ha6.below, fun c hc _ hne => ha6.2.2.1 c hc hne⟩
       refine hK1 _ _ sv6 ?_
       have A6 := Lib.hid ha6
       replace SV := Lib.hid (StillV.trans _ _ _ SV.out sv6)
       have X6 := Lib.hid (P0.out.box.below ha6.2.1 P0.out.rb)
       have O6 : Hid (NewRow u V2 V6) := Lib.hid (ha6.2.2.2.elim .inl (fun e => .inr ⟨_, e, by have := BW.out.size; omega⟩))
       clear hK1 K1 sv6 ha6
       try simp only [Act.put, List.setIfInBounds_toArray, List.set_cons_zero, List.set_cons_succ])
    | ((first | refine plan_sole (sole_take rfl (by rfl) (fun K1 hK1 => ?_)) | refine sole_take rfl (by rfl) (fun K1 hK1 => ?_))
       obtain ⟨a6, c6, hV6⟩ := own_form A6.out.1
       refine op_store_cell 23 (.tmp 12) (.tmp 11) rfl rfl R 2 V6 rfl rfl X6.out (show 2 < 3 by decide) (by kernel_rfl) (by rw [hV6]; rfl) (by rw [hV6]; rfl) ?_
       refine hK1 _ _ (StillV.cellS _ _ _ _ _) ?_
       have P7 := Lib.hid (P0.out.set2 (fun x hx => (List.mem_append.1 hx).elim (fun hx => P0.out.ok x hx) (fun hx => by rw [List.mem_singleton.1 hx]; exact OK.out)) A6.out)
       replace SV := Lib.hid (StillV.trans _ _ _ SV.out (StillV.cellS R 2 V2 w6 V6))
       clear hK1 K1 hV6 P0 A6 X6
       generalize w6.setCell ⟨R, 2, none⟩ V6 = w7 at *
       try simp only [Act.put, List.setIfInBounds_toArray, List.set_cons_zero, List.set_cons_succ])
    | ((first | refine plan_sole (sole_take rfl (by rfl) (fun K1 hK1 => ?_)) | refine sole_take rfl (by rfl) (fun K1 hK1 => ?_))
       go_simp
       refine (CS.out _ BW.out).mono ?_
       rintro e w4 ⟨rfl, hb4⟩
       refine hK1 _ _ (StillV.below hb4) ?_
       replace BW := Lib.hid (Below.step BW.out hb4)
       replace P0 := Lib.hid (P0.out.below hb4)
       replace SV := Lib.hid (StillV.trans _ _ _ SV.out (StillV.below hb4))
       clear hK1 K1 hb4 CS
       try simp only [Act.put, List.setIfInBounds_toArray, List.set_cons_zero, List.set_cons_succ])
    | refine plan_end ?_)
  all_goals (
    go_wp2_with fail
    go_end0
    exact ⟨rfl, V6, P7.out, SV.out, O6.out⟩)
end Go.Proofs.YtlmndmfebgaidaaGreatDoor
