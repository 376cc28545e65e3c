/-
  Merged texts: ReM, ReR, ReO, ReS, ScH.
-/
import Derived.Test.YtlmndmfebgaidaaGreatDoorGrI
import Derived.Test.YtlmndmfebgaidaaGreatDoorGrK
import Derived.Test.YtlmndmfebgaidaaGreatDoorGrD
import Derived.Test.YtlmndmfebgaidaaGreatDoorGrA
import Derived.Test.YtlmndmfebgaidaaGreatDoorGrH
namespace Go.Proofs.YtlmndmfebgaidaaGreatDoor
open Go.RowKit
set_option linter.unusedVariables false
set_option maxRecDepth 100000
def resC (b : Bool) (x y : Value) : Array Value := #[.bool b, x, y]
def ResAt (w : World) (v : Value) (r : ResZ) : Prop := ∃ (a : Option Addr) (n c : Nat) (b : Option Addr) (m d : Nat), v = .agg (resC r.inh (.slice a n c) (.slice b m d)) ∧ SpArg w a n c r.sp ∧ RgArg w b m d r.ns
theorem ResAt.below {w W : World} {v : Value} {r : ResZ} (h : ResAt w v r) (hb : Below w.heap.size w W) : ResAt W v r := by
  obtain ⟨a, n, c, b, m, d, e, h1, h2⟩ := h
  exact ⟨a, n, c, b, m, d, e, h1.below hb, h2.below hb⟩
theorem ResAt.ok {w : World} {v : Value} {r : ResZ} (h : ResAt w v r) : ResOk r := by
  obtain ⟨a, n, c, b, m, d, e, h1, h2⟩ := h
  exact ⟨h1.spans, h2.under⟩
theorem SpArg.nilS (W : World) : SpArg W none 0 0 [] := ⟨SpRow.nil _ _, fun _ => ⟨rfl, rfl⟩⟩
theorem ResAt.zero (w : World) : ResAt w (.agg (resC false (.slice none 0 0) (.slice none 0 0))) zeroRes := ⟨none, 0, 0, none, 0, 0, rfl, SpArg.nilS _, ⟨RgRow.nil _ _, fun _ => ⟨rfl, rfl⟩⟩⟩
def GivesRes (x : ResZ × Int) (w : World) (e : Ending) (w' : World) : Prop := ∃ v, e = .returned (.tuple #[v, .int .i64 x.2]) ∧ ResAt w' v x.1 ∧ Below w.heap.size w w'
theorem resbox (w : World) (b : Bool) (x y : Value) : Blk (w.alloc (.cells (resC b x y) 25)) w.heap.size 25 (resC b x y) := Blk.new _ _ _
theorem Tryz.sizeRes (b : Bool) (x y : Value) : (Tryz.prog.info? 25).map (·.size) = some (resC b x y).size := by kernel_rfl
def lightR (r : ResZ) : Bool := decide (r.sp.length ≤ 30) && decide (r.ns.length ≤ 30)
set_option maxHeartbeats 500000 in
theorem rlight13_any (r : ResZ) (v : Value) (w : World) (h : ResAt w v r) : Calls Tryz.prog 9 #[v] w fun e w' => e = .returned (.bool (lightR r)) ∧ Below w.heap.size w w' := by
  obtain ⟨a, n, c, b, m, d, rfl, h1, h2⟩ := h
  have BX := resbox w r.inh (.slice a n c) (.slice b m d)
  have c1 : (w.alloc (.cells (resC r.inh (.slice a n c) (.slice b m d)) 25)).cell? ⟨w.heap.size, 1, none⟩ = some (.slice a n c) := Blk.cell BX 1
  have c2 : (w.alloc (.cells (resC r.inh (.slice a n c) (.slice b m d)) 25)).cell? ⟨w.heap.size, 2, none⟩ = some (.slice b m d) := Blk.cell BX 2
  have BW := Lib.hid (boxR_below w (.cells (resC r.inh (.slice a n c) (.slice b m d)) 25))
  have EL : Hid (lightR r = (decide (n ≤ 30) && decide (m ≤ 30))) := Lib.hid (by unfold lightR; rw [h1.1.1, h2.1.1])
  clear h1 h2 BX
  generalize lightR r = q at *
  go_enter Tryz.func9, Tryz.ntmps9
  generalize hw2 : w.alloc (.cells (resC r.inh (.slice a n c) (.slice b m d)) 25) = w2 at *
  by_cases h1 : n ≤ 30
  · have t1 : decide ((n : Int) ≤ 30) = true := decide_eq_true (by omega)
    have t1' : decide (n ≤ 30) = true := decide_eq_true h1
    by_cases h2 : m ≤ 30
    · have t2 : decide ((m : Int) ≤ 30) = true := decide_eq_true (by omega)
      have t2' : decide (m ≤ 30) = true := decide_eq_true h2
      go_wp2_with fail
      go_ret
      exact ⟨by rw [EL.out, t1', t2']; rfl, BW.out⟩
    · have t2 : decide ((m : Int) ≤ 30) = false := decide_eq_false (by omega)
      have t2' : decide (m ≤ 30) = false := decide_eq_false h2
      go_wp2_with fail
      go_ret
      exact ⟨by rw [EL.out, t1', t2']; rfl, BW.out⟩
  · have t1 : decide ((n : Int) ≤ 30) = false := decide_eq_false (by omega)
    have t1' : decide (n ≤ 30) = false := decide_eq_false h1
    go_wp2_with fail
    go_ret
    exact ⟨by rw [EL.out, t1']; rfl, BW.out⟩
set_option maxHeartbeats 1000000 in
theorem rsame13_any (x y : ResZ) (u v : Value) (w : World) (hx : ResAt w u x) (hy : ResAt w v y) (lx : x.sp.length ≤ 90000) (ly : y.sp.length ≤ 90000) (nx : x.ns.length ≤ 90000) : Calls Tryz.prog 16 #[u, v] w fun e w' => e = .returned (.bool (eqRes x y)) ∧ Below w.heap.size w w' := by
  obtain ⟨a, n, c, b, m, d, rfl, h1, h2⟩ := hx
  obtain ⟨a', n', c', b', m', d', rfl, k1, k2⟩ := hy
  have BX := Blk.alloc (resbox w x.inh (.slice a n c) (.slice b m d)) (.cells (resC y.inh (.slice a' n' c') (.slice b' m' d')) 25)
  have BY := resbox (w.alloc (.cells (resC x.inh (.slice a n c) (.slice b m d)) 25)) y.inh (.slice a' n' c') (.slice b' m' d')
  rw [show (w.alloc (.cells (resC x.inh (.slice a n c) (.slice b m d)) 25)).heap.size = w.heap.size + 1 by simp] at BY
  have bw := Below.step (boxR_below w (.cells (resC x.inh (.slice a n c) (.slice b m d)) 25)) (boxR_below _ (.cells (resC y.inh (.slice a' n' c') (.slice b' m' d')) 25))
  have S1 := Lib.hid (h1.below bw)
  have S2 := Lib.hid (k1.below bw)
  have R1 := Lib.hid (h2.below bw)
  have R2 := Lib.hid (k2.below bw)
  have BW := Lib.hid bw
  have hn := h1.1.1
  have hn' := k1.1.1
  have hm := h2.1.1
  clear bw
  generalize hw2 : (w.alloc (.cells (resC x.inh (.slice a n c) (.slice b m d)) 25)).alloc (.cells (resC y.inh (.slice a' n' c') (.slice b' m' d')) 25) = w2 at *
  have CS := Lib.hid (sameS_any a a' n c n' c' x.sp y.sp w2 S1.out.1 (by omega) S2.out.1 (by omega))
  have CR := Lib.hid (fun W (hb : Below w2.heap.size w2 W) => rsame_any b b' m d m' d' x.ns y.ns W (R1.out.below hb) (by omega) (R2.out.below hb))
  have c0 : w2.cell? ⟨w.heap.size, 0, none⟩ = some (.bool x.inh) := Blk.cell BX 0
  have c1 : w2.cell? ⟨w.heap.size, 1, none⟩ = some (.slice a n c) := Blk.cell BX 1
  have d0 : w2.cell? ⟨w.heap.size + 1, 0, none⟩ = some (.bool y.inh) := Blk.cell BY 0
  have d1 : w2.cell? ⟨w.heap.size + 1, 1, none⟩ = some (.slice a' n' c') := Blk.cell BY 1
  have XB := Lib.hid BX
  have YB := Lib.hid BY
  have EE : Hid (eqRes x y = ((x.inh == y.inh) && (eqLS x.sp y.sp && eqLR x.ns y.ns))) := Lib.hid rfl
  clear BX BY h1 h2 k1 k2 S1 S2 R1 R2 lx ly nx hn hn' hm
  generalize eqRes x y = q at *
  generalize eqLS x.sp y.sp = q1 at *
  generalize eqLR x.ns y.ns = q2 at *
  go_enter Tryz.func16, Tryz.ntmps16
  generalize x.inh = i at *
  generalize y.inh = j at *
  cases hij : (i == j) with
  | false =>
    rw [hij, Bool.false_and] at EE
    have e := EE.out
    subst e
    go_wp2_with fail
    go_ret
    exact ⟨rfl, BW.out⟩
  | true =>
    rw [hij, Bool.true_and] at EE
    cases q1 with
    | false =>
      have e := EE.out
      rw [Bool.false_and] at e
      subst e
      go_wp2_with (go_at_call 37; refine CS.out.mono ?_; rintro r w3 ⟨rfl, hb3⟩; have B3 := Lib.hid (Below.step BW.out hb3); clear hb3 CS)
      go_ret
      exact ⟨rfl, B3.out⟩
    | true =>
      have e := EE.out
      rw [Bool.true_and] at e
      subst e
      go_wp2_with (first
        | (go_at_call 37
           refine CS.out.mono ?_
           rintro r w3 ⟨rfl, hb3⟩
           have B3 := Lib.hid (Below.step BW.out hb3)
           have K3 := Lib.hid hb3
           have e2 : w3.cell? ⟨w.heap.size, 2, none⟩ = some (.slice b m d) := Blk.cell (XB.out.below hb3 XB.out.lt) 2
           have f2 : w3.cell? ⟨w.heap.size + 1, 2, none⟩ = some (.slice b' m' d') := Blk.cell (YB.out.below hb3 YB.out.lt) 2
           clear hb3 CS)
        | (go_at_call 38
           refine (CR.out _ K3.out).mono ?_
           rintro r w4 ⟨rfl, hb4⟩
           have B4 := Lib.hid (Below.step B3.out hb4)
           clear hb4 CR))
      go_ret
      exact ⟨rfl, B4.out⟩
end Go.Proofs.YtlmndmfebgaidaaGreatDoor
namespace Go.Proofs.YtlmndmfebgaidaaGreatDoor
open Go.RowKit
set_option linter.unusedVariables false
set_option maxRecDepth 100000
theorem yields_spans {o : Oper} {a : Act} {W : World} (x : Operand) (ho : o.op = .load 22 x) (g off : Nat) (v : Value) (hx : a.eval x = .pointer (some ⟨g, off, none⟩)) (hc : W.cell? ⟨g, off, none⟩ = some v) : (execOp a.eval o).run Tryz.prog W = .ok (.value v) W := by
  have u3 := Tryz.underlying22
  unfold execOp
  simp only [ho, hx]
  go_simp
theorem yields_ranges {o : Oper} {a : Act} {W : World} (x : Operand) (ho : o.op = .load 23 x) (g off : Nat) (v : Value) (hx : a.eval x = .pointer (some ⟨g, off, none⟩)) (hc : W.cell? ⟨g, off, none⟩ = some v) : (execOp a.eval o).run Tryz.prog W = .ok (.value v) W := by
  have u3 := Tryz.underlying23
  unfold execOp
  simp only [ho, hx]
  go_simp
set_option maxHeartbeats 2000000 in
theorem rright13_any (r : ResZ) (v : Value) (w : World) (h : ResAt w v r) (hl : r.sp.length ≤ 40000) (hm : r.ns.length ≤ 40000) : Calls Tryz.prog 18 #[v] w fun e w' => e = .returned (.bool (rightR r)) ∧ Below w.heap.size w w' := by
  obtain ⟨a, n, c, b, m, d, rfl, h1, h2⟩ := h
  have hn' := h1.1.1
  have hm' := h2.1.1
  have BX := resbox w r.inh (.slice a n c) (.slice b m d)
  have bw := boxR_below w (.cells (resC r.inh (.slice a n c) (.slice b m d)) 25)
  have S1 := Lib.hid (h1.below bw)
  have R1 := Lib.hid (h2.below bw)
  have BW := Lib.hid bw
  clear bw
  generalize hw2 : w.alloc (.cells (resC r.inh (.slice a n c) (.slice b m d)) 25) = w2 at *
  obtain ⟨g, hg⟩ : ∃ g, w.heap.size = g := ⟨_, rfl⟩
  rw [hg] at BX
  have c0 : w2.cell? ⟨g, 0, none⟩ = some (.bool r.inh) := Blk.cell BX 0
  have c1 : w2.cell? ⟨g, 1, none⟩ = some (.slice a n c) := Blk.cell BX 1
  have c2 : w2.cell? ⟨g, 2, none⟩ = some (.slice b m d) := Blk.cell BX 2
  have XB := Lib.hid BX
  have ER : Hid (rightR r = if r.inh = true then decide (n = 0) && decide (m = 0) else if n + m = 0 ∨ 400 < n ∨ 400 < m then false else eqLS (joinS r.sp) r.sp && eqLR (joinZ r.ns) r.ns) := Lib.hid (by unfold rightR; rw [hn', hm'])
  have CJ := Lib.hid (fun W (h : SpArg W a n c r.sp) => rjoin_any a n c r.sp W h.1 h.2 (by omega))
  have CS := Lib.hid (fun (A : Option Addr) (k ca : Nat) (X : List SpanZ) (W : World) (h : SpArg W A k ca X) (hk : k ≤ 90000) (g : SpArg W a n c r.sp) => sameS_any A a k ca n c X r.sp W h.1 hk g.1 (by omega))
  have CI := Lib.hid (fun W (h : RgArg W b m d r.ns) (hm : m ≤ 10000) => rjoinR_any b m d r.ns W h hm)
  have CT := Lib.hid (fun (A : Option Addr) (k ca : Nat) (X : List (Nat × Nat)) (W : World) (h : RgArg W A k ca X) (hk : k ≤ 100000) (g : RgArg W b m d r.ns) => rsame_any A b k ca m d X r.ns W h hk g)
  have LJ : Hid ((joinS r.sp).length ≤ 90000) := Lib.hid (by have := joinS_len r.sp; omega)
  have LI : Hid ((joinZ r.ns).length ≤ 100000) := Lib.hid (by have := join_len' r.ns; omega)
  clear BX h1 h2 hn' hm'
  generalize rightR r = z at *
  generalize joinS r.sp = J at *
  generalize joinZ r.ns = I at *
  have hnm : n ≤ 40000 ∧ m ≤ 40000 := by
    have := S1.out.1.1
    have := R1.out.1.1
    omega
  obtain ⟨n4, m4⟩ := hnm
  clear hl hm
  generalize r.inh = i at *
  generalize r.sp = X at *
  generalize r.ns = Y at *
  go_enter Tryz.func18, Tryz.ntmps18
  cases i with
  | true =>
    have e := ER.out
    rw [if_pos rfl] at e
    by_cases n0 : n = 0
    · have t1 : ((n : Int) == 0) = true := by rw [beq_iff_eq]; omega
      rw [decide_eq_true n0, Bool.true_and] at e
      by_cases m0 : m = 0
      · have t2 : ((m : Int) == 0) = true := by rw [beq_iff_eq]; omega
        rw [decide_eq_true m0] at e
        have E2 := Lib.hid e
        clear e ER n0 m0
        go_wp2_with fail
        go_ret
        exact ⟨by rw [E2.out]; rfl, BW.out⟩
      · have t2 : ((m : Int) == 0) = false := by rw [beq_eq_false_iff_ne]; omega
        rw [decide_eq_false m0] at e
        have E2 := Lib.hid e
        clear e ER n0 m0
        go_wp2_with fail
        go_ret
        exact ⟨by rw [E2.out]; rfl, BW.out⟩
    · have t1 : ((n : Int) == 0) = false := by rw [beq_eq_false_iff_ne]; omega
      rw [decide_eq_false n0, Bool.false_and] at e
      have E2 := Lib.hid e
      clear e ER n0
      go_wp2_with fail
      go_ret
      exact ⟨by rw [E2.out]; rfl, BW.out⟩
  | false =>
    have e := ER.out
    rw [if_neg (by decide)] at e
    have q1 : IntKind.i64.wrap ((n : Int) + (m : Int)) = (n : Int) + (m : Int) := IntWalk.i64_in _ (by omega)
    by_cases h0 : n + m = 0
    · have t1 : ((n : Int) + (m : Int) == 0) = true := by rw [beq_iff_eq]; omega
      rw [if_pos (.inl h0)] at e
      have E2 := Lib.hid e
      clear e ER h0
      go_wp2_with fail
      go_ret
      exact ⟨by rw [E2.out]; rfl, BW.out⟩
    · have t1 : ((n : Int) + (m : Int) == 0) = false := by rw [beq_eq_false_iff_ne]; omega
      by_cases h1 : 400 < n
      · have t2 : decide ((400 : Int) < (n : Int)) = true := decide_eq_true (by omega)
        have t2' : decide (400 < n) = true := decide_eq_true h1
        rw [if_pos (.inr (.inl h1))] at e
        have E2 := Lib.hid e
        clear e ER h0 h1
        go_wp2_with fail
        go_ret
        exact ⟨by rw [E2.out]; rfl, BW.out⟩
      · have t2 : decide ((400 : Int) < (n : Int)) = false := decide_eq_false (by omega)
        have t2' : decide (400 < n) = false := decide_eq_false h1
        by_cases h2 : 400 < m
        · have t3 : decide ((400 : Int) < (m : Int)) = true := decide_eq_true (by omega)
          have t3' : decide (400 < m) = true := decide_eq_true h2
          rw [if_pos (.inr (.inr h2))] at e
          have E2 := Lib.hid e
          clear e ER h0 h1 h2
          go_wp2_with fail
          go_ret
          exact ⟨by rw [E2.out]; rfl, BW.out⟩
        · have t3 : decide ((400 : Int) < (m : Int)) = false := decide_eq_false (by omega)
          have t3' : decide (400 < m) = false := decide_eq_false h2
          rw [if_neg (by omega)] at e
          have E2 := Lib.hid e
          clear e ER h0
          go_upto_region 5 with fail
          clear c0 c1 c2
          refine wp_region_ord Ext Ext.refl (fun _ _ _ => Ext.trans) ((0, false) :: (1, false) :: (3, false) :: (4, false) :: (2, true) :: (5, true) :: (6, false) :: (7, false) :: (8, false) :: (10, false) :: (11, false) :: (9, true) :: (12, true) :: (13, false) :: (14, false) :: []) (by kernel_rfl) (by kernel_rfl) rfl (by kernel_rfl) (fun _ _ _ _ _ h => h) ?_
          replace XB : Hid (Blk w2.drew g 25 (resC false (.slice a n c) (.slice b m d))) := XB
          replace S1 : Hid (SpArg w2.drew a n c X) := Lib.hid (S1.out.below (drewN_below _ 1))
          replace R1 : Hid (RgArg w2.drew b m d Y) := Lib.hid (R1.out.below (drewN_below _ 1))
          replace BW : Hid (Below w.heap.size w w2.drew) := Lib.hid (Below.step BW.out (drewN_below _ 1))
          clear hw2
          generalize w2.drew = w3 at *
          cases hs : eqLS J X with
          | false =>
            rw [hs, Bool.false_and] at E2
            repeat (first
              | (refine ord_skip rfl (by rfl) ?_; simp only [Act.put, List.setIfInBounds_toArray, List.set_cons_zero, List.set_cons_succ])
              | (refine ord_take _ rfl (by rfl) (fun W hW => yields_spans (.tmp 35) rfl g 1 (.slice a n c) rfl (Blk.cell (XB.out.below hW XB.out.lt) 1)) ?_; simp only [Act.put, List.setIfInBounds_toArray, List.set_cons_zero, List.set_cons_succ])
              | (refine ord_take _ rfl (by rfl) (fun W hW => yields_spans (.tmp 38) rfl g 1 (.slice a n c) rfl (Blk.cell (XB.out.below hW XB.out.lt) 1)) ?_; simp only [Act.put, List.setIfInBounds_toArray, List.set_cons_zero, List.set_cons_succ])
              | (refine ord_take _ rfl (by rfl) (fun W hW => by go_simp; first | done | rfl) ?_; simp only [Act.put, List.setIfInBounds_toArray, List.set_cons_zero, List.set_cons_succ])
              | (refine ord_sole rfl (by rfl) (fun K1 hK1 => ?_)
                 go_simp
                 refine (CJ.out _ S1.out).mono ?_
                 rintro e v1 ⟨V1, rfl, ho1⟩
                 obtain ⟨a1, k1, rfl, hr1⟩ := ho1.arg
                 have hb1 := ho1.2.1
                 refine hK1 _ _ hb1 ?_
                 have P1 := Lib.hid hr1
                 replace S1 := Lib.hid (S1.out.below hb1)
                 replace BW := Lib.hid (Below.step BW.out hb1)
                 clear hK1 K1 ho1 hr1 hb1 CJ
                 try simp only [Act.put, List.setIfInBounds_toArray, List.set_cons_zero, List.set_cons_succ])
              | (refine ord_sole rfl (by rfl) (fun K1 hK1 => ?_)
                 go_simp
                 refine (CS.out _ _ _ _ _ P1.out LJ.out S1.out).mono ?_
                 rintro e v2 ⟨rfl, hb2⟩
                 refine hK1 _ _ hb2 ?_
                 replace BW := Lib.hid (Below.step BW.out hb2)
                 clear hK1 K1 hb2 CS
                 rw [hs]
                 try simp only [Act.put, List.setIfInBounds_toArray, List.set_cons_zero, List.set_cons_succ]))
            refine ord_end ?_
            go_wp2_with fail
            go_ret
            exact ⟨by rw [E2.out]; rfl, BW.out⟩
          | true =>
            rw [hs, Bool.true_and] at E2
            repeat (first
              | (refine ord_skip rfl (by rfl) ?_; simp only [Act.put, List.setIfInBounds_toArray, List.set_cons_zero, List.set_cons_succ])
              | (refine ord_take _ rfl (by rfl) (fun W hW => yields_spans (.tmp 35) rfl g 1 (.slice a n c) rfl (Blk.cell (XB.out.below hW XB.out.lt) 1)) ?_; simp only [Act.put, List.setIfInBounds_toArray, List.set_cons_zero, List.set_cons_succ])
              | (refine ord_take _ rfl (by rfl) (fun W hW => yields_spans (.tmp 38) rfl g 1 (.slice a n c) rfl (Blk.cell (XB.out.below hW XB.out.lt) 1)) ?_; simp only [Act.put, List.setIfInBounds_toArray, List.set_cons_zero, List.set_cons_succ])
              | (refine ord_take _ rfl (by rfl) (fun W hW => yields_ranges (.tmp 42) rfl g 2 (.slice b m d) rfl (Blk.cell (XB.out.below hW XB.out.lt) 2)) ?_; simp only [Act.put, List.setIfInBounds_toArray, List.set_cons_zero, List.set_cons_succ])
              | (refine ord_take _ rfl (by rfl) (fun W hW => yields_ranges (.tmp 45) rfl g 2 (.slice b m d) rfl (Blk.cell (XB.out.below hW XB.out.lt) 2)) ?_; simp only [Act.put, List.setIfInBounds_toArray, List.set_cons_zero, List.set_cons_succ])
              | (refine ord_take _ rfl (by rfl) (fun W hW => by go_simp; first | done | rfl) ?_; simp only [Act.put, List.setIfInBounds_toArray, List.set_cons_zero, List.set_cons_succ])
              | (refine ord_sole rfl (by rfl) (fun K1 hK1 => ?_)
                 go_simp
                 refine (CJ.out _ S1.out).mono ?_
                 rintro e v1 ⟨V1, rfl, ho1⟩
                 obtain ⟨a1, k1, rfl, hr1⟩ := ho1.arg
                 have hb1 := ho1.2.1
                 refine hK1 _ _ hb1 ?_
                 have P1 := Lib.hid hr1
                 replace S1 := Lib.hid (S1.out.below hb1)
                 replace R1 := Lib.hid (R1.out.below hb1)
                 replace XB := Lib.hid (XB.out.below hb1 XB.out.lt)
                 replace BW := Lib.hid (Below.step BW.out hb1)
                 clear hK1 K1 ho1 hr1 hb1 CJ
                 try simp only [Act.put, List.setIfInBounds_toArray, List.set_cons_zero, List.set_cons_succ])
              | (refine ord_sole rfl (by rfl) (fun K1 hK1 => ?_)
                 go_simp
                 refine (CS.out _ _ _ _ _ P1.out LJ.out S1.out).mono ?_
                 rintro e v2 ⟨rfl, hb2⟩
                 refine hK1 _ _ hb2 ?_
                 replace R1 := Lib.hid (R1.out.below hb2)
                 replace XB := Lib.hid (XB.out.below hb2 XB.out.lt)
                 replace BW := Lib.hid (Below.step BW.out hb2)
                 clear hK1 K1 hb2 CS P1
                 rw [hs]
                 try simp only [Act.put, List.setIfInBounds_toArray, List.set_cons_zero, List.set_cons_succ])
              | (refine ord_sole rfl (by rfl) (fun K1 hK1 => ?_)
                 go_simp
                 refine (CI.out _ R1.out (by omega)).mono ?_
                 rintro e v3 ⟨V3, rfl, ho3⟩
                 obtain ⟨a3, k3, rfl, hr3⟩ := ho3.arg
                 have hb3 := ho3.2.1
                 refine hK1 _ _ hb3 ?_
                 have P3 := Lib.hid hr3
                 replace R1 := Lib.hid (R1.out.below hb3)
                 replace XB := Lib.hid (XB.out.below hb3 XB.out.lt)
                 replace BW := Lib.hid (Below.step BW.out hb3)
                 clear hK1 K1 ho3 hr3 hb3 CI
                 try simp only [Act.put, List.setIfInBounds_toArray, List.set_cons_zero, List.set_cons_succ])
              | (refine ord_sole rfl (by rfl) (fun K1 hK1 => ?_)
                 go_simp
                 refine (CT.out _ _ _ _ _ P3.out LI.out R1.out).mono ?_
                 rintro e v4 ⟨rfl, hb4⟩
                 refine hK1 _ _ hb4 ?_
                 replace BW := Lib.hid (Below.step BW.out hb4)
                 clear hK1 K1 hb4 CT P3
                 try simp only [Act.put, List.setIfInBounds_toArray, List.set_cons_zero, List.set_cons_succ]))
            refine ord_end ?_
            go_wp2_with fail
            go_ret
            exact ⟨by rw [E2.out]; rfl, BW.out⟩
end Go.Proofs.YtlmndmfebgaidaaGreatDoor
namespace Go.Proofs.YtlmndmfebgaidaaGreatDoor
open Go.RowKit
set_option linter.unusedVariables false
theorem bit_step {A B : List Int} {c i q r : Nat} (hB : Sixteen B) (hq : i / 8 = q) (hr : i % 8 = r) (hi : i < 128) (hc : c ≤ i) (ha : aN A % 2 ^ (128 - c) = 0) (hn : aN B + 2 ^ (128 - i) = aN A + 2 ^ (128 - c)) :
    B[q]?.getD 0 + 2 ^ (7 - r) ≤ 255 ∧ Sixteen (B.set q (B[q]?.getD 0 + 2 ^ (7 - r))) ∧ aN (B.set q (B[q]?.getD 0 + 2 ^ (7 - r))) + 2 ^ (128 - (i + 1)) = aN A + 2 ^ (128 - c) := by
  have hq16 : q < 16 := by omega
  have hr8 : r < 8 := by omega
  -- the number is a multiple of 2 ^ (128 - i)
  have e1 : (2 : Nat) ^ (128 - c) = 2 ^ (128 - i) * 2 ^ (i - c) := by rw [← Nat.pow_add]; congr 1; omega
  obtain ⟨m, hm⟩ : ∃ m, aN A = 2 ^ (128 - c) * m := ⟨aN A / 2 ^ (128 - c), by have := Nat.div_add_mod (aN A) (2 ^ (128 - c)); omega⟩
  have hmul : aN B % 2 ^ (128 - i) = 0 := by
    have h : aN B + 2 ^ (128 - i) = 2 ^ (128 - i) * (2 ^ (i - c) * m + 2 ^ (i - c)) := by
      rw [hn, hm, e1, Nat.mul_add, Nat.mul_assoc]
    have h2 : (aN B + 2 ^ (128 - i)) % 2 ^ (128 - i) = 0 := by rw [h, Nat.mul_mod_right]
    rwa [Nat.add_mod_right] at h2
  -- so is the byte of 2 ^ (8 - r)
  have hb := aN_at hB.2 q (by rw [hB.1]; exact hq16)
  rw [hB.1] at hb
  have e2 : (2 : Nat) ^ (128 - i) = 256 ^ (16 - 1 - q) * 2 ^ (8 - r) := by
    rw [show (256 : Nat) = 2 ^ 8 from rfl, ← Nat.pow_mul, ← Nat.pow_add]
    congr 1
    omega
  have hbyte : aN B / 256 ^ (16 - 1 - q) % 2 ^ (8 - r) = 0 := by
    obtain ⟨k, hk⟩ := Nat.dvd_of_mod_eq_zero hmul
    rw [hk, e2, Nat.mul_assoc, Nat.mul_div_cancel_left _ (Nat.pow_pos (by decide)), Nat.mul_mod_right]
  have h256 : (256 : Nat) = 2 ^ (8 - r) * 2 ^ r := by rw [← Nat.pow_add, show 8 - r + r = 8 by omega]
  generalize aN B / 256 ^ (16 - 1 - q) = N at hb hbyte
  have hbm : N % 256 % 2 ^ (8 - r) = 0 := by rw [h256, Nat.mod_mul_right_mod]; exact hbyte
  have hlt : N % 256 < 256 := Nat.mod_lt _ (by decide)
  have e3 : (2 : Nat) ^ (8 - r) = 2 * 2 ^ (7 - r) := by rw [show 8 - r = (7 - r) + 1 by omega, Nat.pow_succ, Nat.mul_comm]
  have hp : 0 < (2 : Nat) ^ (7 - r) := Nat.pow_pos (by decide)
  have hle : N % 256 + 2 ^ (7 - r) ≤ 255 := by
    obtain ⟨k, hk⟩ := Nat.dvd_of_mod_eq_zero hbm
    have hk2 : k < 2 ^ r := by
      have h' : 2 ^ (8 - r) * k < 2 ^ (8 - r) * 2 ^ r := by omega
      exact Nat.lt_of_mul_lt_mul_left h'
    have h3 : 2 ^ (8 - r) * (k + 1) ≤ 2 ^ (8 - r) * 2 ^ r := Nat.mul_le_mul_left _ hk2
    rw [Nat.mul_add, Nat.mul_one] at h3
    omega
  have ep : ((2 : Int) ^ (7 - r)) = (((2 : Nat) ^ (7 - r) : Nat) : Int) := by simp
  have z0 : 0 ≤ B[q]?.getD 0 := by rw [← hb]; omega
  have hz : B[q]?.getD 0 + 2 ^ (7 - r) ≤ 255 := by rw [← hb, ep]; omega
  have zp : (0 : Int) ≤ 2 ^ (7 - r) := by rw [ep]; omega
  have hs : Sixteen (B.set q (B[q]?.getD 0 + 2 ^ (7 - r))) := ⟨by rw [List.length_set]; exact hB.1, fun x hx => by
    rcases List.mem_or_eq_of_mem_set hx with hx | rfl
    · exact hB.2 x hx
    · exact ⟨by omega, hz⟩⟩
  refine ⟨hz, hs, ?_⟩
  have hset := aN_set (l := B) (q := q) (v := B[q]?.getD 0 + 2 ^ (7 - r)) (by rw [hB.1]; exact hq16) (by omega) z0
  rw [hB.1] at hset
  have et : (B[q]?.getD 0 + 2 ^ (7 - r)).toNat = (B[q]?.getD 0).toNat + 2 ^ (7 - r) := by rw [ep]; omega
  rw [et, Nat.add_mul] at hset
  have e4 : (2 : Nat) ^ (7 - r) * 256 ^ (16 - 1 - q) = 2 ^ (128 - (i + 1)) := by
    rw [show (256 : Nat) = 2 ^ 8 from rfl, ← Nat.pow_mul, ← Nat.pow_add]
    congr 1
    omega
  have e5 : (2 : Nat) ^ (128 - i) = 2 * 2 ^ (128 - (i + 1)) := by rw [show 128 - i = (128 - (i + 1)) + 1 by omega, Nat.pow_succ, Nat.mul_comm]
  rw [e4] at hset
  omega
set_option maxHeartbeats 2000000 in
set_option maxRecDepth 100000 in
theorem rof_any (v : Bool) (A : List Int) (L : Int) (w : World) (hA : Sixteen A) (l0 : -9223372036854775808 ≤ L) (l1 : L ≤ 9223372036854775807) :
    Calls Tryz.prog 51 #[.agg (pcells v A L)] w fun e w' => e = .returned (.tuple #[.agg (scells (ofS v A L)), .int .i64 (ofE v A L)]) ∧ Below w.heap.size w w' := by
  have BX : Hid (PBlk ((w.alloc (.cells (pcells v A L) 43)).alloc (.cells (scells zeroS) 62)) w.heap.size v A L) := Lib.hid (Blk.alloc (pbox w v A L) _)
  have BZ : Hid (Blk ((w.alloc (.cells (pcells v A L) 43)).alloc (.cells (scells zeroS) 62)) (w.heap.size + 1) 62 (scells zeroS)) := Lib.hid (by
    have := Blk.new (w.alloc (.cells (pcells v A L) 43)) 62 (scells zeroS)
    rwa [World.size_alloc] at this)
  have BW := Lib.hid (Below.step (box_below w (.cells (pcells v A L) 43)) (box_below _ (.cells (scells zeroS) 62)))
  have C1 := Lib.hid (fun W => rright_any v A L W hA l0 l1)
  have C2 := Lib.hid (fun W => rmost_any v W)
  have HA := Lib.hid hA
  have SP := Lib.hid (Tryz.sizeP (v := v) (L := L) hA.1)
  have SZ := Lib.hid (Tryz.sizeA hA.1)
  have Z0 := Lib.hid (Tryz.sizeS zeroS_six)
  have O0 := Lib.hid (scells_one zeroS)
  have UZ := Lib.hid built_zero
  have US := Lib.hid (built_span v A A hA.1 hA.1)
  have SA : Hid ((Tryz.prog.info? 62).map (·.size) = some (scells ⟨v, A, A⟩).size) := Lib.hid (Tryz.sizeS ⟨hA, hA⟩)
  have ZA : Hid ((scells zeroS).size = (scells ⟨v, A, A⟩).size) := Lib.hid (by rw [scells_size (s := ⟨v, A, A⟩) ⟨hA, hA⟩, scells_size zeroS_six])
  have OA := Lib.hid (scells_one ⟨v, A, A⟩)
  have OT : rightA v A L = true → Hid (ofS v A L = ⟨v, A, hiA v A L⟩ ∧ ofE v A L = 0) := fun h => Lib.hid ⟨by unfold ofS; rw [if_pos h], by unfold ofE; rw [if_pos h]⟩
  have OF : rightA v A L = false → Hid (ofS v A L = zeroS ∧ ofE v A L = 1) := fun h => Lib.hid ⟨by unfold ofS; rw [if_neg (by rw [h]; simp)], by unfold ofE; rw [if_neg (by rw [h]; simp)]⟩
  have RB : rightA v A L = true → Hid ((0 ≤ L ∧ L ≤ mostZ v) ∧ aN A % 2 ^ (128 - L.toNat) = 0) := fun h => Lib.hid ⟨by have := (right_is v A L).1 h; omega, ((right_is v A L).1 h).2.2⟩
  have HE : rightA v A L = true → Hid (∀ B, Sixteen B → aN B + unitZ v = aN A + 2 ^ (128 - L.toNat) → B = hiA v A L) := fun h => Lib.hid (fun B hB e => aN_inj hB.2 (hiA_ok hA h).2 (by rw [hB.1, (hiA_ok hA h).1]) (by have := hiA_num hA h; omega))
  have cv := BX.out.v
  have cl := BX.out.l hA.1
  have RA := Lib.hid (PBlk.range BX.out hA.1)
  clear hA
  go_enter Tryz.func51, Tryz.ntmps51
  go_upto_region 1 with (fail)
  change Code.wp _ _ _ _ ((w.alloc (.cells (pcells v A L) 43)).alloc (.cells (scells zeroS) 62))
  generalize (w.alloc (.cells (pcells v A L) 43)).alloc (.cells (scells zeroS) 62) = w2 at *
  cases hr : rightA v A L with
  | false =>
    rw [hr] at C1
    obtain ⟨E1, E2⟩ := (OF hr).out
    have F1 := Lib.hid E1
    have F2 := Lib.hid E2
    clear OT OF RB HE E1 E2 hr cl cv RA
    unfold PBlk at BX
    generalize pcells v A L = PC at *
    go_wp2_with (first
      | (refine wpList_load_row rfl 43 (.tmp 1) rfl w.heap.size rfl 43 PC (0, 0) _ BX.out Tryz.underlying43 rfl SP.out ?_)
      | (go_at_call 79; refine (C1.out _).mono ?_; rintro r w3 ⟨rfl, hb3⟩; have B3 := Lib.hid (Below.step BW.out hb3); have Z3 := Lib.hid (Blk.below BZ.out hb3 BZ.out.lt); clear hb3)
      | (refine build1_to rfl 62 #[] rfl (some 9) rfl (scells zeroS) _ UZ.out (by kernel_rfl) ?_)
      | (refine wpList_store_rowTo rfl 62 (.tmp 2) (.tmp 9) rfl rfl (w.heap.size + 1) (scells zeroS) rfl rfl 62 (scells zeroS) Z3.out Z0.out rfl O0.out ?_))
    exact bodyPost_ret (results_row_val (p := 2) (u := 3) rfl _ _ (w.heap.size + 1) 62 (scells zeroS) (0, 0) _ rfl (setRow_heap _ _ _ _ 62 _ Z3.out) Tryz.underlying62 rfl Z0.out) rfl ⟨by rw [F1.out, F2.out]; rfl, below_setRow B3.out (by omega) _⟩
  | true =>
    rw [hr] at C1
    obtain ⟨E1, E2⟩ := (OT hr).out
    have F1 := Lib.hid E1
    have F2 := Lib.hid E2
    obtain ⟨⟨b0, b1⟩, e3⟩ := (RB hr).out
    have RB2 := Lib.hid e3
    have HE2 := HE hr
    clear OT OF RB HE E1 E2 hr e3 UZ cl cv RA
    obtain ⟨c, rfl⟩ : ∃ c : Nat, L = (c : Int) := ⟨L.toNat, by omega⟩
    rw [Int.toNat_natCast] at RB2 HE2
    have X2 := BX
    unfold PBlk at X2
    generalize hpc : pcells v A (c : Int) = PC at *
    go_upto_region 3 with (first
      | (refine wpList_load_row rfl 43 (.tmp 1) rfl w.heap.size rfl 43 PC (0, 0) _ X2.out Tryz.underlying43 rfl SP.out ?_)
      | (go_at_call 79; refine (C1.out _).mono ?_; rintro r w3 ⟨rfl, hb3⟩; have B3 := Lib.hid (Below.step BW.out hb3); have Z3 := Lib.hid (Blk.below BZ.out hb3 BZ.out.lt); have X3 := Lib.hid (PBlk.below BX.out hb3 BX.out.lt); clear hb3))
    clear X2 BX BZ BW SP C1 hpc
    have cv := X3.out.v
    have RA := Lib.hid (PBlk.range X3.out HA.out.1)
    have AZ : Hid (Blk (w3.alloc (.cells (scells zeroS) 62)) w3.heap.size 62 (scells zeroS)) := Lib.hid (sbox w3 zeroS)
    have S4 : Hid (SBlk (w3.alloc (.cells (scells ⟨v, A, A⟩) 62)) w3.heap.size ⟨v, A, A⟩) := Lib.hid (sbox w3 ⟨v, A, A⟩)
    have X4 := Lib.hid (PBlk.below X3.out (box_below w3 (.cells (scells ⟨v, A, A⟩) 62)) X3.out.lt)
    have Z4 := Lib.hid (Blk.below Z3.out (box_below w3 (.cells (scells ⟨v, A, A⟩) 62)) Z3.out.lt)
    have B4 := Lib.hid (Below.step B3.out (box_below w3 (.cells (scells ⟨v, A, A⟩) 62)))
    have HG4 : Hid (w.heap.size < w3.heap.size ∧ (w.heap.size + 1) < w3.heap.size) := Lib.hid ⟨X3.out.lt, Z3.out.lt⟩
    go_upto_region 4 with (first
      | (refine wpList_load_mid rfl 41 (.tmp 12) rfl w.heap.size 1 rfl (acells A) _ RA.out Tryz.underlying41 rfl SZ.out ?_)
      | (refine wpList_load_mid rfl 41 (.tmp 14) rfl w.heap.size 1 rfl (acells A) _ RA.out Tryz.underlying41 rfl SZ.out ?_)
      | (refine build1_to rfl 62 #[(0, .tmp 11), (1, .tmp 13), (2, .tmp 15)] rfl (some 16) rfl (scells ⟨v, A, A⟩) _ US.out (by kernel_rfl) ?_)
      | (refine Great.wpList_allocTo rfl (some 4) rfl (.pointer (some ⟨w3.heap.size, 0, none⟩)) (.cells (scells zeroS) 62) rfl ?_)
      | (refine wpList_store_rowTo rfl 62 (.tmp 4) (.tmp 16) rfl rfl w3.heap.size (scells ⟨v, A, A⟩) rfl rfl 62 (scells zeroS) AZ.out SA.out ZA.out OA.out ?_; rw [alloc_setRow]))
    clear AZ X3 Z3 B3 RA cv SA ZA OA US
    generalize w3.alloc (.cells (scells ⟨v, A, A⟩) 62) = w4 at *
    generalize w3.heap.size = gs at *
    have ml := most_le v
    have cl4 := X4.out.l HA.out.1
    go_wp2_with fail
    clear cl4
    go_loopw [5] (fun iV wr => ∃ (i : Nat) (B : List Int), iV = .int .i64 (i : Int) ∧ (i : Int) ≤ mostZ v ∧ c ≤ i ∧ Sixteen B ∧ aN B + 2 ^ (128 - i) = aN A + 2 ^ (128 - c) ∧ SBlk wr gs ⟨v, A, B⟩ ∧ PBlk wr w.heap.size v A (c : Int) ∧ Blk wr (w.heap.size + 1) 62 (scells zeroS) ∧ Below w.heap.size w wr) (fun iV _ => (mostZ v - intOf iV).toNat)
    case atStart => exact ⟨c, A, rfl, by omega, Nat.le_refl _, HA.out, Eq.refl _, S4.out, X4.out, Z4.out, B4.out⟩
    case round =>
      obtain ⟨i, B, rfl, hi, hci, hB, hn, hs, hx, hz, hb⟩ := hrel
      have S5 := Lib.hid hs
      have X5 := Lib.hid hx
      have Z5 := Lib.hid hz
      have B5 := Lib.hid hb
      have HB := Lib.hid hB
      have HN := Lib.hid hn
      have cv := X5.out.v
      clear hs hx hz hb S4 X4 Z4 B4 hB hn
      by_cases hlt : (i : Int) < mostZ v
      · have t0 : decide ((i : Int) < mostZ v) = true := decide_eq_true hlt
        obtain ⟨q, hq⟩ : ∃ q, i / 8 = q := ⟨_, rfl⟩
        have r8 := Nat.mod_lt i (show 0 < 8 by omega)
        obtain ⟨r, hrr⟩ : ∃ r, i % 8 = r := ⟨_, rfl⟩
        rw [hrr] at r8
        have q16 : q < 16 := by omega
        have ST := Lib.hid (bit_step HB.out hq hrr (by omega) hci RB2.out HN.out)
        have cz := (Blk.cell S5.out (17 + q)).trans (scells_hi (s := ⟨v, A, B⟩) ⟨HA.out, HB.out⟩ q q16)
        have fz := Blk.free S5.out (17 + q)
        have SS := Lib.hid (fun x => SBlk.setHi S5.out ⟨HA.out, HB.out⟩ q q16 x)
        have zr := sixteen_at0 HB.out q q16
        have cz : wr.cell? ⟨gs, 17 + q, none⟩ = some (.int .u8 (B[q]?.getD 0)) := cz
        have k3 : (i : Int) / 8 = (q : Int) := by omega
        have k3' : (i : Int).tdiv 8 = (q : Int) := by rw [Int.tdiv_eq_ediv_of_nonneg (by omega)]; exact k3
        have k4 : (i : Int) % 8 = (r : Int) := by omega
        have k4' : (i : Int).tmod 8 = (r : Int) := by rw [Int.tmod_eq_emod_of_nonneg (by omega)]; exact k4
        have k5 : IntKind.i64.wrap (q : Int) = (q : Int) := IntWalk.i64_in _ (by omega)
        have k6 : IntKind.i64.wrap (r : Int) = (r : Int) := IntWalk.i64_in _ (by omega)
        obtain ⟨s, hs⟩ : ∃ s, 7 - r = s := ⟨_, rfl⟩
        have k9 : (7 : Int) - (r : Int) = (s : Int) := by omega
        have k10 : IntKind.i64.wrap (s : Int) = (s : Int) := IntWalk.i64_in _ (by omega)
        have qI : (q : Int) < 16 := by omega
        have q0 : (0 : Int) ≤ (q : Int) := by omega
        have jI : IntKind.i64.wrap ((i : Int) + 1) = (i : Int) + 1 := IntWalk.i64_in _ (by omega)
        rw [hs] at ST
        have z1 : B[q]?.getD 0 + 2 ^ s ≤ 255 := ST.out.1
        have ps : (0 : Int) < 2 ^ s := Int.pow_pos (by decide)
        have k13 : Hid ((B[q]?.getD 0 + (2 : Int) ^ s) % 256 = B[q]?.getD 0 + (2 : Int) ^ s) := Lib.hid (Int.emod_eq_of_lt (by omega) (by omega))
        clear hq hrr hs z1 ps
        generalize B[q]?.getD 0 = z at *
        go_upto_region 7 with (go_at_call 80; refine (C2.out _).mono ?_; rintro r w5 ⟨rfl, rfl⟩)
        have cz2 : w5.drew.cell? ⟨gs, 17 + q, none⟩ = some (.int .u8 z) := cz
        have fz' : w5.drew.frozen? ⟨gs, 17 + q, none⟩ = false := fz
        go_region
        rw [k13.out]
        have S7 : Hid (SBlk (w5.setCell ⟨gs, 17 + q, none⟩ (.int .u8 (z + 2 ^ s))).drew gs ⟨v, A, B.set q (z + 2 ^ s)⟩) := Lib.hid (SS.out _)
        have X7 : Hid (PBlk (w5.setCell ⟨gs, 17 + q, none⟩ (.int .u8 (z + 2 ^ s))).drew w.heap.size v A (c : Int)) := Lib.hid (show Blk (w5.setCell ⟨gs, 17 + q, none⟩ (.int .u8 (z + 2 ^ s))) w.heap.size _ _ from Blk.far X5.out (by have := HG4.out; omega) (17 + q) _)
        have Z7 : Hid (Blk (w5.setCell ⟨gs, 17 + q, none⟩ (.int .u8 (z + 2 ^ s))).drew (w.heap.size + 1) 62 (scells zeroS)) := Lib.hid (show Blk (w5.setCell ⟨gs, 17 + q, none⟩ (.int .u8 (z + 2 ^ s))) (w.heap.size + 1) _ _ from Blk.far Z5.out (by have := HG4.out; omega) (17 + q) _)
        have B7 : Hid (Below w.heap.size w (w5.setCell ⟨gs, 17 + q, none⟩ (.int .u8 (z + 2 ^ s))).drew) := Lib.hid (Below.step (Below.setCell B5.out (p := ⟨gs, 17 + q, none⟩) (by have := HG4.out; show w.heap.size ≤ gs; omega) _) (drewN_below _ 1))
        have ST2 := Lib.hid ST.out.2
        clear S5 X5 Z5 B5 SS cz fz cz2 fz' k13 ST cv
        generalize (w5.setCell ⟨gs, 17 + q, none⟩ (.int .u8 (z + 2 ^ s))).drew = w7 at *
        go_wp2_with fail
        go_roundw
        case rel => exact ⟨i + 1, _, by go_num, by omega, by omega, ST2.out.1, ST2.out.2, S7.out, X7.out, Z7.out, B7.out⟩
        case measure => simp only [intOf]; omega
      · have t0 : decide ((i : Int) < mostZ v) = false := decide_eq_false hlt
        have um : (2 : Nat) ^ (128 - i) = unitZ v := by
          have e : i = (mostZ v).toNat := by omega
          rw [e]
          cases v <;> decide
        have EB := HE2.out B HB.out (by have := HN.out; omega)
        subst EB
        have s6 : SixS ⟨v, A, hiA v A (c : Int)⟩ := ⟨HA.out, HB.out⟩
        have SA : Hid ((Tryz.prog.info? 62).map (·.size) = some (scells ⟨v, A, hiA v A (c : Int)⟩).size) := Lib.hid (Tryz.sizeS s6)
        have ZA : Hid ((scells zeroS).size = (scells ⟨v, A, hiA v A (c : Int)⟩).size) := Lib.hid (by rw [scells_size s6, scells_size zeroS_six])
        have OA := Lib.hid (scells_one ⟨v, A, hiA v A (c : Int)⟩)
        clear s6 RB2 HE2 HN HB um
        unfold SBlk at S5
        generalize hsp : scells ⟨v, A, hiA v A (c : Int)⟩ = F at *
        go_wp2_with (first
          | (go_at_call 80; refine (C2.out _).mono ?_; rintro r w6 ⟨rfl, rfl⟩)
          | (refine wpList_load_row rfl 62 (.tmp 4) rfl gs rfl 62 F (0, 0) _ S5.out Tryz.underlying62 rfl SA.out ?_)
          | (refine wpList_store_rowTo rfl 62 (.tmp 2) (.tmp 40) rfl rfl (w.heap.size + 1) F rfl rfl 62 (scells zeroS) Z5.out SA.out ZA.out OA.out ?_))
        exact bodyPost_ret (results_row_val (p := 2) (u := 3) rfl _ _ (w.heap.size + 1) 62 F (0, 0) _ rfl (setRow_heap _ _ _ _ 62 _ Z5.out) Tryz.underlying62 rfl SA.out) rfl ⟨by rw [F1.out, F2.out, hsp]; rfl, below_setRow B5.out (by omega) _⟩
end Go.Proofs.YtlmndmfebgaidaaGreatDoor
namespace Go.Proofs.YtlmndmfebgaidaaGreatDoor
open Go.RowKit
set_option linter.unusedVariables false
set_option maxRecDepth 100000
theorem resC_one (b : Bool) (a : Option Addr) (n c : Nat) (a' : Option Addr) (n' c' : Nat) : (resC b (.slice a n c) (.slice a' n' c')).all (·.oneCell') = true := by simp [resC, Value.oneCell']
theorem store_res_at {ops : Array Oper} {rest : List Oper} {a : Act} {w : World} {Q : Exit → Act → World → Prop} {t' : TypeId} {pos : String} {aft : Array Edge} (k j : Nat) (g : Nat) (b : Bool) (a1 : Option Addr) (n1 c1 : Nat) (a2 : Option Addr) (n2 c2 : Nat) (u : Bool) (x y : Value) (hx : a.eval (.tmp k) = .pointer (some ⟨g, 0, none⟩)) (hy : a.eval (.tmp j) = .agg (resC b (.slice a1 n1 c1) (.slice a2 n2 c2))) (hg : Blk w g 25 (resC u x y))
    (h : wpList Tryz.prog ops Q rest a (w.setRow g (resC b (.slice a1 n1 c1) (.slice a2 n2 c2)))) :
    wpList Tryz.prog ops Q ({ dst := none, op := .store 25 (.tmp k) (.tmp j), type := t', pos := pos, after := aft, guard := none } :: rest) a w :=
  wpList_store_rowTo rfl 25 (.tmp k) (.tmp j) rfl rfl g _ hx hy 25 _ hg (Tryz.sizeRes _ _ _) rfl (resC_one _ _ _ _ _ _ _) h
theorem GivesRes.row {fn : Func} {w W : World} {x : ResZ × Int} {tmps : Array Value} {p u : Tmp} {g : Nat} {b o : Bool} {y z y' z' : Value} {er : Int} (hr : fn.results = #[.cell p 25, .tmp u]) (hp : tmps.getD p undef = .pointer (some ⟨g, 0, none⟩)) (hu : tmps.getD u undef = .int .i64 er) (he : x.2 = er)
    (hg : Blk W g 25 (resC o y' z')) (hat : ResAt w (.agg (resC b y z)) x.1) (hb : Below w.heap.size w W) (hl : w.heap.size ≤ g) :
    bodyPost Tryz.prog fn (GivesRes x w) .ret { tmps := tmps, defers := [] } (W.setRow g (resC b y z)) := by
  have hb2 := below_setRow hb hl (resC b y z)
  refine bodyPost_ret (results_row_val hr tmps _ g 25 (resC b y z) (0, 0) _ hp (setRow_heap _ _ _ _ 25 _ hg) Tryz.underlying25 rfl (Tryz.sizeRes _ _ _)) rfl ⟨_, ?_, hat.below hb2, hb2⟩
  rw [hu, he]
set_option maxHeartbeats 2000000 in
theorem rresolve13_any (x y : ResZ) (u v : Value) (w : World) (hx : ResAt w u x) (hy : ResAt w v y) (lx : x.sp.length ≤ 100 ∧ x.ns.length ≤ 100) (ly : y.sp.length ≤ 100 ∧ y.ns.length ≤ 100) : Calls Tryz.prog 20 #[u, v] w (GivesRes (resolveR x y) w) := by
  have AX := Lib.hid hx
  have AY := Lib.hid hy
  obtain ⟨a, n, c, b, m, d, rfl, h1, h2⟩ := hx
  obtain ⟨a', n', c', b', m', d', rfl, k1, k2⟩ := hy
  have BX := Blk.alloc (Blk.alloc (resbox w x.inh (.slice a n c) (.slice b m d)) (.cells (resC y.inh (.slice a' n' c') (.slice b' m' d')) 25)) (.cells (resC false (.slice none 0 0) (.slice none 0 0)) 25)
  have BY := Blk.alloc (resbox (w.alloc (.cells (resC x.inh (.slice a n c) (.slice b m d)) 25)) y.inh (.slice a' n' c') (.slice b' m' d')) (.cells (resC false (.slice none 0 0) (.slice none 0 0)) 25)
  have BZ := resbox ((w.alloc (.cells (resC x.inh (.slice a n c) (.slice b m d)) 25)).alloc (.cells (resC y.inh (.slice a' n' c') (.slice b' m' d')) 25)) false (.slice none 0 0) (.slice none 0 0)
  have s1 : (w.alloc (.cells (resC x.inh (.slice a n c) (.slice b m d)) 25)).heap.size = w.heap.size + 1 := by simp
  have s2 : ((w.alloc (.cells (resC x.inh (.slice a n c) (.slice b m d)) 25)).alloc (.cells (resC y.inh (.slice a' n' c') (.slice b' m' d')) 25)).heap.size = w.heap.size + 1 + 1 := by simp
  rw [s1] at BY
  rw [s2] at BZ
  have bw := Below.step (Below.step (boxR_below w (.cells (resC x.inh (.slice a n c) (.slice b m d)) 25)) (boxR_below _ (.cells (resC y.inh (.slice a' n' c') (.slice b' m' d')) 25))) (boxR_below _ (.cells (resC false (.slice none 0 0) (.slice none 0 0)) 25))
  have S1 := Lib.hid (h1.below bw)
  have S2 := Lib.hid (k1.below bw)
  have R1 := Lib.hid (h2.below bw)
  have R2 := Lib.hid (k2.below bw)
  have BW := Lib.hid bw
  have hn := h1.1.1
  have hm := h2.1.1
  have hn' := k1.1.1
  have hm' := k2.1.1
  have Q1 : Hid (∀ W, Below w.heap.size w W → Calls Tryz.prog 18 #[.agg (resC x.inh (.slice a n c) (.slice b m d))] W fun e w' => e = .returned (.bool (rightR x)) ∧ Below W.heap.size W w') := Lib.hid (fun W h => rright13_any x _ W (AX.out.below h) (by omega) (by omega))
  have Q2 : Hid (∀ W, Below w.heap.size w W → Calls Tryz.prog 18 #[.agg (resC y.inh (.slice a' n' c') (.slice b' m' d'))] W fun e w' => e = .returned (.bool (rightR y)) ∧ Below W.heap.size W w') := Lib.hid (fun W h => rright13_any y _ W (AY.out.below h) (by omega) (by omega))
  have Q3 := Lib.hid (fun W (h : Below w.heap.size w W) => rwithin_any a a' n n' c c' x.sp y.sp W (h1.below h) (by omega) (k1.below h) (by omega))
  have Q4 := Lib.hid (fun W (h : Below w.heap.size w W) => rwithinR_any b b' m d m' d' x.ns y.ns W (h2.below h) (by omega) (k2.below h) (by omega))
  have ER : Hid (resolveR x y = if rightR x = true ∧ rightR y = true ∧ y.inh = false then (if x.inh = true then (y, 0) else if inS x.sp y.sp = true ∧ inN x.ns y.ns = true then (x, 0) else (zeroRes, 9)) else (zeroRes, 1)) := Lib.hid rfl
  have AZ := Lib.hid (ResAt.zero w)
  clear h1 h2 k1 k2 bw s1 s2 hn hm hn' hm' lx ly
  generalize hw2 : ((w.alloc (.cells (resC x.inh (.slice a n c) (.slice b m d)) 25)).alloc (.cells (resC y.inh (.slice a' n' c') (.slice b' m' d')) 25)).alloc (.cells (resC false (.slice none 0 0) (.slice none 0 0)) 25) = w2 at *
  have XB := Lib.hid BX
  have YB := Lib.hid BY
  have ZB := Lib.hid BZ
  clear BX BY BZ
  generalize resolveR x y = z at *
  generalize rightR x = r1 at *
  generalize rightR y = r2 at *
  generalize inS x.sp y.sp = i1 at *
  generalize inN x.ns y.ns = i2 at *
  have XI : Hid (x.inh = x.inh) := Lib.hid rfl
  clear XI
  go_enter Tryz.func20, Tryz.ntmps20
  go_upto_region 1 with fail
  change Code.wp _ _ _ _ (((w.alloc (.cells (resC x.inh (.slice a n c) (.slice b m d)) 25)).alloc (.cells (resC y.inh (.slice a' n' c') (.slice b' m' d')) 25)).alloc (.cells (resC false (.slice none 0 0) (.slice none 0 0)) 25))
  rw [hw2]
  clear hw2
  obtain ⟨g, hg⟩ : ∃ g, w.heap.size = g := ⟨_, rfl⟩
  rw [hg] at XB YB ZB ⊢
  generalize x.inh = ix at *
  generalize y.inh = iy at *
  generalize hz : z = z0 at *
  clear hz
  have x0w2 : w2.cell? ⟨g, 0, none⟩ = some (.bool ix) := Blk.cell XB.out 0
  have x1w2 : w2.cell? ⟨g, 1, none⟩ = some (.slice a n c) := Blk.cell XB.out 1
  have x2w2 : w2.cell? ⟨g, 2, none⟩ = some (.slice b m d) := Blk.cell XB.out 2
  have y0w2 : w2.cell? ⟨(g + 1), 0, none⟩ = some (.bool iy) := Blk.cell YB.out 0
  have y1w2 : w2.cell? ⟨(g + 1), 1, none⟩ = some (.slice a' n' c') := Blk.cell YB.out 1
  have y2w2 : w2.cell? ⟨(g + 1), 2, none⟩ = some (.slice b' m' d') := Blk.cell YB.out 2
  cases r1 with
  | false =>
    have e := ER.out
    rw [if_neg (by simp)] at e
    have E2 := Lib.hid e
    clear e ER
    go_wp2_with (first
      | (go_at_call 18
         refine (Q1.out _ BW.out).mono ?_
         rintro r v1 ⟨rfl, hb1⟩
         replace BW := Lib.hid (Below.step BW.out hb1)
         replace XB := Lib.hid (XB.out.below hb1 XB.out.lt)
         replace YB := Lib.hid (YB.out.below hb1 YB.out.lt)
         replace ZB := Lib.hid (ZB.out.below hb1 ZB.out.lt)
         have x0v1 : v1.cell? ⟨g, 0, none⟩ = some (.bool ix) := Blk.cell XB.out 0
         have x1v1 : v1.cell? ⟨g, 1, none⟩ = some (.slice a n c) := Blk.cell XB.out 1
         have x2v1 : v1.cell? ⟨g, 2, none⟩ = some (.slice b m d) := Blk.cell XB.out 2
         have y0v1 : v1.cell? ⟨(g + 1), 0, none⟩ = some (.bool iy) := Blk.cell YB.out 0
         have y1v1 : v1.cell? ⟨(g + 1), 1, none⟩ = some (.slice a' n' c') := Blk.cell YB.out 1
         have y2v1 : v1.cell? ⟨(g + 1), 2, none⟩ = some (.slice b' m' d') := Blk.cell YB.out 2
         clear hb1 Q1)
      | ((with_reducible refine store_res_at 4 18 (g + 1 + 1) false (none) 0 0 (none) 0 0 false (.slice none 0 0) (.slice none 0 0) ?_ ?_ ZB.out ?_); (· rfl); (· rfl)))
    exact GivesRes.row (p := 4) (u := 5) (er := 1) rfl rfl rfl (by rw [E2.out]) ZB.out (by rw [E2.out]; exact AZ.out) BW.out (by rw [hg]; omega)
  | true =>
    cases r2 with
    | false =>
      have e := ER.out
      rw [if_neg (by simp)] at e
      have E2 := Lib.hid e
      clear e ER
      go_wp2_with (first
        | (go_at_call 18
           refine (Q1.out _ BW.out).mono ?_
           rintro r v1 ⟨rfl, hb1⟩
           replace BW := Lib.hid (Below.step BW.out hb1)
           replace XB := Lib.hid (XB.out.below hb1 XB.out.lt)
           replace YB := Lib.hid (YB.out.below hb1 YB.out.lt)
           replace ZB := Lib.hid (ZB.out.below hb1 ZB.out.lt)
           have x0v1 : v1.cell? ⟨g, 0, none⟩ = some (.bool ix) := Blk.cell XB.out 0
           have x1v1 : v1.cell? ⟨g, 1, none⟩ = some (.slice a n c) := Blk.cell XB.out 1
           have x2v1 : v1.cell? ⟨g, 2, none⟩ = some (.slice b m d) := Blk.cell XB.out 2
           have y0v1 : v1.cell? ⟨(g + 1), 0, none⟩ = some (.bool iy) := Blk.cell YB.out 0
           have y1v1 : v1.cell? ⟨(g + 1), 1, none⟩ = some (.slice a' n' c') := Blk.cell YB.out 1
           have y2v1 : v1.cell? ⟨(g + 1), 2, none⟩ = some (.slice b' m' d') := Blk.cell YB.out 2
           clear hb1 Q1)
        | (go_at_call 18
           refine (Q2.out _ BW.out).mono ?_
           rintro r v2 ⟨rfl, hb2⟩
           replace BW := Lib.hid (Below.step BW.out hb2)
           replace XB := Lib.hid (XB.out.below hb2 XB.out.lt)
           replace YB := Lib.hid (YB.out.below hb2 YB.out.lt)
           replace ZB := Lib.hid (ZB.out.below hb2 ZB.out.lt)
           have x0v2 : v2.cell? ⟨g, 0, none⟩ = some (.bool ix) := Blk.cell XB.out 0
           have x1v2 : v2.cell? ⟨g, 1, none⟩ = some (.slice a n c) := Blk.cell XB.out 1
           have x2v2 : v2.cell? ⟨g, 2, none⟩ = some (.slice b m d) := Blk.cell XB.out 2
           have y0v2 : v2.cell? ⟨(g + 1), 0, none⟩ = some (.bool iy) := Blk.cell YB.out 0
           have y1v2 : v2.cell? ⟨(g + 1), 1, none⟩ = some (.slice a' n' c') := Blk.cell YB.out 1
           have y2v2 : v2.cell? ⟨(g + 1), 2, none⟩ = some (.slice b' m' d') := Blk.cell YB.out 2
           clear hb2 Q2)
        | ((with_reducible refine store_res_at 4 18 (g + 1 + 1) false (none) 0 0 (none) 0 0 false (.slice none 0 0) (.slice none 0 0) ?_ ?_ ZB.out ?_); (· rfl); (· rfl)))
      exact GivesRes.row (p := 4) (u := 5) (er := 1) rfl rfl rfl (by rw [E2.out]) ZB.out (by rw [E2.out]; exact AZ.out) BW.out (by rw [hg]; omega)
    | true =>
      cases iy with
      | true =>
        have e := ER.out
        rw [if_neg (by simp)] at e
        have E2 := Lib.hid e
        clear e ER
        go_wp2_with (first
          | (go_at_call 18
             refine (Q1.out _ BW.out).mono ?_
             rintro r v1 ⟨rfl, hb1⟩
             replace BW := Lib.hid (Below.step BW.out hb1)
             replace XB := Lib.hid (XB.out.below hb1 XB.out.lt)
             replace YB := Lib.hid (YB.out.below hb1 YB.out.lt)
             replace ZB := Lib.hid (ZB.out.below hb1 ZB.out.lt)
             have x0v1 : v1.cell? ⟨g, 0, none⟩ = some (.bool ix) := Blk.cell XB.out 0
             have x1v1 : v1.cell? ⟨g, 1, none⟩ = some (.slice a n c) := Blk.cell XB.out 1
             have x2v1 : v1.cell? ⟨g, 2, none⟩ = some (.slice b m d) := Blk.cell XB.out 2
             have y0v1 : v1.cell? ⟨(g + 1), 0, none⟩ = some (.bool true) := Blk.cell YB.out 0
             have y1v1 : v1.cell? ⟨(g + 1), 1, none⟩ = some (.slice a' n' c') := Blk.cell YB.out 1
             have y2v1 : v1.cell? ⟨(g + 1), 2, none⟩ = some (.slice b' m' d') := Blk.cell YB.out 2
             clear hb1 Q1)
          | (go_at_call 18
             refine (Q2.out _ BW.out).mono ?_
             rintro r v2 ⟨rfl, hb2⟩
             replace BW := Lib.hid (Below.step BW.out hb2)
             replace XB := Lib.hid (XB.out.below hb2 XB.out.lt)
             replace YB := Lib.hid (YB.out.below hb2 YB.out.lt)
             replace ZB := Lib.hid (ZB.out.below hb2 ZB.out.lt)
             have x0v2 : v2.cell? ⟨g, 0, none⟩ = some (.bool ix) := Blk.cell XB.out 0
             have x1v2 : v2.cell? ⟨g, 1, none⟩ = some (.slice a n c) := Blk.cell XB.out 1
             have x2v2 : v2.cell? ⟨g, 2, none⟩ = some (.slice b m d) := Blk.cell XB.out 2
             have y0v2 : v2.cell? ⟨(g + 1), 0, none⟩ = some (.bool true) := Blk.cell YB.out 0
             have y1v2 : v2.cell? ⟨(g + 1), 1, none⟩ = some (.slice a' n' c') := Blk.cell YB.out 1
             have y2v2 : v2.cell? ⟨(g + 1), 2, none⟩ = some (.slice b' m' d') := Blk.cell YB.out 2
             clear hb2 Q2)
          | ((with_reducible refine store_res_at 4 18 (g + 1 + 1) false (none) 0 0 (none) 0 0 false (.slice none 0 0) (.slice none 0 0) ?_ ?_ ZB.out ?_); (· rfl); (· rfl)))
        exact GivesRes.row (p := 4) (u := 5) (er := 1) rfl rfl rfl (by rw [E2.out]) ZB.out (by rw [E2.out]; exact AZ.out) BW.out (by rw [hg]; omega)
      | false =>
        cases ix with
        | true =>
          have e := ER.out
          rw [if_pos (by simp), if_pos (by simp)] at e
          have E2 := Lib.hid e
          clear e ER
          go_wp2_with (first
            | (go_at_call 18
               refine (Q1.out _ BW.out).mono ?_
               rintro r v1 ⟨rfl, hb1⟩
               replace BW := Lib.hid (Below.step BW.out hb1)
               replace XB := Lib.hid (XB.out.below hb1 XB.out.lt)
               replace YB := Lib.hid (YB.out.below hb1 YB.out.lt)
               replace ZB := Lib.hid (ZB.out.below hb1 ZB.out.lt)
               have x0v1 : v1.cell? ⟨g, 0, none⟩ = some (.bool true) := Blk.cell XB.out 0
               have x1v1 : v1.cell? ⟨g, 1, none⟩ = some (.slice a n c) := Blk.cell XB.out 1
               have x2v1 : v1.cell? ⟨g, 2, none⟩ = some (.slice b m d) := Blk.cell XB.out 2
               have y0v1 : v1.cell? ⟨(g + 1), 0, none⟩ = some (.bool false) := Blk.cell YB.out 0
               have y1v1 : v1.cell? ⟨(g + 1), 1, none⟩ = some (.slice a' n' c') := Blk.cell YB.out 1
               have y2v1 : v1.cell? ⟨(g + 1), 2, none⟩ = some (.slice b' m' d') := Blk.cell YB.out 2
               clear hb1 Q1)
            | (go_at_call 18
               refine (Q2.out _ BW.out).mono ?_
               rintro r v2 ⟨rfl, hb2⟩
               replace BW := Lib.hid (Below.step BW.out hb2)
               replace XB := Lib.hid (XB.out.below hb2 XB.out.lt)
               replace YB := Lib.hid (YB.out.below hb2 YB.out.lt)
               replace ZB := Lib.hid (ZB.out.below hb2 ZB.out.lt)
               have x0v2 : v2.cell? ⟨g, 0, none⟩ = some (.bool true) := Blk.cell XB.out 0
               have x1v2 : v2.cell? ⟨g, 1, none⟩ = some (.slice a n c) := Blk.cell XB.out 1
               have x2v2 : v2.cell? ⟨g, 2, none⟩ = some (.slice b m d) := Blk.cell XB.out 2
               have y0v2 : v2.cell? ⟨(g + 1), 0, none⟩ = some (.bool false) := Blk.cell YB.out 0
               have y1v2 : v2.cell? ⟨(g + 1), 1, none⟩ = some (.slice a' n' c') := Blk.cell YB.out 1
               have y2v2 : v2.cell? ⟨(g + 1), 2, none⟩ = some (.slice b' m' d') := Blk.cell YB.out 2
               clear hb2 Q2)
            | ((with_reducible refine store_res_at 4 21 (g + 1 + 1) false (a') n' c' (b') m' d' false (.slice none 0 0) (.slice none 0 0) ?_ ?_ ZB.out ?_); (· rfl); (· rfl)))
          exact GivesRes.row (p := 4) (u := 5) (er := 0) rfl rfl rfl (by rw [E2.out]) ZB.out (by rw [E2.out]; exact AY.out) BW.out (by rw [hg]; omega)
        | false =>
          cases i1 with
          | false =>
            have e := ER.out
            rw [if_pos (by simp), if_neg (by simp), if_neg (by simp)] at e
            have E2 := Lib.hid e
            clear e ER
            go_wp2_with (first
              | (go_at_call 18
                 refine (Q1.out _ BW.out).mono ?_
                 rintro r v1 ⟨rfl, hb1⟩
                 replace BW := Lib.hid (Below.step BW.out hb1)
                 replace XB := Lib.hid (XB.out.below hb1 XB.out.lt)
                 replace YB := Lib.hid (YB.out.below hb1 YB.out.lt)
                 replace ZB := Lib.hid (ZB.out.below hb1 ZB.out.lt)
                 have x0v1 : v1.cell? ⟨g, 0, none⟩ = some (.bool false) := Blk.cell XB.out 0
                 have x1v1 : v1.cell? ⟨g, 1, none⟩ = some (.slice a n c) := Blk.cell XB.out 1
                 have x2v1 : v1.cell? ⟨g, 2, none⟩ = some (.slice b m d) := Blk.cell XB.out 2
                 have y0v1 : v1.cell? ⟨(g + 1), 0, none⟩ = some (.bool false) := Blk.cell YB.out 0
                 have y1v1 : v1.cell? ⟨(g + 1), 1, none⟩ = some (.slice a' n' c') := Blk.cell YB.out 1
                 have y2v1 : v1.cell? ⟨(g + 1), 2, none⟩ = some (.slice b' m' d') := Blk.cell YB.out 2
                 clear hb1 Q1)
              | (go_at_call 18
                 refine (Q2.out _ BW.out).mono ?_
                 rintro r v2 ⟨rfl, hb2⟩
                 replace BW := Lib.hid (Below.step BW.out hb2)
                 replace XB := Lib.hid (XB.out.below hb2 XB.out.lt)
                 replace YB := Lib.hid (YB.out.below hb2 YB.out.lt)
                 replace ZB := Lib.hid (ZB.out.below hb2 ZB.out.lt)
                 have x0v2 : v2.cell? ⟨g, 0, none⟩ = some (.bool false) := Blk.cell XB.out 0
                 have x1v2 : v2.cell? ⟨g, 1, none⟩ = some (.slice a n c) := Blk.cell XB.out 1
                 have x2v2 : v2.cell? ⟨g, 2, none⟩ = some (.slice b m d) := Blk.cell XB.out 2
                 have y0v2 : v2.cell? ⟨(g + 1), 0, none⟩ = some (.bool false) := Blk.cell YB.out 0
                 have y1v2 : v2.cell? ⟨(g + 1), 1, none⟩ = some (.slice a' n' c') := Blk.cell YB.out 1
                 have y2v2 : v2.cell? ⟨(g + 1), 2, none⟩ = some (.slice b' m' d') := Blk.cell YB.out 2
                 clear hb2 Q2)
              | (go_at_call 48
                 refine (Q3.out _ BW.out).mono ?_
                 rintro r v3 ⟨rfl, hb3⟩
                 replace BW := Lib.hid (Below.step BW.out hb3)
                 replace XB := Lib.hid (XB.out.below hb3 XB.out.lt)
                 replace YB := Lib.hid (YB.out.below hb3 YB.out.lt)
                 replace ZB := Lib.hid (ZB.out.below hb3 ZB.out.lt)
                 have x0v3 : v3.cell? ⟨g, 0, none⟩ = some (.bool false) := Blk.cell XB.out 0
                 have x1v3 : v3.cell? ⟨g, 1, none⟩ = some (.slice a n c) := Blk.cell XB.out 1
                 have x2v3 : v3.cell? ⟨g, 2, none⟩ = some (.slice b m d) := Blk.cell XB.out 2
                 have y0v3 : v3.cell? ⟨(g + 1), 0, none⟩ = some (.bool false) := Blk.cell YB.out 0
                 have y1v3 : v3.cell? ⟨(g + 1), 1, none⟩ = some (.slice a' n' c') := Blk.cell YB.out 1
                 have y2v3 : v3.cell? ⟨(g + 1), 2, none⟩ = some (.slice b' m' d') := Blk.cell YB.out 2
                 clear hb3 Q3)
              | ((with_reducible refine store_res_at 4 36 (g + 1 + 1) false (none) 0 0 (none) 0 0 false (.slice none 0 0) (.slice none 0 0) ?_ ?_ ZB.out ?_); (· rfl); (· rfl)))
            exact GivesRes.row (p := 4) (u := 5) (er := 9) rfl rfl rfl (by rw [E2.out]) ZB.out (by rw [E2.out]; exact AZ.out) BW.out (by rw [hg]; omega)
          | true =>
            cases i2 with
            | false =>
              have e := ER.out
              rw [if_pos (by simp), if_neg (by simp), if_neg (by simp)] at e
              have E2 := Lib.hid e
              clear e ER
              go_wp2_with (first
                | (go_at_call 18
                   refine (Q1.out _ BW.out).mono ?_
                   rintro r v1 ⟨rfl, hb1⟩
                   replace BW := Lib.hid (Below.step BW.out hb1)
                   replace XB := Lib.hid (XB.out.below hb1 XB.out.lt)
                   replace YB := Lib.hid (YB.out.below hb1 YB.out.lt)
                   replace ZB := Lib.hid (ZB.out.below hb1 ZB.out.lt)
                   have x0v1 : v1.cell? ⟨g, 0, none⟩ = some (.bool false) := Blk.cell XB.out 0
                   have x1v1 : v1.cell? ⟨g, 1, none⟩ = some (.slice a n c) := Blk.cell XB.out 1
                   have x2v1 : v1.cell? ⟨g, 2, none⟩ = some (.slice b m d) := Blk.cell XB.out 2
                   have y0v1 : v1.cell? ⟨(g + 1), 0, none⟩ = some (.bool false) := Blk.cell YB.out 0
                   have y1v1 : v1.cell? ⟨(g + 1), 1, none⟩ = some (.slice a' n' c') := Blk.cell YB.out 1
                   have y2v1 : v1.cell? ⟨(g + 1), 2, none⟩ = some (.slice b' m' d') := Blk.cell YB.out 2
                   clear hb1 Q1)
                | (go_at_call 18
                   refine (Q2.out _ BW.out).mono ?_
                   rintro r v2 ⟨rfl, hb2⟩
                   replace BW := Lib.hid (Below.step BW.out hb2)
                   replace XB := Lib.hid (XB.out.below hb2 XB.out.lt)
                   replace YB := Lib.hid (YB.out.below hb2 YB.out.lt)
                   replace ZB := Lib.hid (ZB.out.below hb2 ZB.out.lt)
                   have x0v2 : v2.cell? ⟨g, 0, none⟩ = some (.bool false) := Blk.cell XB.out 0
                   have x1v2 : v2.cell? ⟨g, 1, none⟩ = some (.slice a n c) := Blk.cell XB.out 1
                   have x2v2 : v2.cell? ⟨g, 2, none⟩ = some (.slice b m d) := Blk.cell XB.out 2
                   have y0v2 : v2.cell? ⟨(g + 1), 0, none⟩ = some (.bool false) := Blk.cell YB.out 0
                   have y1v2 : v2.cell? ⟨(g + 1), 1, none⟩ = some (.slice a' n' c') := Blk.cell YB.out 1
                   have y2v2 : v2.cell? ⟨(g + 1), 2, none⟩ = some (.slice b' m' d') := Blk.cell YB.out 2
                   clear hb2 Q2)
                | (go_at_call 48
                   refine (Q3.out _ BW.out).mono ?_
                   rintro r v3 ⟨rfl, hb3⟩
                   replace BW := Lib.hid (Below.step BW.out hb3)
                   replace XB := Lib.hid (XB.out.below hb3 XB.out.lt)
                   replace YB := Lib.hid (YB.out.below hb3 YB.out.lt)
                   replace ZB := Lib.hid (ZB.out.below hb3 ZB.out.lt)
                   have x0v3 : v3.cell? ⟨g, 0, none⟩ = some (.bool false) := Blk.cell XB.out 0
                   have x1v3 : v3.cell? ⟨g, 1, none⟩ = some (.slice a n c) := Blk.cell XB.out 1
                   have x2v3 : v3.cell? ⟨g, 2, none⟩ = some (.slice b m d) := Blk.cell XB.out 2
                   have y0v3 : v3.cell? ⟨(g + 1), 0, none⟩ = some (.bool false) := Blk.cell YB.out 0
                   have y1v3 : v3.cell? ⟨(g + 1), 1, none⟩ = some (.slice a' n' c') := Blk.cell YB.out 1
                   have y2v3 : v3.cell? ⟨(g + 1), 2, none⟩ = some (.slice b' m' d') := Blk.cell YB.out 2
                   clear hb3 Q3)
                | (go_at_call 49
                   refine (Q4.out _ BW.out).mono ?_
                   rintro r v4 ⟨rfl, hb4⟩
                   replace BW := Lib.hid (Below.step BW.out hb4)
                   replace XB := Lib.hid (XB.out.below hb4 XB.out.lt)
                   replace YB := Lib.hid (YB.out.below hb4 YB.out.lt)
                   replace ZB := Lib.hid (ZB.out.below hb4 ZB.out.lt)
                   have x0v4 : v4.cell? ⟨g, 0, none⟩ = some (.bool false) := Blk.cell XB.out 0
                   have x1v4 : v4.cell? ⟨g, 1, none⟩ = some (.slice a n c) := Blk.cell XB.out 1
                   have x2v4 : v4.cell? ⟨g, 2, none⟩ = some (.slice b m d) := Blk.cell XB.out 2
                   have y0v4 : v4.cell? ⟨(g + 1), 0, none⟩ = some (.bool false) := Blk.cell YB.out 0
                   have y1v4 : v4.cell? ⟨(g + 1), 1, none⟩ = some (.slice a' n' c') := Blk.cell YB.out 1
                   have y2v4 : v4.cell? ⟨(g + 1), 2, none⟩ = some (.slice b' m' d') := Blk.cell YB.out 2
                   clear hb4 Q4)
                | ((with_reducible refine store_res_at 4 36 (g + 1 + 1) false (none) 0 0 (none) 0 0 false (.slice none 0 0) (.slice none 0 0) ?_ ?_ ZB.out ?_); (· rfl); (· rfl)))
              exact GivesRes.row (p := 4) (u := 5) (er := 9) rfl rfl rfl (by rw [E2.out]) ZB.out (by rw [E2.out]; exact AZ.out) BW.out (by rw [hg]; omega)
            | true =>
              have e := ER.out
              rw [if_pos (by simp), if_neg (by simp), if_pos (by simp)] at e
              have E2 := Lib.hid e
              clear e ER
              go_wp2_with (first
                | (go_at_call 18
                   refine (Q1.out _ BW.out).mono ?_
                   rintro r v1 ⟨rfl, hb1⟩
                   replace BW := Lib.hid (Below.step BW.out hb1)
                   replace XB := Lib.hid (XB.out.below hb1 XB.out.lt)
                   replace YB := Lib.hid (YB.out.below hb1 YB.out.lt)
                   replace ZB := Lib.hid (ZB.out.below hb1 ZB.out.lt)
                   have x0v1 : v1.cell? ⟨g, 0, none⟩ = some (.bool false) := Blk.cell XB.out 0
                   have x1v1 : v1.cell? ⟨g, 1, none⟩ = some (.slice a n c) := Blk.cell XB.out 1
                   have x2v1 : v1.cell? ⟨g, 2, none⟩ = some (.slice b m d) := Blk.cell XB.out 2
                   have y0v1 : v1.cell? ⟨(g + 1), 0, none⟩ = some (.bool false) := Blk.cell YB.out 0
                   have y1v1 : v1.cell? ⟨(g + 1), 1, none⟩ = some (.slice a' n' c') := Blk.cell YB.out 1
                   have y2v1 : v1.cell? ⟨(g + 1), 2, none⟩ = some (.slice b' m' d') := Blk.cell YB.out 2
                   clear hb1 Q1)
                | (go_at_call 18
                   refine (Q2.out _ BW.out).mono ?_
                   rintro r v2 ⟨rfl, hb2⟩
                   replace BW := Lib.hid (Below.step BW.out hb2)
                   replace XB := Lib.hid (XB.out.below hb2 XB.out.lt)
                   replace YB := Lib.hid (YB.out.below hb2 YB.out.lt)
                   replace ZB := Lib.hid (ZB.out.below hb2 ZB.out.lt)
                   have x0v2 : v2.cell? ⟨g, 0, none⟩ = some (.bool false) := Blk.cell XB.out 0
                   have x1v2 : v2.cell? ⟨g, 1, none⟩ = some (.slice a n c) := Blk.cell XB.out 1
                   have x2v2 : v2.cell? ⟨g, 2, none⟩ = some (.slice b m d) := Blk.cell XB.out 2
                   have y0v2 : v2.cell? ⟨(g + 1), 0, none⟩ = some (.bool false) := Blk.cell YB.out 0
                   have y1v2 : v2.cell? ⟨(g + 1), 1, none⟩ = some (.slice a' n' c') := Blk.cell YB.out 1
                   have y2v2 : v2.cell? ⟨(g + 1), 2, none⟩ = some (.slice b' m' d') := Blk.cell YB.out 2
                   clear hb2 Q2)
                | (go_at_call 48
                   refine (Q3.out _ BW.out).mono ?_
                   rintro r v3 ⟨rfl, hb3⟩
                   replace BW := Lib.hid (Below.step BW.out hb3)
                   replace XB := Lib.hid (XB.out.below hb3 XB.out.lt)
                   replace YB := Lib.hid (YB.out.below hb3 YB.out.lt)
                   replace ZB := Lib.hid (ZB.out.below hb3 ZB.out.lt)
                   have x0v3 : v3.cell? ⟨g, 0, none⟩ = some (.bool false) := Blk.cell XB.out 0
                   have x1v3 : v3.cell? ⟨g, 1, none⟩ = some (.slice a n c) := Blk.cell XB.out 1
                   have x2v3 : v3.cell? ⟨g, 2, none⟩ = some (.slice b m d) := Blk.cell XB.out 2
                   have y0v3 : v3.cell? ⟨(g + 1), 0, none⟩ = some (.bool false) := Blk.cell YB.out 0
                   have y1v3 : v3.cell? ⟨(g + 1), 1, none⟩ = some (.slice a' n' c') := Blk.cell YB.out 1
                   have y2v3 : v3.cell? ⟨(g + 1), 2, none⟩ = some (.slice b' m' d') := Blk.cell YB.out 2
                   clear hb3 Q3)
                | (go_at_call 49
                   refine (Q4.out _ BW.out).mono ?_
                   rintro r v4 ⟨rfl, hb4⟩
                   replace BW := Lib.hid (Below.step BW.out hb4)
                   replace XB := Lib.hid (XB.out.below hb4 XB.out.lt)
                   replace YB := Lib.hid (YB.out.below hb4 YB.out.lt)
                   replace ZB := Lib.hid (ZB.out.below hb4 ZB.out.lt)
                   have x0v4 : v4.cell? ⟨g, 0, none⟩ = some (.bool false) := Blk.cell XB.out 0
                   have x1v4 : v4.cell? ⟨g, 1, none⟩ = some (.slice a n c) := Blk.cell XB.out 1
                   have x2v4 : v4.cell? ⟨g, 2, none⟩ = some (.slice b m d) := Blk.cell XB.out 2
                   have y0v4 : v4.cell? ⟨(g + 1), 0, none⟩ = some (.bool false) := Blk.cell YB.out 0
                   have y1v4 : v4.cell? ⟨(g + 1), 1, none⟩ = some (.slice a' n' c') := Blk.cell YB.out 1
                   have y2v4 : v4.cell? ⟨(g + 1), 2, none⟩ = some (.slice b' m' d') := Blk.cell YB.out 2
                   clear hb4 Q4)
                | ((with_reducible refine store_res_at 4 37 (g + 1 + 1) false (a) n c (b) m d false (.slice none 0 0) (.slice none 0 0) ?_ ?_ ZB.out ?_); (· rfl); (· rfl)))
              exact GivesRes.row (p := 4) (u := 5) (er := 0) rfl rfl rfl (by rw [E2.out]) ZB.out (by rw [E2.out]; exact AX.out) BW.out (by rw [hg]; omega)
theorem one_span_g {ops : Array Oper} {rest : List Oper} {o : Oper} {a : Act} {w : World} {Q : Exit → Act → World → Prop} (hw : Region.wanted o (yielded ops a.tmps) = true) (s : SpanZ) (hs : SixS s) (parts : Array (Nat × Operand)) (ho : o.op = .buildSlice 22 1 parts) (hps : (parts.map fun (i, x) => (i, a.eval x)).toList = [(0, .agg (scells s))])
    (h : ∀ g w', SpRow w' (some ⟨g, 0, none⟩) 1 [s] → Below w.heap.size w w' → wpList Tryz.prog ops Q rest (a.put o.dst (.slice (some ⟨g, 0, none⟩) 1 1)) w') : wpList Tryz.prog ops Q (o :: rest) a w :=
  wpList_step fun K hK => by
    rw [if_pos hw]
    exact op_sp_build1 s hs parts ho hps (fun g w' h1 h2 _ _ => hK _ _ (h g w' h1 h2))
set_option maxHeartbeats 2000000 in
theorem rhas13_any (r : ResZ) (p : PfZ) (v : Value) (w : World) (h : ResAt w v r) (hp : Sixteen p.a) (l0 : -9223372036854775808 ≤ p.l) (l1 : p.l ≤ 9223372036854775807) (hl : r.sp.length ≤ 100) : Calls Tryz.prog 22 #[v, .agg (pcells p.v p.a p.l)] w fun e w' => e = .returned (.bool (hasR r p)) ∧ Below w.heap.size w w' := by
  obtain ⟨a, n, c, b, m, d, rfl, h1, h2⟩ := h
  have BX := Blk.alloc (resbox w r.inh (.slice a n c) (.slice b m d)) (.cells (pcells p.v p.a p.l) 43)
  have BP := pbox (w.alloc (.cells (resC r.inh (.slice a n c) (.slice b m d)) 25)) p.v p.a p.l
  have s1 : (w.alloc (.cells (resC r.inh (.slice a n c) (.slice b m d)) 25)).heap.size = w.heap.size + 1 := by simp
  rw [s1] at BP
  have bw := Below.step (boxR_below w (.cells (resC r.inh (.slice a n c) (.slice b m d)) 25)) (boxR_below _ (.cells (pcells p.v p.a p.l) 43))
  have hn := h1.1.1
  have Q1 := Lib.hid (fun W => rof_any p.v p.a p.l W hp l0 l1)
  have S6 := Lib.hid (ofS_six (v := p.v) (L := p.l) hp)
  have Q2 := Lib.hid (fun g W (k : SpRow W (some ⟨g, 0, none⟩) 1 [ofS p.v p.a p.l]) (hb : Below w.heap.size w W) => rwithin_any (some ⟨g, 0, none⟩) a 1 n 1 c [ofS p.v p.a p.l] r.sp W ⟨k, fun e => by cases e⟩ (by omega) (h1.below hb) (by omega))
  have EH : Hid (hasR r p = (rightA p.v p.a p.l && inS [ofS p.v p.a p.l] r.sp)) := Lib.hid rfl
  have EO : Hid (ofE p.v p.a p.l = if rightA p.v p.a p.l then 0 else 1) := Lib.hid rfl
  have SP := Lib.hid (Tryz.sizeP (v := p.v) (L := p.l) hp.1)
  have BW := Lib.hid bw
  clear bw s1 h1 h2 hn l0 l1 hl
  generalize hw2 : (w.alloc (.cells (resC r.inh (.slice a n c) (.slice b m d)) 25)).alloc (.cells (pcells p.v p.a p.l) 43) = w2 at *
  obtain ⟨g, hg⟩ : ∃ g, w.heap.size = g := ⟨_, rfl⟩
  rw [hg] at BX BP
  have XB := Lib.hid BX
  have PB : Hid (Blk w2 (g + 1) 43 (pcells p.v p.a p.l)) := Lib.hid BP
  clear BX BP
  generalize hasR r p = z at *
  generalize inS [ofS p.v p.a p.l] r.sp = i1 at *
  have SS := Lib.hid (Tryz.sizeS S6.out)
  have SO := Lib.hid (scells_one (ofS p.v p.a p.l))
  have SZ : Hid ((scells zeroS).size = (scells (ofS p.v p.a p.l)).size) := Lib.hid (by rw [scells_size S6.out, scells_size zeroS_six])
  generalize ofS p.v p.a p.l = s at *
  generalize ofE p.v p.a p.l = e0 at *
  generalize rightA p.v p.a p.l = ra at *
  generalize pcells p.v p.a p.l = PC at *
  go_enter Tryz.func22, Tryz.ntmps22
  go_upto_region 1 with fail
  clear hw2
  go_upto_region 2 with (first
    | (refine wpList_load_row rfl 43 (.tmp 3) rfl (g + 1) rfl 43 PC (0, 0) _ PB.out Tryz.underlying43 rfl SP.out ?_)
    | (go_at_call 51
       refine (Q1.out _).mono ?_
       rintro r v1 ⟨rfl, hb1⟩
       have AZ : Hid (Blk (v1.alloc (.cells (scells zeroS) 62)) v1.heap.size 62 (scells zeroS)) := Lib.hid (sbox v1 zeroS)
       have B3 := Lib.hid (Below.step (Below.step BW.out hb1) (boxR_below v1 (.cells (scells s) 62)))
       have X3 := Lib.hid ((XB.out.below hb1 XB.out.lt).alloc (.cells (scells s) 62))
       have S3 : Hid (Blk (v1.alloc (.cells (scells s) 62)) v1.heap.size 62 (scells s)) := Lib.hid (sbox v1 s)
       clear hb1 Q1 BW XB PB)
    | (refine Great.wpList_allocTo rfl (some 5) rfl (.pointer (some ⟨v1.heap.size, 0, none⟩)) (.cells (scells zeroS) 62) (alloc_span_run rfl) ?_)
    | (refine wpList_store_rowTo rfl 62 (.tmp 5) (.tmp 10) rfl rfl v1.heap.size (scells s) rfl rfl 62 (scells zeroS) AZ.out SS.out SZ.out SO.out ?_; rw [alloc_setRow]))
  clear AZ
  generalize v1.alloc (.cells (scells s) 62) = w3 at *
  generalize v1.heap.size = g5 at *
  have x1 : w3.cell? ⟨g, 1, none⟩ = some (.slice a n c) := Blk.cell X3.out 1
  cases ra with
  | false =>
    have e := EO.out
    rw [if_neg (by decide)] at e
    subst e
    have e := EH.out
    rw [Bool.false_and] at e
    subst e
    go_wp2_with fail
    go_ret
    exact ⟨rfl, B3.out⟩
  | true =>
    have e := EO.out
    rw [if_pos rfl] at e
    subst e
    have e := EH.out
    rw [Bool.true_and] at e
    subst e
    go_wp2_with (first
      | (refine wpList_load_rowG (by rfl) 62 (.tmp 5) rfl g5 rfl 62 (scells s) (0, 0) _ S3.out Tryz.underlying62 rfl SS.out ?_)
      | (refine one_span_g (by rfl) s S6.out #[(0, .tmp 15)] rfl (by kernel_rfl) ?_
         intro g6 w6 hr6 hb6
         have R6 := Lib.hid hr6
         have B6 := Lib.hid (Below.step B3.out hb6)
         have x6 : w6.cell? ⟨g, 1, none⟩ = some (.slice a n c) := Blk.cell (X3.out.below hb6 X3.out.lt) 1
         clear hr6 hb6)
      | (go_at_call 48
         refine (Q2.out _ _ R6.out B6.out).mono ?_
         rintro r v7 ⟨rfl, hb7⟩
         have B7 := Lib.hid (Below.step B6.out hb7)
         clear hb7 Q2))
    go_ret
    exact ⟨rfl, B7.out⟩
end Go.Proofs.YtlmndmfebgaidaaGreatDoor
namespace Go.Proofs.YtlmndmfebgaidaaGreatDoor
open Go.RowKit
set_option linter.unusedVariables false
def GivesNodeE (x : T × Int) (w : World) (e : Ending) (w' : World) : Prop :=
  ∃ (A : Option Addr) (n c : Nat) (K : Option Addr) (m d : Nat), e = .returned (.tuple #[.agg #[.int .i64 x.1.tag, .slice A n c, .slice K m d], .int .i64 x.2]) ∧ x.1.InP (w.heap.size ≤ ·) w' (.agg #[.int .i64 x.1.tag, .slice A n c, .slice K m d]) ∧ Below w.heap.size w w'
theorem results_nodee {P : Program} {fn : Func} {p u : Tmp} {ty : TypeId} (h : fn.results = #[.cell p ty, .tmp u]) (tmps : Array Value) (w : World) (g : Nat) (t : TypeId) (cs : Array Value) (fr : Nat × Nat) (d : TypeDesc)
    (hp : tmps.getD p undef = .pointer (some ⟨g, 0, none⟩)) (hg : w.heap[g]? = some (.cells cs t fr))
    (hu : P.underlying ty = some d) (hd : (match d with | .struct _ | .array _ _ => true | _ => false) = true) (hi : (P.info? ty).map (·.size) = some cs.size) :
    (results fn tmps).run P w = .ok (.tuple #[.agg cs, tmps.getD u undef]) w := by
  rw [results_cell_tmp h, hp]
  simp [asAddr, run_loadVar_row w g t ty cs fr d hg hu hd hi, Result.andThen]
def HasNode (t : T) (w : World) (e : Ending) (w' : World) : Prop :=
  ∃ (A : Option Addr) (n c : Nat) (K : Option Addr) (m d : Nat), e = .returned (.agg #[.int .i64 t.tag, .slice A n c, .slice K m d]) ∧ t.In w' (.agg #[.int .i64 t.tag, .slice A n c, .slice K m d]) ∧ Below w.heap.size w w'
theorem GivesNode.has {t : T} {w w' : World} {e : Ending} (h : GivesNode t w e w') : HasNode t w e w' := by
  obtain ⟨A, n, c, K, m, d, e, hin, hb⟩ := h
  exact ⟨A, n, c, K, m, d, e, T.InP.in _ hin, hb⟩
def HasNodeE (x : T × Int) (w : World) (e : Ending) (w' : World) : Prop :=
  ∃ (A : Option Addr) (n c : Nat) (K : Option Addr) (m d : Nat), e = .returned (.tuple #[.agg #[.int .i64 x.1.tag, .slice A n c, .slice K m d], .int .i64 x.2]) ∧ x.1.In w' (.agg #[.int .i64 x.1.tag, .slice A n c, .slice K m d]) ∧ Below w.heap.size w w'
theorem GivesNodeE.has {x : T × Int} {w w' : World} {e : Ending} (h : GivesNodeE x w e w') : HasNodeE x w e w' := by
  obtain ⟨A, n, c, K, m, d, e, hin, hb⟩ := h
  exact ⟨A, n, c, K, m, d, e, T.InP.in _ hin, hb⟩
end Go.Proofs.YtlmndmfebgaidaaGreatDoor
