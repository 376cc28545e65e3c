/-
  Merged texts: ReM, ReR, ReO, ReS, ScH.
-/
import Derived.Test.YtlmndmfebgaidaaGreatDoorGnI
import Derived.Test.YtlmndmfebgaidaaGreatDoorGnK
import Derived.Test.YtlmndmfebgaidaaGreatDoorGnD
import Derived.Test.YtlmndmfebgaidaaGreatDoorGnA
import Derived.Test.YtlmndmfebgaidaaGreatDoorGnH
namespace Go.Proofs.YtlmndmfebgaidaaGreatDoor
open Go.RowKit
set_option linter.unusedVariables false
set_option maxRecDepth 100000
def resC (b : Bool) (x y : Value) : Array Value := #[.bool b, x, y]
def ResAt (w : World) (v : Value) (r : ResZ) : Prop := ∃ (a : Option Addr) (n c : Nat) (b : Option Addr) (m d : Nat), v = .agg (resC r.inh (.slice a n c) (.slice b m d)) ∧ SpArg w a n c r.sp ∧ RgArg w b m d r.ns
theorem ResAt.below {w W : World} {v : Value} {r : ResZ} (h : ResAt w v r) (hb : Below w.heap.size w W) : ResAt W v r := by
  obtain ⟨a, n, c, b, m, d, e, h1, h2⟩ := h
  exact ⟨a, n, c, b, m, d, e, h1.below hb, h2.below hb⟩
theorem ResAt.ok {w : World} {v : Value} {r : ResZ} (h : ResAt w v r) : ResOk r := by
  obtain ⟨a, n, c, b, m, d, e, h1, h2⟩ := h
  exact ⟨h1.spans, h2.under⟩
theorem SpArg.nilS (W : World) : SpArg W none 0 0 [] := ⟨SpRow.nil _ _, fun _ => ⟨rfl, rfl⟩⟩
theorem ResAt.zero (w : World) : ResAt w (.agg (resC false (.slice none 0 0) (.slice none 0 0))) zeroRes := ⟨none, 0, 0, none, 0, 0, rfl, SpArg.nilS _, ⟨RgRow.nil _ _, fun _ => ⟨rfl, rfl⟩⟩⟩
def GivesRes (x : ResZ × Int) (w : World) (e : Ending) (w' : World) : Prop := ∃ v, e = .returned (.tuple #[v, .int .i64 x.2]) ∧ ResAt w' v x.1 ∧ Below w.heap.size w w'
theorem resbox (w : World) (b : Bool) (x y : Value) : Blk (w.alloc (.cells (resC b x y) 25)) w.heap.size 25 (resC b x y) := Blk.new _ _ _
theorem Tryz.sizeRes (b : Bool) (x y : Value) : (Tryz.prog.info? 25).map (·.size) = some (resC b x y).size := by kernel_rfl
def lightR (r : ResZ) : Bool := decide (r.sp.length ≤ 30) && decide (r.ns.length ≤ 30)
set_option maxHeartbeats 500000 in
theorem rlight13_any (r : ResZ) (v : Value) (w : World) (h : ResAt w v r) : Calls Tryz.prog 9 #[v] w fun e w' => e = .returned (.bool (lightR r)) ∧ Below w.heap.size w w' := by
  obtain ⟨a, n, c, b, m, d, rfl, h1, h2⟩ := h
  have BX := resbox w r.inh (.slice a n c) (.slice b m d)
  have c1 : (w.alloc (.cells (resC r.inh (.slice a n c) (.slice b m d)) 25)).cell? ⟨w.heap.size, 1, none⟩ = some (.slice a n c) := Blk.cell BX 1
  have c2 : (w.alloc (.cells (resC r.inh (.slice a n c) (.slice b m d)) 25)).cell? ⟨w.heap.size, 2, none⟩ = some (.slice b m d) := Blk.cell BX 2
  have BW := Lib.hid (boxR_below w (.cells (resC r.inh (.slice a n c) (.slice b m d)) 25))
  have EL : Hid (lightR r = (decide (n ≤ 30) && decide (m ≤ 30))) := Lib.hid (by unfold lightR; rw [h1.1.1, h2.1.1])
  clear h1 h2 BX
  generalize lightR r = q at *
  go_enter Tryz.func9, Tryz.ntmps9
  generalize hw2 : w.alloc (.cells (resC r.inh (.slice a n c) (.slice b m d)) 25) = w2 at *
  by_cases h1 : n ≤ 30
  · have t1 : decide ((n : Int) ≤ 30) = true := decide_eq_true (by omega)
    have t1' : decide (n ≤ 30) = true := decide_eq_true h1
    by_cases h2 : m ≤ 30
    · have t2 : decide ((m : Int) ≤ 30) = true := decide_eq_true (by omega)
      have t2' : decide (m ≤ 30) = true := decide_eq_true h2
      go_wp2_with fail
      go_ret
      exact ⟨by rw [EL.out, t1', t2']; rfl, BW.out⟩
    · have t2 : decide ((m : Int) ≤ 30) = false := decide_eq_false (by omega)
      have t2' : decide (m ≤ 30) = false := decide_eq_false h2
      go_wp2_with fail
      go_ret
      exact ⟨by rw [EL.out, t1', t2']; rfl, BW.out⟩
  · have t1 : decide ((n : Int) ≤ 30) = false := decide_eq_false (by omega)
    have t1' : decide (n ≤ 30) = false := decide_eq_false h1
    go_wp2_with fail
    go_ret
    exact ⟨by rw [EL.out, t1']; rfl, BW.out⟩
set_option maxHeartbeats 1000000 in
theorem rsame13_any (x y : ResZ) (u v : Value) (w : World) (hx : ResAt w u x) (hy : ResAt w v y) (lx : x.sp.length ≤ 90000) (ly : y.sp.length ≤ 90000) (nx : x.ns.length ≤ 90000) : Calls Tryz.prog 16 #[u, v] w fun e w' => e = .returned (.bool (eqRes x y)) ∧ Below w.heap.size w w' := by
  obtain ⟨a, n, c, b, m, d, rfl, h1, h2⟩ := hx
  obtain ⟨a', n', c', b', m', d', rfl, k1, k2⟩ := hy
  have BX := Blk.alloc (resbox w x.inh (.slice a n c) (.slice b m d)) (.cells (resC y.inh (.slice a' n' c') (.slice b' m' d')) 25)
  have BY := resbox (w.alloc (.cells (resC x.inh (.slice a n c) (.slice b m d)) 25)) y.inh (.slice a' n' c') (.slice b' m' d')
  rw [show (w.alloc (.cells (resC x.inh (.slice a n c) (.slice b m d)) 25)).heap.size = w.heap.size + 1 by simp] at BY
  have bw := Below.step (boxR_below w (.cells (resC x.inh (.slice a n c) (.slice b m d)) 25)) (boxR_below _ (.cells (resC y.inh (.slice a' n' c') (.slice b' m' d')) 25))
  have S1 := Lib.hid (h1.below bw)
  have S2 := Lib.hid (k1.below bw)
  have R1 := Lib.hid (h2.below bw)
  have R2 := Lib.hid (k2.below bw)
  have BW := Lib.hid bw
  have hn := h1.1.1
  have hn' := k1.1.1
  have hm := h2.1.1
  clear bw
  generalize hw2 : (w.alloc (.cells (resC x.inh (.slice a n c) (.slice b m d)) 25)).alloc (.cells (resC y.inh (.slice a' n' c') (.slice b' m' d')) 25) = w2 at *
  have CS := Lib.hid (sameS_any a a' n c n' c' x.sp y.sp w2 S1.out.1 (by omega) S2.out.1 (by omega))
  have CR := Lib.hid (fun W (hb : Below w2.heap.size w2 W) => rsame_any b b' m d m' d' x.ns y.ns W (R1.out.below hb) (by omega) (R2.out.below hb))
  have c0 : w2.cell? ⟨w.heap.size, 0, none⟩ = some (.bool x.inh) := Blk.cell BX 0
  have c1 : w2.cell? ⟨w.heap.size, 1, none⟩ = some (.slice a n c) := Blk.cell BX 1
  have d0 : w2.cell? ⟨w.heap.size + 1, 0, none⟩ = some (.bool y.inh) := Blk.cell BY 0
  have d1 : w2.cell? ⟨w.heap.size + 1, 1, none⟩ = some (.slice a' n' c') := Blk.cell BY 1
  have XB := Lib.hid BX
  have YB := Lib.hid BY
  have EE : Hid (eqRes x y = ((x.inh == y.inh) && (eqLS x.sp y.sp && eqLR x.ns y.ns))) := Lib.hid rfl
  clear BX BY h1 h2 k1 k2 S1 S2 R1 R2 lx ly nx hn hn' hm
  generalize eqRes x y = q at *
  generalize eqLS x.sp y.sp = q1 at *
  generalize eqLR x.ns y.ns = q2 at *
  go_enter Tryz.func16, Tryz.ntmps16
  generalize x.inh = i at *
  generalize y.inh = j at *
  cases hij : (i == j) with
  | false =>
    rw [hij, Bool.false_and] at EE
    have e := EE.out
    subst e
    go_wp2_with fail
    go_ret
    exact ⟨rfl, BW.out⟩
  | true =>
    rw [hij, Bool.true_and] at EE
    cases q1 with
    | false =>
      have e := EE.out
      rw [Bool.false_and] at e
      subst e
      go_wp2_with (go_at_call 37; refine CS.out.mono ?_; rintro r w3 ⟨rfl, hb3⟩; have B3 := Lib.hid (Below.step BW.out hb3); clear hb3 CS)
      go_ret
      exact ⟨rfl, B3.out⟩
    | true =>
      have e := EE.out
      rw [Bool.true_and] at e
      subst e
      go_wp2_with (first
        | (go_at_call 37
           refine CS.out.mono ?_
           rintro r w3 ⟨rfl, hb3⟩
           have B3 := Lib.hid (Below.step BW.out hb3)
           have K3 := Lib.hid hb3
           have e2 : w3.cell? ⟨w.heap.size, 2, none⟩ = some (.slice b m d) := Blk.cell (XB.out.below hb3 XB.out.lt) 2
           have f2 : w3.cell? ⟨w.heap.size + 1, 2, none⟩ = some (.slice b' m' d') := Blk.cell (YB.out.below hb3 YB.out.lt) 2
           clear hb3 CS)
        | (go_at_call 38
           refine (CR.out _ K3.out).mono ?_
           rintro r w4 ⟨rfl, hb4⟩
           have B4 := Lib.hid (Below.step B3.out hb4)
           clear hb4 CR))
      go_ret
      exact ⟨rfl, B4.out⟩
end Go.Proofs.YtlmndmfebgaidaaGreatDoor
namespace Go.Proofs.YtlmndmfebgaidaaGreatDoor
open Go.RowKit
set_option linter.unusedVariables false
set_option maxRecDepth 100000
theorem yields_spans {o : Oper} {a : Act} {W : World} (x : Operand) (ho : o.op = .load 22 x) (g off : Nat) (v : Value) (hx : a.eval x = .pointer (some ⟨g, off, none⟩)) (hc : W.cell? ⟨g, off, none⟩ = some v) : (execOp a.eval o).run Tryz.prog W = .ok (.value v) W := by
  have u3 := Tryz.underlying22
  unfold execOp
  simp only [ho, hx]
  go_simp
theorem yields_ranges {o : Oper} {a : Act} {W : World} (x : Operand) (ho : o.op = .load 23 x) (g off : Nat) (v : Value) (hx : a.eval x = .pointer (some ⟨g, off, none⟩)) (hc : W.cell? ⟨g, off, none⟩ = some v) : (execOp a.eval o).run Tryz.prog W = .ok (.value v) W := by
  have u3 := Tryz.underlying23
  unfold execOp
  simp only [ho, hx]
  go_simp
set_option maxHeartbeats 2000000 in
theorem rright13_any (r : ResZ) (v : Value) (w : World) (h : ResAt w v r) (hl : r.sp.length ≤ 40000) (hm : r.ns.length ≤ 40000) : Calls Tryz.prog 18 #[v] w fun e w' => e = .returned (.bool (rightR r)) ∧ Below w.heap.size w w' := by
  obtain ⟨a, n, c, b, m, d, rfl, h1, h2⟩ := h
  have hn' := h1.1.1
  have hm' := h2.1.1
  have BX := resbox w r.inh (.slice a n c) (.slice b m d)
  have bw := boxR_below w (.cells (resC r.inh (.slice a n c) (.slice b m d)) 25)
  have S1 := Lib.hid (h1.below bw)
  have R1 := Lib.hid (h2.below bw)
  have BW := Lib.hid bw
  clear bw
  generalize hw2 : w.alloc (.cells (resC r.inh (.slice a n c) (.slice b m d)) 25) = w2 at *
  obtain ⟨g, hg⟩ : ∃ g, w.heap.size = g := ⟨_, rfl⟩
  rw [hg] at BX
  have c0 : w2.cell? ⟨g, 0, none⟩ = some (.bool r.inh) := Blk.cell BX 0
  have c1 : w2.cell? ⟨g, 1, none⟩ = some (.slice a n c) := Blk.cell BX 1
  have c2 : w2.cell? ⟨g, 2, none⟩ = some (.slice b m d) := Blk.cell BX 2
  have XB := Lib.hid BX
  have ER : Hid (rightR r = if r.inh = true then decide (n = 0) && decide (m = 0) else if n + m = 0 ∨ 400 < n ∨ 400 < m then false else eqLS (joinS r.sp) r.sp && eqLR (joinZ r.ns) r.ns) := Lib.hid (by unfold rightR; rw [hn', hm'])
  have CJ := Lib.hid (fun W (h : SpArg W a n c r.sp) => rjoin_any a n c r.sp W h.1 h.2 (by omega))
  have CS := Lib.hid (fun (A : Option Addr) (k ca : Nat) (X : List SpanZ) (W : World) (h : SpArg W A k ca X) (hk : k ≤ 90000) (g : SpArg W a n c r.sp) => sameS_any A a k ca n c X r.sp W h.1 hk g.1 (by omega))
  have CI := Lib.hid (fun W (h : RgArg W b m d r.ns) (hm : m ≤ 10000) => rjoinR_any b m d r.ns W h hm)
  have CT := Lib.hid (fun (A : Option Addr) (k ca : Nat) (X : List (Nat × Nat)) (W : World) (h : RgArg W A k ca X) (hk : k ≤ 100000) (g : RgArg W b m d r.ns) => rsame_any A b k ca m d X r.ns W h hk g)
  have LJ : Hid ((joinS r.sp).length ≤ 90000) := Lib.hid (by have := joinS_len r.sp; omega)
  have LI : Hid ((joinZ r.ns).length ≤ 100000) := Lib.hid (by have := join_len' r.ns; omega)
  clear BX h1 h2 hn' hm'
  generalize rightR r = z at *
  generalize joinS r.sp = J at *
  generalize joinZ r.ns = I at *
  have hnm : n ≤ 40000 ∧ m ≤ 40000 := by
    have := S1.out.1.1
    have := R1.out.1.1
    omega
  obtain ⟨n4, m4⟩ := hnm
  clear hl hm
  generalize r.inh = i at *
  generalize r.sp = X at *
  generalize r.ns = Y at *
  go_enter Tryz.func18, Tryz.ntmps18
  cases i with
  | true =>
    have e := ER.out
    rw [if_pos rfl] at e
    by_cases n0 : n = 0
    · have t1 : ((n : Int) == 0) = true := by rw [beq_iff_eq]; omega
      rw [decide_eq_true n0, Bool.true_and] at e
      by_cases m0 : m = 0
      · have t2 : ((m : Int) == 0) = true := by rw [beq_iff_eq]; omega
        rw [decide_eq_true m0] at e
        have E2 := Lib.hid e
        clear e ER n0 m0
        go_wp2_with fail
        go_ret
        exact ⟨by rw [E2.out]; rfl, BW.out⟩
      · have t2 : ((m : Int) == 0) = false := by rw [beq_eq_false_iff_ne]; omega
        rw [decide_eq_false m0] at e
        have E2 := Lib.hid e
        clear e ER n0 m0
        go_wp2_with fail
        go_ret
        exact ⟨by rw [E2.out]; rfl, BW.out⟩
    · have t1 : ((n : Int) == 0) = false := by rw [beq_eq_false_iff_ne]; omega
      rw [decide_eq_false n0, Bool.false_and] at e
      have E2 := Lib.hid e
      clear e ER n0
      go_wp2_with fail
      go_ret
      exact ⟨by rw [E2.out]; rfl, BW.out⟩
  | false =>
    have e := ER.out
    rw [if_neg (by decide)] at e
    have q1 : IntKind.i64.wrap ((n : Int) + (m : Int)) = (n : Int) + (m : Int) := IntWalk.i64_in _ (by omega)
    by_cases h0 : n + m = 0
    · have t1 : ((n : Int) + (m : Int) == 0) = true := by rw [beq_iff_eq]; omega
      rw [if_pos (.inl h0)] at e
      have E2 := Lib.hid e
      clear e ER h0
      go_wp2_with fail
      go_ret
      exact ⟨by rw [E2.out]; rfl, BW.out⟩
    · have t1 : ((n : Int) + (m : Int) == 0) = false := by rw [beq_eq_false_iff_ne]; omega
      by_cases h1 : 400 < n
      · have t2 : decide ((400 : Int) < (n : Int)) = true := decide_eq_true (by omega)
        have t2' : decide (400 < n) = true := decide_eq_true h1
        rw [if_pos (.inr (.inl h1))] at e
        have E2 := Lib.hid e
        clear e ER h0 h1
        go_wp2_with fail
        go_ret
        exact ⟨by rw [E2.out]; rfl, BW.out⟩
      · have t2 : decide ((400 : Int) < (n : Int)) = false := decide_eq_false (by omega)
        have t2' : decide (400 < n) = false := decide_eq_false h1
        by_cases h2 : 400 < m
        · have t3 : decide ((400 : Int) < (m : Int)) = true := decide_eq_true (by omega)
          have t3' : decide (400 < m) = true := decide_eq_true h2
          rw [if_pos (.inr (.inr h2))] at e
          have E2 := Lib.hid e
          clear e ER h0 h1 h2
          go_wp2_with fail
          go_ret
          exact ⟨by rw [E2.out]; rfl, BW.out⟩
        · have t3 : decide ((400 : Int) < (m : Int)) = false := decide_eq_false (by omega)
          have t3' : decide (400 < m) = false := decide_eq_false h2
          rw [if_neg (by omega)] at e
          have E2 := Lib.hid e
          clear e ER h0
          go_upto_region 5 with fail
          clear c0 c1 c2
          refine wp_region_ord Ext Ext.refl (fun _ _ _ => Ext.trans) ((0, false) :: (1, false) :: (3, false) :: (4, false) :: (2, true) :: (5, true) :: (6, false) :: (7, false) :: (8, false) :: (10, false) :: (11, false) :: (9, true) :: (12, true) :: (13, false) :: (14, false) :: []) (by kernel_rfl) (by kernel_rfl) rfl (by kernel_rfl) (fun _ _ _ _ _ h => h) ?_
          replace XB : Hid (Blk w2.drew g 25 (resC false (.slice a n c) (.slice b m d))) := XB
          replace S1 : Hid (SpArg w2.drew a n c X) := Lib.hid (S1.out.below (drewN_below _ 1))
          replace R1 : Hid (RgArg w2.drew b m d Y) := Lib.hid (R1.out.below (drewN_below _ 1))
          replace BW : Hid (Below w.heap.size w w2.drew) := Lib.hid (Below.step BW.out (drewN_below _ 1))
          clear hw2
          generalize w2.drew = w3 at *
          cases hs : eqLS J X with
          | false =>
            rw [hs, Bool.false_and] at E2
            repeat (first
              | (refine ord_skip rfl (by rfl) ?_; simp only [Act.put, List.setIfInBounds_toArray, List.set_cons_zero, List.set_cons_succ])
              | (refine ord_take _ rfl (by rfl) (fun W hW => yields_spans (.tmp 35) rfl g 1 (.slice a n c) rfl (Blk.cell (XB.out.below hW XB.out.lt) 1)) ?_; simp only [Act.put, List.setIfInBounds_toArray, List.set_cons_zero, List.set_cons_succ])
              | (refine ord_take _ rfl (by rfl) (fun W hW => yields_spans (.tmp 38) rfl g 1 (.slice a n c) rfl (Blk.cell (XB.out.below hW XB.out.lt) 1)) ?_; simp only [Act.put, List.setIfInBounds_toArray, List.set_cons_zero, List.set_cons_succ])
              | (refine ord_take _ rfl (by rfl) (fun W hW => by go_simp; first | done | rfl) ?_; simp only [Act.put, List.setIfInBounds_toArray, List.set_cons_zero, List.set_cons_succ])
              | (refine ord_sole rfl (by rfl) (fun K1 hK1 => ?_)
                 go_simp
                 refine (CJ.out _ S1.out).mono ?_
                 rintro e v1 ⟨V1, rfl, ho1⟩
                 obtain ⟨a1, k1, rfl, hr1⟩ := ho1.arg
                 have hb1 := ho1.2.1
                 refine hK1 _ _ hb1 ?_
                 have P1 := Lib.hid hr1
                 replace S1 := Lib.hid (S1.out.below hb1)
                 replace BW := Lib.hid (Below.step BW.out hb1)
                 clear hK1 K1 ho1 hr1 hb1 CJ
                 try simp only [Act.put, List.setIfInBounds_toArray, List.set_cons_zero, List.set_cons_succ])
              | (refine ord_sole rfl (by rfl) (fun K1 hK1 => ?_)
                 go_simp
                 refine (CS.out _ _ _ _ _ P1.out LJ.out S1.out).mono ?_
                 rintro e v2 ⟨rfl, hb2⟩
                 refine hK1 _ _ hb2 ?_
                 replace BW := Lib.hid (Below.step BW.out hb2)
                 clear hK1 K1 hb2 CS
                 rw [hs]
                 try simp only [Act.put, List.setIfInBounds_toArray, List.set_cons_zero, List.set_cons_succ]))
            refine ord_end ?_
            go_wp2_with fail
            go_ret
            exact ⟨by rw [E2.out]; rfl, BW.out⟩
          | true =>
            rw [hs, Bool.true_and] at E2
            repeat (first
              | (refine ord_skip rfl (by rfl) ?_; simp only [Act.put, List.setIfInBounds_toArray, List.set_cons_zero, List.set_cons_succ])
              | (refine ord_take _ rfl (by rfl) (fun W hW => yields_spans (.tmp 35) rfl g 1 (.slice a n c) rfl (Blk.cell (XB.out.below hW XB.out.lt) 1)) ?_; simp only [Act.put, List.setIfInBounds_toArray, List.set_cons_zero, List.set_cons_succ])
              | (refine ord_take _ rfl (by rfl) (fun W hW => yields_spans (.tmp 38) rfl g 1 (.slice a n c) rfl (Blk.cell (XB.out.below hW XB.out.lt) 1)) ?_; simp only [Act.put, List.setIfInBounds_toArray, List.set_cons_zero, List.set_cons_succ])
              | (refine ord_take _ rfl (by rfl) (fun W hW => yields_ranges (.tmp 42) rfl g 2 (.slice b m d) rfl (Blk.cell (XB.out.below hW XB.out.lt) 2)) ?_; simp only [Act.put, List.setIfInBounds_toArray, List.set_cons_zero, List.set_cons_succ])
              | (refine ord_take _ rfl (by rfl) (fun W hW => yields_ranges (.tmp 45) rfl g 2 (.slice b m d) rfl (Blk.cell (XB.out.below hW XB.out.lt) 2)) ?_; simp only [Act.put, List.setIfInBounds_toArray, List.set_cons_zero, List.set_cons_succ])
              | (refine ord_take _ rfl (by rfl) (fun W hW => by go_simp; first | done | rfl) ?_; simp only [Act.put, List.setIfInBounds_toArray, List.set_cons_zero, List.set_cons_succ])
              | (refine ord_sole rfl (by rfl) (fun K1 hK1 => ?_)
                 go_simp
                 refine (CJ.out _ S1.out).mono ?_
                 rintro e v1 ⟨V1, rfl, ho1⟩
                 obtain ⟨a1, k1, rfl, hr1⟩ := ho1.arg
                 have hb1 := ho1.2.1
                 refine hK1 _ _ hb1 ?_
                 have P1 := Lib.hid hr1
                 replace S1 := Lib.hid (S1.out.below hb1)
                 replace R1 := Lib.hid (R1.out.below hb1)
                 replace XB := Lib.hid (XB.out.below hb1 XB.out.lt)
                 replace BW := Lib.hid (Below.step BW.out hb1)
                 clear hK1 K1 ho1 hr1 hb1 CJ
                 try simp only [Act.put, List.setIfInBounds_toArray, List.set_cons_zero, List.set_cons_succ])
              | (refine ord_sole rfl (by rfl) (fun K1 hK1 => ?_)
                 go_simp
                 refine (CS.out _ _ _ _ _ P1.out LJ.out S1.out).mono ?_
                 rintro e v2 ⟨rfl, hb2⟩
                 refine hK1 _ _ hb2 ?_
                 replace R1 := Lib.hid (R1.out.below hb2)
                 replace XB := Lib.hid (XB.out.below hb2 XB.out.lt)
                 replace BW := Lib.hid (Below.step BW.out hb2)
                 clear hK1 K1 hb2 CS P1
                 rw [hs]
                 try simp only [Act.put, List.setIfInBounds_toArray, List.set_cons_zero, List.set_cons_succ])
              | (refine ord_sole rfl (by rfl) (fun K1 hK1 => ?_)
                 go_simp
                 refine (CI.out _ R1.out (by omega)).mono ?_
                 rintro e v3 ⟨V3, rfl, ho3⟩
                 obtain ⟨a3, k3, rfl, hr3⟩ := ho3.arg
                 have hb3 := ho3.2.1
                 refine hK1 _ _ hb3 ?_
                 have P3 := Lib.hid hr3
                 replace R1 := Lib.hid (R1.out.below hb3)
                 replace XB := Lib.hid (XB.out.below hb3 XB.out.lt)
                 replace BW := Lib.hid (Below.step BW.out hb3)
                 clear hK1 K1 ho3 hr3 hb3 CI
                 try simp only [Act.put, List.setIfInBounds_toArray, List.set_cons_zero, List.set_cons_succ])
              | (refine ord_sole rfl (by rfl) (fun K1 hK1 => ?_)
                 go_simp
                 refine (CT.out _ _ _ _ _ P3.out LI.out R1.out).mono ?_
                 rintro e v4 ⟨rfl, hb4⟩
                 refine hK1 _ _ hb4 ?_
                 replace BW := Lib.hid (Below.step BW.out hb4)
                 clear hK1 K1 hb4 CT P3
                 try simp only [Act.put, List.setIfInBounds_toArray, List.set_cons_zero, List.set_cons_succ]))
            refine ord_end ?_
            go_wp2_with fail
            go_ret
            exact ⟨by rw [E2.out]; rfl, BW.out⟩
end Go.Proofs.YtlmndmfebgaidaaGreatDoor
namespace Go.Proofs.YtlmndmfebgaidaaGreatDoor
open Go.RowKit
set_option linter.unusedVariables false
end Go.Proofs.YtlmndmfebgaidaaGreatDoor
namespace Go.Proofs.YtlmndmfebgaidaaGreatDoor
open Go.RowKit
set_option linter.unusedVariables false
set_option maxRecDepth 100000
theorem resC_one (b : Bool) (a : Option Addr) (n c : Nat) (a' : Option Addr) (n' c' : Nat) : (resC b (.slice a n c) (.slice a' n' c')).all (·.oneCell') = true := by simp [resC, Value.oneCell']
theorem store_res_at {ops : Array Oper} {rest : List Oper} {a : Act} {w : World} {Q : Exit → Act → World → Prop} {t' : TypeId} {pos : String} {aft : Array Edge} (k j : Nat) (g : Nat) (b : Bool) (a1 : Option Addr) (n1 c1 : Nat) (a2 : Option Addr) (n2 c2 : Nat) (u : Bool) (x y : Value) (hx : a.eval (.tmp k) = .pointer (some ⟨g, 0, none⟩)) (hy : a.eval (.tmp j) = .agg (resC b (.slice a1 n1 c1) (.slice a2 n2 c2))) (hg : Blk w g 25 (resC u x y))
    (h : wpList Tryz.prog ops Q rest a (w.setRow g (resC b (.slice a1 n1 c1) (.slice a2 n2 c2)))) :
    wpList Tryz.prog ops Q ({ dst := none, op := .store 25 (.tmp k) (.tmp j), type := t', pos := pos, after := aft, guard := none } :: rest) a w :=
  wpList_store_rowTo rfl 25 (.tmp k) (.tmp j) rfl rfl g _ hx hy 25 _ hg (Tryz.sizeRes _ _ _) rfl (resC_one _ _ _ _ _ _ _) h
theorem GivesRes.row {fn : Func} {w W : World} {x : ResZ × Int} {tmps : Array Value} {p u : Tmp} {g : Nat} {b o : Bool} {y z y' z' : Value} {er : Int} (hr : fn.results = #[.cell p 25, .tmp u]) (hp : tmps.getD p undef = .pointer (some ⟨g, 0, none⟩)) (hu : tmps.getD u undef = .int .i64 er) (he : x.2 = er)
    (hg : Blk W g 25 (resC o y' z')) (hat : ResAt w (.agg (resC b y z)) x.1) (hb : Below w.heap.size w W) (hl : w.heap.size ≤ g) :
    bodyPost Tryz.prog fn (GivesRes x w) .ret { tmps := tmps, defers := [] } (W.setRow g (resC b y z)) := by
  have hb2 := below_setRow hb hl (resC b y z)
  refine bodyPost_ret (results_row_val hr tmps _ g 25 (resC b y z) (0, 0) _ hp (setRow_heap _ _ _ _ 25 _ hg) Tryz.underlying25 rfl (Tryz.sizeRes _ _ _)) rfl ⟨_, ?_, hat.below hb2, hb2⟩
  rw [hu, he]
end Go.Proofs.YtlmndmfebgaidaaGreatDoor
namespace Go.Proofs.YtlmndmfebgaidaaGreatDoor
open Go.RowKit
set_option linter.unusedVariables false
def GivesNodeE (x : T × Int) (w : World) (e : Ending) (w' : World) : Prop :=
  ∃ (A : Option Addr) (n c : Nat) (K : Option Addr) (m d : Nat), e = .returned (.tuple #[.agg #[.int .i64 x.1.tag, .slice A n c, .slice K m d], .int .i64 x.2]) ∧ x.1.InP (w.heap.size ≤ ·) w' (.agg #[.int .i64 x.1.tag, .slice A n c, .slice K m d]) ∧ Below w.heap.size w w'
theorem results_nodee {P : Program} {fn : Func} {p u : Tmp} {ty : TypeId} (h : fn.results = #[.cell p ty, .tmp u]) (tmps : Array Value) (w : World) (g : Nat) (t : TypeId) (cs : Array Value) (fr : Nat × Nat) (d : TypeDesc)
    (hp : tmps.getD p undef = .pointer (some ⟨g, 0, none⟩)) (hg : w.heap[g]? = some (.cells cs t fr))
    (hu : P.underlying ty = some d) (hd : (match d with | .struct _ | .array _ _ => true | _ => false) = true) (hi : (P.info? ty).map (·.size) = some cs.size) :
    (results fn tmps).run P w = .ok (.tuple #[.agg cs, tmps.getD u undef]) w := by
  rw [results_cell_tmp h, hp]
  simp [asAddr, run_loadVar_row w g t ty cs fr d hg hu hd hi, Result.andThen]
def HasNode (t : T) (w : World) (e : Ending) (w' : World) : Prop :=
  ∃ (A : Option Addr) (n c : Nat) (K : Option Addr) (m d : Nat), e = .returned (.agg #[.int .i64 t.tag, .slice A n c, .slice K m d]) ∧ t.In w' (.agg #[.int .i64 t.tag, .slice A n c, .slice K m d]) ∧ Below w.heap.size w w'
theorem GivesNode.has {t : T} {w w' : World} {e : Ending} (h : GivesNode t w e w') : HasNode t w e w' := by
  obtain ⟨A, n, c, K, m, d, e, hin, hb⟩ := h
  exact ⟨A, n, c, K, m, d, e, T.InP.in _ hin, hb⟩
def HasNodeE (x : T × Int) (w : World) (e : Ending) (w' : World) : Prop :=
  ∃ (A : Option Addr) (n c : Nat) (K : Option Addr) (m d : Nat), e = .returned (.tuple #[.agg #[.int .i64 x.1.tag, .slice A n c, .slice K m d], .int .i64 x.2]) ∧ x.1.In w' (.agg #[.int .i64 x.1.tag, .slice A n c, .slice K m d]) ∧ Below w.heap.size w w'
theorem GivesNodeE.has {x : T × Int} {w w' : World} {e : Ending} (h : GivesNodeE x w e w') : HasNodeE x w e w' := by
  obtain ⟨A, n, c, K, m, d, e, hin, hb⟩ := h
  exact ⟨A, n, c, K, m, d, e, T.InP.in _ hin, hb⟩
end Go.Proofs.YtlmndmfebgaidaaGreatDoor
