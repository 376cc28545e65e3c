/-
  Merged texts: ReU.
-/
import Derived.Test.YtlmndmfebgaidaaGreatDoorGrM
namespace Go.Proofs.YtlmndmfebgaidaaGreatDoor
open Go.RowKit
set_option linter.unusedVariables false
set_option maxRecDepth 100000
set_option maxHeartbeats 8000000 in
theorem back13_any (hUp : PkUp13) (hNode : PkNode13) (hRead : PkRead13) (hRight : PkRight13) (x : ResZ) (t : T) (u v : Value) (w : World) (hf : Fam w) (hx : ResAt w u x) (ht : t.In w v) :
    Calls Tryz.prog 5 #[u, v] w fun e w' => e = .returned (.bool true) ∧ Below w.heap.size w w' := by
  have hx0 := hx
  have ok := hx.ok
  have ht0 : NodeAt w v t := ht
  obtain ⟨ax, nx, cx, ox, mx, dx, rfl, sx, rx⟩ := hx
  obtain ⟨jt, nt, ct, ot, mt, dt, rfl, hz1, hz2, hz3, hz4, hmt, hmt2, hz5⟩ := ht.open
  clear hz1 hz2 hz3 hz4 hz5
  change NodeAt w (.agg (nodeC t.tag (.slice jt nt ct) (.slice ot mt dt))) t at ht0
  change Calls Tryz.prog 5 #[.agg (resC x.inh (.slice ax nx cx) (.slice ox mx dx)), .agg (nodeC t.tag (.slice jt nt ct) (.slice ot mt dt))] w _
  unfold maxLen at hmt2
  have K0 := (Blk.alloc (Blk.new w 25 (resC x.inh (.slice ax nx cx) (.slice ox mx dx))) (.cells (nodeC t.tag (.slice jt nt ct) (.slice ot mt dt)) 29))
  have K1 := (Blk.new (w.alloc (.cells (resC x.inh (.slice ax nx cx) (.slice ox mx dx)) 25)) 29 (nodeC t.tag (.slice jt nt ct) (.slice ot mt dt)))
  rw [show (w.alloc (.cells (resC x.inh (.slice ax nx cx) (.slice ox mx dx)) 25)).heap.size = w.heap.size + 1 by simp] at K1
  have bw := (Below.step (boxR_below w (.cells (resC x.inh (.slice ax nx cx) (.slice ox mx dx)) 25)) (boxR_below (w.alloc (.cells (resC x.inh (.slice ax nx cx) (.slice ox mx dx)) 25)) (.cells (nodeC t.tag (.slice jt nt ct) (.slice ot mt dt)) 29)))
  have BW := Lib.hid bw
  have AX := Lib.hid (hx0.below bw)
  have AT := Lib.hid (ht0.below bw)
  have CU := Lib.hid (fun W (hb : Below w.heap.size w W) => hUp W (hf.below hb))
  have LX := Lib.hid (fun W h => rlight13_any x (.agg (resC x.inh (.slice ax nx cx) (.slice ox mx dx))) W h)
  have LT := Lib.hid (fun W (h : NodeAt W (.agg (nodeC t.tag (.slice jt nt ct) (.slice ot mt dt))) t) => light_any t (.agg (nodeC t.tag (.slice jt nt ct) (.slice ot mt dt))) W h)
  have CN := Lib.hid (fun (hl : lightR x = true) W h (hb : Below w.heap.size w W) => hNode x (.agg (resC x.inh (.slice ax nx cx) (.slice ox mx dx))) W h (by have := light_len hl; omega) (by have := light_len hl; omega) (hf.below hb))
  have CM := Lib.hid (fun (hl : lightR x = true) W v (h : NodeAt W v (nodeR x).1) (hb : Below w.heap.size w W) => hRead (nodeR x).1 v W h (node_small ok (light_len hl)).1 (node_small ok (light_len hl)).2.1 (node_small ok (light_len hl)).2.2 (hf.below hb))
  have CS := Lib.hid (fun (hl : lightR x = true) W v h k => rsame13_any (readR (nodeR x).1).1 x v (.agg (resC x.inh (.slice ax nx cx) (.slice ox mx dx))) W h k (by have := read_len (nodeR x).1; omega) (by have := light_len hl; omega) (by have := read_len (nodeR x).1; omega))
  have CR := Lib.hid (fun (hl : lightR x = true) W h => hRight x (.agg (resC x.inh (.slice ax nx cx) (.slice ox mx dx))) W h (by have := light_len hl; omega) (by have := light_len hl; omega))
  have DM := Lib.hid (fun (hl : lightT t = true) (hk : mt ≤ 50) W (h : NodeAt W (.agg (nodeC t.tag (.slice jt nt ct) (.slice ot mt dt))) t) (hb : Below w.heap.size w W) => hRead t (.agg (nodeC t.tag (.slice jt nt ct) (.slice ot mt dt))) W h (light_wt hl).1 (light_wt hl).2 (by omega) (hf.below hb))
  have DN := Lib.hid (fun W v h (hb : Below w.heap.size w W) => hNode (readR t).1 v W h (by have := read_len t; omega) (by have := read_len t; omega) (hf.below hb))
  have DR := Lib.hid (fun W v h => hRight (readR t).1 v W h (by have := read_len t; omega) (by have := read_len t; omega))
  have DS := Lib.hid (fun W v (h : NodeAt W v (nodeR (readR t).1).1) (k : NodeAt W (.agg (nodeC t.tag (.slice jt nt ct) (.slice ot mt dt))) t) => same_any (nodeR (readR t).1).1 t v (.agg (nodeC t.tag (.slice jt nt ct) (.slice ot mt dt))) W h k)
  have F1 : Hid ((rightR x = true ∧ (nodeR x).2 = 0 ∧ (readR (nodeR x).1).2 = 0 ∧ eqRes (readR (nodeR x).1).1 x = true) ∨ (rightR x = false ∧ (nodeR x).2 = 1)) := Lib.hid (back_ways ok)
  have F2 : Hid (((readR t).2 = 0 ∧ (nodeR (readR t).1).2 = 0 ∧ sameT (nodeR (readR t).1).1 t = true ∧ rightR (readR t).1 = true) ∨ (readR t).2 = 2) := Lib.hid (just_ways t)
  generalize hw2 : ((w.alloc (.cells (resC x.inh (.slice ax nx cx) (.slice ox mx dx)) 25)).alloc (.cells (nodeC t.tag (.slice jt nt ct) (.slice ot mt dt)) 29)) = w2 at *
  obtain ⟨g, hg⟩ : ∃ g, w.heap.size = g := ⟨_, rfl⟩
  rw [hg] at K0 K1
  generalize lightR x = lx at *
  generalize lightT t = lt at *
  clear hx0 ht0 ht sx rx bw hmt hmt2 hUp hNode hRead hRight ok hf
  generalize hq1 : nodeR x = q1 at *
  generalize hq2 : readR q1.1 = q2 at *
  generalize hq3 : readR t = q3 at *
  generalize hq4 : nodeR q3.1 = q4 at *
  clear hq1 hq2 hq3 hq4
  generalize rightR x = r1 at *
  generalize eqRes q2.1 x = e1 at *
  generalize sameT q4.1 t = e2 at *
  generalize rightR q3.1 = r2 at *
  have BX := Lib.hid K0
  have BT := Lib.hid K1
  clear K0 K1
  go_enter Tryz.func5, Tryz.ntmps5
  go_upto_region 1 with fail
  clear hw2
  cases lx with
  | false =>
    go_wp2_with (first
      | (refine load_res_any (by rfl) (.tmp 2) rfl g rfl BX.out ?_)
      | (refine load_node_any (by rfl) (.tmp 3) rfl (g + 1) rfl BT.out ?_)
      | (go_at_call 8
         refine (CU.out _ BW.out).mono ?_
         rintro r v1 ⟨rfl, hb1⟩
         replace BW := Lib.hid (Below.step BW.out hb1)
         replace BX := Lib.hid (BX.out.below hb1 BX.out.lt)
         replace BT := Lib.hid (BT.out.below hb1 BT.out.lt)
         replace AX := Lib.hid (AX.out.below hb1)
         replace AT := Lib.hid (AT.out.below hb1)
         clear CU
         clear hb1)
      | (go_at_call 9
         refine (LX.out _ AX.out).mono ?_
         rintro r v2 ⟨rfl, hb2⟩
         replace BW := Lib.hid (Below.step BW.out hb2)
         replace BX := Lib.hid (BX.out.below hb2 BX.out.lt)
         replace BT := Lib.hid (BT.out.below hb2 BT.out.lt)
         replace AX := Lib.hid (AX.out.below hb2)
         replace AT := Lib.hid (AT.out.below hb2)
         clear LX
         clear hb2)
      | (go_at_call 10
         refine (LT.out _ AT.out).mono ?_
         rintro r v3 ⟨rfl, hb3⟩
         replace BW := Lib.hid (Below.step BW.out hb3)
         replace BX := Lib.hid (BX.out.below hb3 BX.out.lt)
         replace BT := Lib.hid (BT.out.below hb3 BT.out.lt)
         replace AX := Lib.hid (AX.out.below hb3)
         replace AT := Lib.hid (AT.out.below hb3)
         have y2 : v3.cell? ⟨g + 1, 2, none⟩ = some (.slice ot mt dt) := Blk.cell BT.out 2
         clear LT
         clear hb3))
    go_ret
    exact ⟨rfl, BW.out⟩
  | true =>
    cases lt with
    | false =>
      go_wp2_with (first
        | (refine load_res_any (by rfl) (.tmp 2) rfl g rfl BX.out ?_)
        | (refine load_node_any (by rfl) (.tmp 3) rfl (g + 1) rfl BT.out ?_)
        | (go_at_call 8
           refine (CU.out _ BW.out).mono ?_
           rintro r v1 ⟨rfl, hb1⟩
           replace BW := Lib.hid (Below.step BW.out hb1)
           replace BX := Lib.hid (BX.out.below hb1 BX.out.lt)
           replace BT := Lib.hid (BT.out.below hb1 BT.out.lt)
           replace AX := Lib.hid (AX.out.below hb1)
           replace AT := Lib.hid (AT.out.below hb1)
           clear CU
           clear hb1)
        | (go_at_call 9
           refine (LX.out _ AX.out).mono ?_
           rintro r v2 ⟨rfl, hb2⟩
           replace BW := Lib.hid (Below.step BW.out hb2)
           replace BX := Lib.hid (BX.out.below hb2 BX.out.lt)
           replace BT := Lib.hid (BT.out.below hb2 BT.out.lt)
           replace AX := Lib.hid (AX.out.below hb2)
           replace AT := Lib.hid (AT.out.below hb2)
           clear LX
           clear hb2)
        | (go_at_call 10
           refine (LT.out _ AT.out).mono ?_
           rintro r v3 ⟨rfl, hb3⟩
           replace BW := Lib.hid (Below.step BW.out hb3)
           replace BX := Lib.hid (BX.out.below hb3 BX.out.lt)
           replace BT := Lib.hid (BT.out.below hb3 BT.out.lt)
           replace AX := Lib.hid (AX.out.below hb3)
           replace AT := Lib.hid (AT.out.below hb3)
           have y2 : v3.cell? ⟨g + 1, 2, none⟩ = some (.slice ot mt dt) := Blk.cell BT.out 2
           clear LT
           clear hb3))
      go_ret
      exact ⟨rfl, BW.out⟩
    | true =>
      by_cases hk : 50 < mt
      · have tk : decide ((50 : Int) < (mt : Int)) = true := decide_eq_true (by omega)
        have tk2 : decide (50 < mt) = true := decide_eq_true hk
        go_wp2_with (first
          | (refine load_res_any (by rfl) (.tmp 2) rfl g rfl BX.out ?_)
          | (refine load_node_any (by rfl) (.tmp 3) rfl (g + 1) rfl BT.out ?_)
          | (go_at_call 8
             refine (CU.out _ BW.out).mono ?_
             rintro r v1 ⟨rfl, hb1⟩
             replace BW := Lib.hid (Below.step BW.out hb1)
             replace BX := Lib.hid (BX.out.below hb1 BX.out.lt)
             replace BT := Lib.hid (BT.out.below hb1 BT.out.lt)
             replace AX := Lib.hid (AX.out.below hb1)
             replace AT := Lib.hid (AT.out.below hb1)
             clear CU
             clear hb1)
          | (go_at_call 9
             refine (LX.out _ AX.out).mono ?_
             rintro r v2 ⟨rfl, hb2⟩
             replace BW := Lib.hid (Below.step BW.out hb2)
             replace BX := Lib.hid (BX.out.below hb2 BX.out.lt)
             replace BT := Lib.hid (BT.out.below hb2 BT.out.lt)
             replace AX := Lib.hid (AX.out.below hb2)
             replace AT := Lib.hid (AT.out.below hb2)
             clear LX
             clear hb2)
          | (go_at_call 10
             refine (LT.out _ AT.out).mono ?_
             rintro r v3 ⟨rfl, hb3⟩
             replace BW := Lib.hid (Below.step BW.out hb3)
             replace BX := Lib.hid (BX.out.below hb3 BX.out.lt)
             replace BT := Lib.hid (BT.out.below hb3 BT.out.lt)
             replace AX := Lib.hid (AX.out.below hb3)
             replace AT := Lib.hid (AT.out.below hb3)
             have y2 : v3.cell? ⟨g + 1, 2, none⟩ = some (.slice ot mt dt) := Blk.cell BT.out 2
             clear LT
             clear hb3))
        go_ret
        exact ⟨rfl, BW.out⟩
      · have tk : decide ((50 : Int) < (mt : Int)) = false := decide_eq_false (by omega)
        have tk2 : decide (50 < mt) = false := decide_eq_false hk
        replace CN := Lib.hid (CN.out rfl)
        replace CM := Lib.hid (CM.out rfl)
        replace CS := Lib.hid (CS.out rfl)
        replace CR := Lib.hid (CR.out rfl)
        replace DM := Lib.hid (DM.out rfl (by omega))
        have hF1 := F1.out
        have hF2 := F2.out
        clear F1 F2 hk
        rcases hF1 with ⟨rfl, n0, m0, rfl⟩ | ⟨rfl, n1⟩
        · have s1 : (q1.2 == 0) = true := by rw [n0]; rfl
          have s2 : (q2.2 != 0) = false := by rw [m0]; rfl
          clear n0 m0
          rcases hF2 with ⟨g0, h0, rfl, rfl⟩ | g2
          · have s3 : (q3.2 != 0) = false := by rw [g0]; rfl
            have s4 : (q4.2 == 0) = true := by rw [h0]; rfl
            clear g0 h0
            go_wp2_with (first
              | (refine load_res_any (by rfl) (.tmp 2) rfl g rfl BX.out ?_)
              | (refine load_node_any (by rfl) (.tmp 3) rfl (g + 1) rfl BT.out ?_)
              | (go_at_call 8
                 refine (CU.out _ BW.out).mono ?_
                 rintro r v1 ⟨rfl, hb1⟩
                 replace BW := Lib.hid (Below.step BW.out hb1)
                 replace BX := Lib.hid (BX.out.below hb1 BX.out.lt)
                 replace BT := Lib.hid (BT.out.below hb1 BT.out.lt)
                 replace AX := Lib.hid (AX.out.below hb1)
                 replace AT := Lib.hid (AT.out.below hb1)
                 clear CU
                 clear hb1)
              | (go_at_call 9
                 refine (LX.out _ AX.out).mono ?_
                 rintro r v2 ⟨rfl, hb2⟩
                 replace BW := Lib.hid (Below.step BW.out hb2)
                 replace BX := Lib.hid (BX.out.below hb2 BX.out.lt)
                 replace BT := Lib.hid (BT.out.below hb2 BT.out.lt)
                 replace AX := Lib.hid (AX.out.below hb2)
                 replace AT := Lib.hid (AT.out.below hb2)
                 clear LX
                 clear hb2)
              | (go_at_call 10
                 refine (LT.out _ AT.out).mono ?_
                 rintro r v3 ⟨rfl, hb3⟩
                 replace BW := Lib.hid (Below.step BW.out hb3)
                 replace BX := Lib.hid (BX.out.below hb3 BX.out.lt)
                 replace BT := Lib.hid (BT.out.below hb3 BT.out.lt)
                 replace AX := Lib.hid (AX.out.below hb3)
                 replace AT := Lib.hid (AT.out.below hb3)
                 have y2 : v3.cell? ⟨g + 1, 2, none⟩ = some (.slice ot mt dt) := Blk.cell BT.out 2
                 clear LT
                 clear hb3)
              | (go_at_call 11
                 refine (CN.out _ AX.out BW.out).mono ?_
                 rintro r v4 ⟨p4, m4, c4, o4, k4, d4, rfl, hat4, hb4⟩
                 replace BW := Lib.hid (Below.step BW.out hb4)
                 replace BX := Lib.hid (BX.out.below hb4 BX.out.lt)
                 replace BT := Lib.hid (BT.out.below hb4 BT.out.lt)
                 replace AX := Lib.hid (AX.out.below hb4)
                 replace AT := Lib.hid (AT.out.below hb4)
                 have Am : Hid (NodeAt v4 (.agg (nodeC q1.1.tag (.slice p4 m4 c4) (.slice o4 k4 d4))) q1.1) := Lib.hid hat4
                 clear hb4 hat4 CN)
              | (with_reducible refine allocNode_at ?_)
              | ((with_reducible refine storeNode_new 8 39 v4 q1.1.tag p4 m4 c4 o4 k4 d4 ?_ ?_ ?_ ?_); (· rfl); (· rfl); (· rfl)
                 have hb4a := boxR_below v4 (.cells (nodeC q1.1.tag (.slice p4 m4 c4) (.slice o4 k4 d4)) 29)
                 replace BW := Lib.hid (Below.step BW.out hb4a)
                 replace BX := Lib.hid (BX.out.below hb4a BX.out.lt)
                 replace BT := Lib.hid (BT.out.below hb4a BT.out.lt)
                 replace AX := Lib.hid (AX.out.below hb4a)
                 replace AT := Lib.hid (AT.out.below hb4a)
                 replace Am := Lib.hid (Am.out.below hb4a)
                 have Bm := Lib.hid (nodebox v4 q1.1.tag (.slice p4 m4 c4) (.slice o4 k4 d4))
                 clear hb4a
                 generalize v4.alloc (.cells (nodeC q1.1.tag (.slice p4 m4 c4) (.slice o4 k4 d4)) 29) = v4b at *
                 generalize v4.heap.size = gm at *)
              | (refine load_node_any (by rfl) (.tmp 8) rfl gm rfl Bm.out ?_)
              | (go_at_call 14
                 refine (CM.out _ _ Am.out BW.out).mono ?_
                 rintro r v5 ⟨u5, rfl, hat5, hb5⟩
                 replace BW := Lib.hid (Below.step BW.out hb5)
                 replace BX := Lib.hid (BX.out.below hb5 BX.out.lt)
                 replace BT := Lib.hid (BT.out.below hb5 BT.out.lt)
                 replace Bm := Lib.hid (Bm.out.below hb5 Bm.out.lt)
                 replace AX := Lib.hid (AX.out.below hb5)
                 replace AT := Lib.hid (AT.out.below hb5)
                 replace Am := Lib.hid (Am.out.below hb5)
                 have Aq := Lib.hid hat5
                 obtain ⟨p5, m5, c5, o5, k5, d5, rfl, _, _⟩ := hat5
                 clear hb5 CM)
              | (with_reducible refine allocRes_at ?_)
              | ((with_reducible refine storeRes_new 10 44 v5 q2.1.inh p5 m5 c5 o5 k5 d5 ?_ ?_ ?_ ?_); (· rfl); (· rfl); (· rfl)
                 have hb5a := boxR_below v5 (.cells (resC q2.1.inh (.slice p5 m5 c5) (.slice o5 k5 d5)) 25)
                 replace BW := Lib.hid (Below.step BW.out hb5a)
                 replace BX := Lib.hid (BX.out.below hb5a BX.out.lt)
                 replace BT := Lib.hid (BT.out.below hb5a BT.out.lt)
                 replace Bm := Lib.hid (Bm.out.below hb5a Bm.out.lt)
                 replace AX := Lib.hid (AX.out.below hb5a)
                 replace AT := Lib.hid (AT.out.below hb5a)
                 replace Am := Lib.hid (Am.out.below hb5a)
                 replace Aq := Lib.hid (Aq.out.below hb5a)
                 have Bq := Lib.hid (resbox v5 q2.1.inh (.slice p5 m5 c5) (.slice o5 k5 d5))
                 clear hb5a
                 generalize v5.alloc (.cells (resC q2.1.inh (.slice p5 m5 c5) (.slice o5 k5 d5)) 25) = v5b at *
                 generalize v5.heap.size = gq at *)
              | (refine load_res_any (by rfl) (.tmp 10) rfl gq rfl Bq.out ?_)
              | (go_at_call 16
                 refine (CS.out _ _ Aq.out AX.out).mono ?_
                 rintro r v6 ⟨rfl, hb6⟩
                 replace BW := Lib.hid (Below.step BW.out hb6)
                 replace BX := Lib.hid (BX.out.below hb6 BX.out.lt)
                 replace BT := Lib.hid (BT.out.below hb6 BT.out.lt)
                 replace Bm := Lib.hid (Bm.out.below hb6 Bm.out.lt)
                 replace Bq := Lib.hid (Bq.out.below hb6 Bq.out.lt)
                 replace AX := Lib.hid (AX.out.below hb6)
                 replace AT := Lib.hid (AT.out.below hb6)
                 replace Am := Lib.hid (Am.out.below hb6)
                 replace Aq := Lib.hid (Aq.out.below hb6)
                 clear CS
                 clear hb6)
              | (go_at_call 17
                 refine (CR.out _ AX.out).mono ?_
                 rintro r v7 ⟨rfl, hb7⟩
                 replace BW := Lib.hid (Below.step BW.out hb7)
                 replace BX := Lib.hid (BX.out.below hb7 BX.out.lt)
                 replace BT := Lib.hid (BT.out.below hb7 BT.out.lt)
                 replace Bm := Lib.hid (Bm.out.below hb7 Bm.out.lt)
                 replace Bq := Lib.hid (Bq.out.below hb7 Bq.out.lt)
                 replace AX := Lib.hid (AX.out.below hb7)
                 replace AT := Lib.hid (AT.out.below hb7)
                 replace Am := Lib.hid (Am.out.below hb7)
                 replace Aq := Lib.hid (Aq.out.below hb7)
                 clear CR
                 clear hb7)
              | (go_at_call 14
                 refine (DM.out _ AT.out BW.out).mono ?_
                 rintro r v8 ⟨u8, rfl, hat8, hb8⟩
                 replace BW := Lib.hid (Below.step BW.out hb8)
                 replace BX := Lib.hid (BX.out.below hb8 BX.out.lt)
                 replace BT := Lib.hid (BT.out.below hb8 BT.out.lt)
                 replace Bm := Lib.hid (Bm.out.below hb8 Bm.out.lt)
                 replace Bq := Lib.hid (Bq.out.below hb8 Bq.out.lt)
                 replace AX := Lib.hid (AX.out.below hb8)
                 replace AT := Lib.hid (AT.out.below hb8)
                 replace Am := Lib.hid (Am.out.below hb8)
                 replace Aq := Lib.hid (Aq.out.below hb8)
                 have As := Lib.hid hat8
                 obtain ⟨p8, m8, c8, o8, k8, d8, rfl, _, _⟩ := hat8
                 clear hb8 DM)
              | (with_reducible refine allocRes_at ?_)
              | ((with_reducible refine storeRes_new 13 69 v8 q3.1.inh p8 m8 c8 o8 k8 d8 ?_ ?_ ?_ ?_); (· rfl); (· rfl); (· rfl)
                 have hb8a := boxR_below v8 (.cells (resC q3.1.inh (.slice p8 m8 c8) (.slice o8 k8 d8)) 25)
                 replace BW := Lib.hid (Below.step BW.out hb8a)
                 replace BX := Lib.hid (BX.out.below hb8a BX.out.lt)
                 replace BT := Lib.hid (BT.out.below hb8a BT.out.lt)
                 replace Bm := Lib.hid (Bm.out.below hb8a Bm.out.lt)
                 replace Bq := Lib.hid (Bq.out.below hb8a Bq.out.lt)
                 replace AX := Lib.hid (AX.out.below hb8a)
                 replace AT := Lib.hid (AT.out.below hb8a)
                 replace Am := Lib.hid (Am.out.below hb8a)
                 replace Aq := Lib.hid (Aq.out.below hb8a)
                 replace As := Lib.hid (As.out.below hb8a)
                 have Bs := Lib.hid (resbox v8 q3.1.inh (.slice p8 m8 c8) (.slice o8 k8 d8))
                 clear hb8a
                 generalize v8.alloc (.cells (resC q3.1.inh (.slice p8 m8 c8) (.slice o8 k8 d8)) 25) = v8b at *
                 generalize v8.heap.size = gs at *)
              | (refine load_res_any (by rfl) (.tmp 13) rfl gs rfl Bs.out ?_)
              | (go_at_call 11
                 refine (DN.out _ _ As.out BW.out).mono ?_
                 rintro r v9 ⟨p9, m9, c9, o9, k9, d9, rfl, hat9, hb9⟩
                 replace BW := Lib.hid (Below.step BW.out hb9)
                 replace BX := Lib.hid (BX.out.below hb9 BX.out.lt)
                 replace BT := Lib.hid (BT.out.below hb9 BT.out.lt)
                 replace Bm := Lib.hid (Bm.out.below hb9 Bm.out.lt)
                 replace Bq := Lib.hid (Bq.out.below hb9 Bq.out.lt)
                 replace Bs := Lib.hid (Bs.out.below hb9 Bs.out.lt)
                 replace AX := Lib.hid (AX.out.below hb9)
                 replace AT := Lib.hid (AT.out.below hb9)
                 replace Am := Lib.hid (Am.out.below hb9)
                 replace Aq := Lib.hid (Aq.out.below hb9)
                 replace As := Lib.hid (As.out.below hb9)
                 have Ay : Hid (NodeAt v9 (.agg (nodeC q4.1.tag (.slice p9 m9 c9) (.slice o9 k9 d9))) q4.1) := Lib.hid hat9
                 clear hb9 hat9 DN)
              | (with_reducible refine allocNode_at ?_)
              | ((with_reducible refine storeNode_new 15 81 v9 q4.1.tag p9 m9 c9 o9 k9 d9 ?_ ?_ ?_ ?_); (· rfl); (· rfl); (· rfl)
                 have hb9a := boxR_below v9 (.cells (nodeC q4.1.tag (.slice p9 m9 c9) (.slice o9 k9 d9)) 29)
                 replace BW := Lib.hid (Below.step BW.out hb9a)
                 replace BX := Lib.hid (BX.out.below hb9a BX.out.lt)
                 replace BT := Lib.hid (BT.out.below hb9a BT.out.lt)
                 replace Bm := Lib.hid (Bm.out.below hb9a Bm.out.lt)
                 replace Bq := Lib.hid (Bq.out.below hb9a Bq.out.lt)
                 replace Bs := Lib.hid (Bs.out.below hb9a Bs.out.lt)
                 replace AX := Lib.hid (AX.out.below hb9a)
                 replace AT := Lib.hid (AT.out.below hb9a)
                 replace Am := Lib.hid (Am.out.below hb9a)
                 replace Aq := Lib.hid (Aq.out.below hb9a)
                 replace As := Lib.hid (As.out.below hb9a)
                 replace Ay := Lib.hid (Ay.out.below hb9a)
                 have By := Lib.hid (nodebox v9 q4.1.tag (.slice p9 m9 c9) (.slice o9 k9 d9))
                 clear hb9a
                 generalize v9.alloc (.cells (nodeC q4.1.tag (.slice p9 m9 c9) (.slice o9 k9 d9)) 29) = v9b at *
                 generalize v9.heap.size = gy at *)
              | (refine load_node_any (by rfl) (.tmp 15) rfl gy rfl By.out ?_)
              | (go_at_call 13
                 refine (DS.out _ _ Ay.out AT.out).mono ?_
                 rintro r v10 ⟨rfl, hb10⟩
                 replace BW := Lib.hid (Below.step BW.out hb10)
                 replace BX := Lib.hid (BX.out.below hb10 BX.out.lt)
                 replace BT := Lib.hid (BT.out.below hb10 BT.out.lt)
                 replace Bm := Lib.hid (Bm.out.below hb10 Bm.out.lt)
                 replace Bq := Lib.hid (Bq.out.below hb10 Bq.out.lt)
                 replace Bs := Lib.hid (Bs.out.below hb10 Bs.out.lt)
                 replace By := Lib.hid (By.out.below hb10 By.out.lt)
                 replace AX := Lib.hid (AX.out.below hb10)
                 replace AT := Lib.hid (AT.out.below hb10)
                 replace Am := Lib.hid (Am.out.below hb10)
                 replace Aq := Lib.hid (Aq.out.below hb10)
                 replace As := Lib.hid (As.out.below hb10)
                 replace Ay := Lib.hid (Ay.out.below hb10)
                 clear DS
                 clear hb10)
              | (go_at_call 17
                 refine (DR.out _ _ As.out).mono ?_
                 rintro r v11 ⟨rfl, hb11⟩
                 replace BW := Lib.hid (Below.step BW.out hb11)
                 replace BX := Lib.hid (BX.out.below hb11 BX.out.lt)
                 replace BT := Lib.hid (BT.out.below hb11 BT.out.lt)
                 replace Bm := Lib.hid (Bm.out.below hb11 Bm.out.lt)
                 replace Bq := Lib.hid (Bq.out.below hb11 Bq.out.lt)
                 replace Bs := Lib.hid (Bs.out.below hb11 Bs.out.lt)
                 replace By := Lib.hid (By.out.below hb11 By.out.lt)
                 replace AX := Lib.hid (AX.out.below hb11)
                 replace AT := Lib.hid (AT.out.below hb11)
                 replace Am := Lib.hid (Am.out.below hb11)
                 replace Aq := Lib.hid (Aq.out.below hb11)
                 replace As := Lib.hid (As.out.below hb11)
                 replace Ay := Lib.hid (Ay.out.below hb11)
                 clear DR
                 clear hb11))
            go_ret
            exact ⟨rfl, BW.out⟩
          · have s3 : (q3.2 != 0) = true := by rw [g2]; rfl
            have s4 : (q3.2 == 2) = true := by rw [g2]; rfl
            clear g2
            go_wp2_with (first
              | (refine load_res_any (by rfl) (.tmp 2) rfl g rfl BX.out ?_)
              | (refine load_node_any (by rfl) (.tmp 3) rfl (g + 1) rfl BT.out ?_)
              | (go_at_call 8
                 refine (CU.out _ BW.out).mono ?_
                 rintro r v1 ⟨rfl, hb1⟩
                 replace BW := Lib.hid (Below.step BW.out hb1)
                 replace BX := Lib.hid (BX.out.below hb1 BX.out.lt)
                 replace BT := Lib.hid (BT.out.below hb1 BT.out.lt)
                 replace AX := Lib.hid (AX.out.below hb1)
                 replace AT := Lib.hid (AT.out.below hb1)
                 clear CU
                 clear hb1)
              | (go_at_call 9
                 refine (LX.out _ AX.out).mono ?_
                 rintro r v2 ⟨rfl, hb2⟩
                 replace BW := Lib.hid (Below.step BW.out hb2)
                 replace BX := Lib.hid (BX.out.below hb2 BX.out.lt)
                 replace BT := Lib.hid (BT.out.below hb2 BT.out.lt)
                 replace AX := Lib.hid (AX.out.below hb2)
                 replace AT := Lib.hid (AT.out.below hb2)
                 clear LX
                 clear hb2)
              | (go_at_call 10
                 refine (LT.out _ AT.out).mono ?_
                 rintro r v3 ⟨rfl, hb3⟩
                 replace BW := Lib.hid (Below.step BW.out hb3)
                 replace BX := Lib.hid (BX.out.below hb3 BX.out.lt)
                 replace BT := Lib.hid (BT.out.below hb3 BT.out.lt)
                 replace AX := Lib.hid (AX.out.below hb3)
                 replace AT := Lib.hid (AT.out.below hb3)
                 have y2 : v3.cell? ⟨g + 1, 2, none⟩ = some (.slice ot mt dt) := Blk.cell BT.out 2
                 clear LT
                 clear hb3)
              | (go_at_call 11
                 refine (CN.out _ AX.out BW.out).mono ?_
                 rintro r v4 ⟨p4, m4, c4, o4, k4, d4, rfl, hat4, hb4⟩
                 replace BW := Lib.hid (Below.step BW.out hb4)
                 replace BX := Lib.hid (BX.out.below hb4 BX.out.lt)
                 replace BT := Lib.hid (BT.out.below hb4 BT.out.lt)
                 replace AX := Lib.hid (AX.out.below hb4)
                 replace AT := Lib.hid (AT.out.below hb4)
                 have Am : Hid (NodeAt v4 (.agg (nodeC q1.1.tag (.slice p4 m4 c4) (.slice o4 k4 d4))) q1.1) := Lib.hid hat4
                 clear hb4 hat4 CN)
              | (with_reducible refine allocNode_at ?_)
              | ((with_reducible refine storeNode_new 8 39 v4 q1.1.tag p4 m4 c4 o4 k4 d4 ?_ ?_ ?_ ?_); (· rfl); (· rfl); (· rfl)
                 have hb4a := boxR_below v4 (.cells (nodeC q1.1.tag (.slice p4 m4 c4) (.slice o4 k4 d4)) 29)
                 replace BW := Lib.hid (Below.step BW.out hb4a)
                 replace BX := Lib.hid (BX.out.below hb4a BX.out.lt)
                 replace BT := Lib.hid (BT.out.below hb4a BT.out.lt)
                 replace AX := Lib.hid (AX.out.below hb4a)
                 replace AT := Lib.hid (AT.out.below hb4a)
                 replace Am := Lib.hid (Am.out.below hb4a)
                 have Bm := Lib.hid (nodebox v4 q1.1.tag (.slice p4 m4 c4) (.slice o4 k4 d4))
                 clear hb4a
                 generalize v4.alloc (.cells (nodeC q1.1.tag (.slice p4 m4 c4) (.slice o4 k4 d4)) 29) = v4b at *
                 generalize v4.heap.size = gm at *)
              | (refine load_node_any (by rfl) (.tmp 8) rfl gm rfl Bm.out ?_)
              | (go_at_call 14
                 refine (CM.out _ _ Am.out BW.out).mono ?_
                 rintro r v5 ⟨u5, rfl, hat5, hb5⟩
                 replace BW := Lib.hid (Below.step BW.out hb5)
                 replace BX := Lib.hid (BX.out.below hb5 BX.out.lt)
                 replace BT := Lib.hid (BT.out.below hb5 BT.out.lt)
                 replace Bm := Lib.hid (Bm.out.below hb5 Bm.out.lt)
                 replace AX := Lib.hid (AX.out.below hb5)
                 replace AT := Lib.hid (AT.out.below hb5)
                 replace Am := Lib.hid (Am.out.below hb5)
                 have Aq := Lib.hid hat5
                 obtain ⟨p5, m5, c5, o5, k5, d5, rfl, _, _⟩ := hat5
                 clear hb5 CM)
              | (with_reducible refine allocRes_at ?_)
              | ((with_reducible refine storeRes_new 10 44 v5 q2.1.inh p5 m5 c5 o5 k5 d5 ?_ ?_ ?_ ?_); (· rfl); (· rfl); (· rfl)
                 have hb5a := boxR_below v5 (.cells (resC q2.1.inh (.slice p5 m5 c5) (.slice o5 k5 d5)) 25)
                 replace BW := Lib.hid (Below.step BW.out hb5a)
                 replace BX := Lib.hid (BX.out.below hb5a BX.out.lt)
                 replace BT := Lib.hid (BT.out.below hb5a BT.out.lt)
                 replace Bm := Lib.hid (Bm.out.below hb5a Bm.out.lt)
                 replace AX := Lib.hid (AX.out.below hb5a)
                 replace AT := Lib.hid (AT.out.below hb5a)
                 replace Am := Lib.hid (Am.out.below hb5a)
                 replace Aq := Lib.hid (Aq.out.below hb5a)
                 have Bq := Lib.hid (resbox v5 q2.1.inh (.slice p5 m5 c5) (.slice o5 k5 d5))
                 clear hb5a
                 generalize v5.alloc (.cells (resC q2.1.inh (.slice p5 m5 c5) (.slice o5 k5 d5)) 25) = v5b at *
                 generalize v5.heap.size = gq at *)
              | (refine load_res_any (by rfl) (.tmp 10) rfl gq rfl Bq.out ?_)
              | (go_at_call 16
                 refine (CS.out _ _ Aq.out AX.out).mono ?_
                 rintro r v6 ⟨rfl, hb6⟩
                 replace BW := Lib.hid (Below.step BW.out hb6)
                 replace BX := Lib.hid (BX.out.below hb6 BX.out.lt)
                 replace BT := Lib.hid (BT.out.below hb6 BT.out.lt)
                 replace Bm := Lib.hid (Bm.out.below hb6 Bm.out.lt)
                 replace Bq := Lib.hid (Bq.out.below hb6 Bq.out.lt)
                 replace AX := Lib.hid (AX.out.below hb6)
                 replace AT := Lib.hid (AT.out.below hb6)
                 replace Am := Lib.hid (Am.out.below hb6)
                 replace Aq := Lib.hid (Aq.out.below hb6)
                 clear CS
                 clear hb6)
              | (go_at_call 17
                 refine (CR.out _ AX.out).mono ?_
                 rintro r v7 ⟨rfl, hb7⟩
                 replace BW := Lib.hid (Below.step BW.out hb7)
                 replace BX := Lib.hid (BX.out.below hb7 BX.out.lt)
                 replace BT := Lib.hid (BT.out.below hb7 BT.out.lt)
                 replace Bm := Lib.hid (Bm.out.below hb7 Bm.out.lt)
                 replace Bq := Lib.hid (Bq.out.below hb7 Bq.out.lt)
                 replace AX := Lib.hid (AX.out.below hb7)
                 replace AT := Lib.hid (AT.out.below hb7)
                 replace Am := Lib.hid (Am.out.below hb7)
                 replace Aq := Lib.hid (Aq.out.below hb7)
                 clear CR
                 clear hb7)
              | (go_at_call 14
                 refine (DM.out _ AT.out BW.out).mono ?_
                 rintro r v8 ⟨u8, rfl, hat8, hb8⟩
                 replace BW := Lib.hid (Below.step BW.out hb8)
                 replace BX := Lib.hid (BX.out.below hb8 BX.out.lt)
                 replace BT := Lib.hid (BT.out.below hb8 BT.out.lt)
                 replace Bm := Lib.hid (Bm.out.below hb8 Bm.out.lt)
                 replace Bq := Lib.hid (Bq.out.below hb8 Bq.out.lt)
                 replace AX := Lib.hid (AX.out.below hb8)
                 replace AT := Lib.hid (AT.out.below hb8)
                 replace Am := Lib.hid (Am.out.below hb8)
                 replace Aq := Lib.hid (Aq.out.below hb8)
                 have As := Lib.hid hat8
                 obtain ⟨p8, m8, c8, o8, k8, d8, rfl, _, _⟩ := hat8
                 clear hb8 DM)
              | (with_reducible refine allocRes_at ?_)
              | ((with_reducible refine storeRes_new 13 69 v8 q3.1.inh p8 m8 c8 o8 k8 d8 ?_ ?_ ?_ ?_); (· rfl); (· rfl); (· rfl)
                 have hb8a := boxR_below v8 (.cells (resC q3.1.inh (.slice p8 m8 c8) (.slice o8 k8 d8)) 25)
                 replace BW := Lib.hid (Below.step BW.out hb8a)
                 replace BX := Lib.hid (BX.out.below hb8a BX.out.lt)
                 replace BT := Lib.hid (BT.out.below hb8a BT.out.lt)
                 replace Bm := Lib.hid (Bm.out.below hb8a Bm.out.lt)
                 replace Bq := Lib.hid (Bq.out.below hb8a Bq.out.lt)
                 replace AX := Lib.hid (AX.out.below hb8a)
                 replace AT := Lib.hid (AT.out.below hb8a)
                 replace Am := Lib.hid (Am.out.below hb8a)
                 replace Aq := Lib.hid (Aq.out.below hb8a)
                 replace As := Lib.hid (As.out.below hb8a)
                 have Bs := Lib.hid (resbox v8 q3.1.inh (.slice p8 m8 c8) (.slice o8 k8 d8))
                 clear hb8a
                 generalize v8.alloc (.cells (resC q3.1.inh (.slice p8 m8 c8) (.slice o8 k8 d8)) 25) = v8b at *
                 generalize v8.heap.size = gs at *))
            go_ret
            exact ⟨rfl, BW.out⟩
        · have s1 : (q1.2 == 0) = false := by rw [n1]; rfl
          clear n1
          rcases hF2 with ⟨g0, h0, rfl, rfl⟩ | g2
          · have s3 : (q3.2 != 0) = false := by rw [g0]; rfl
            have s4 : (q4.2 == 0) = true := by rw [h0]; rfl
            clear g0 h0
            go_wp2_with (first
              | (refine load_res_any (by rfl) (.tmp 2) rfl g rfl BX.out ?_)
              | (refine load_node_any (by rfl) (.tmp 3) rfl (g + 1) rfl BT.out ?_)
              | (go_at_call 8
                 refine (CU.out _ BW.out).mono ?_
                 rintro r v1 ⟨rfl, hb1⟩
                 replace BW := Lib.hid (Below.step BW.out hb1)
                 replace BX := Lib.hid (BX.out.below hb1 BX.out.lt)
                 replace BT := Lib.hid (BT.out.below hb1 BT.out.lt)
                 replace AX := Lib.hid (AX.out.below hb1)
                 replace AT := Lib.hid (AT.out.below hb1)
                 clear CU
                 clear hb1)
              | (go_at_call 9
                 refine (LX.out _ AX.out).mono ?_
                 rintro r v2 ⟨rfl, hb2⟩
                 replace BW := Lib.hid (Below.step BW.out hb2)
                 replace BX := Lib.hid (BX.out.below hb2 BX.out.lt)
                 replace BT := Lib.hid (BT.out.below hb2 BT.out.lt)
                 replace AX := Lib.hid (AX.out.below hb2)
                 replace AT := Lib.hid (AT.out.below hb2)
                 clear LX
                 clear hb2)
              | (go_at_call 10
                 refine (LT.out _ AT.out).mono ?_
                 rintro r v3 ⟨rfl, hb3⟩
                 replace BW := Lib.hid (Below.step BW.out hb3)
                 replace BX := Lib.hid (BX.out.below hb3 BX.out.lt)
                 replace BT := Lib.hid (BT.out.below hb3 BT.out.lt)
                 replace AX := Lib.hid (AX.out.below hb3)
                 replace AT := Lib.hid (AT.out.below hb3)
                 have y2 : v3.cell? ⟨g + 1, 2, none⟩ = some (.slice ot mt dt) := Blk.cell BT.out 2
                 clear LT
                 clear hb3)
              | (go_at_call 11
                 refine (CN.out _ AX.out BW.out).mono ?_
                 rintro r v4 ⟨p4, m4, c4, o4, k4, d4, rfl, hat4, hb4⟩
                 replace BW := Lib.hid (Below.step BW.out hb4)
                 replace BX := Lib.hid (BX.out.below hb4 BX.out.lt)
                 replace BT := Lib.hid (BT.out.below hb4 BT.out.lt)
                 replace AX := Lib.hid (AX.out.below hb4)
                 replace AT := Lib.hid (AT.out.below hb4)
                 have Am : Hid (NodeAt v4 (.agg (nodeC q1.1.tag (.slice p4 m4 c4) (.slice o4 k4 d4))) q1.1) := Lib.hid hat4
                 clear hb4 hat4 CN)
              | (with_reducible refine allocNode_at ?_)
              | ((with_reducible refine storeNode_new 8 39 v4 q1.1.tag p4 m4 c4 o4 k4 d4 ?_ ?_ ?_ ?_); (· rfl); (· rfl); (· rfl)
                 have hb4a := boxR_below v4 (.cells (nodeC q1.1.tag (.slice p4 m4 c4) (.slice o4 k4 d4)) 29)
                 replace BW := Lib.hid (Below.step BW.out hb4a)
                 replace BX := Lib.hid (BX.out.below hb4a BX.out.lt)
                 replace BT := Lib.hid (BT.out.below hb4a BT.out.lt)
                 replace AX := Lib.hid (AX.out.below hb4a)
                 replace AT := Lib.hid (AT.out.below hb4a)
                 replace Am := Lib.hid (Am.out.below hb4a)
                 have Bm := Lib.hid (nodebox v4 q1.1.tag (.slice p4 m4 c4) (.slice o4 k4 d4))
                 clear hb4a
                 generalize v4.alloc (.cells (nodeC q1.1.tag (.slice p4 m4 c4) (.slice o4 k4 d4)) 29) = v4b at *
                 generalize v4.heap.size = gm at *)
              | (refine load_node_any (by rfl) (.tmp 8) rfl gm rfl Bm.out ?_)
              | (go_at_call 14
                 refine (CM.out _ _ Am.out BW.out).mono ?_
                 rintro r v5 ⟨u5, rfl, hat5, hb5⟩
                 replace BW := Lib.hid (Below.step BW.out hb5)
                 replace BX := Lib.hid (BX.out.below hb5 BX.out.lt)
                 replace BT := Lib.hid (BT.out.below hb5 BT.out.lt)
                 replace Bm := Lib.hid (Bm.out.below hb5 Bm.out.lt)
                 replace AX := Lib.hid (AX.out.below hb5)
                 replace AT := Lib.hid (AT.out.below hb5)
                 replace Am := Lib.hid (Am.out.below hb5)
                 have Aq := Lib.hid hat5
                 obtain ⟨p5, m5, c5, o5, k5, d5, rfl, _, _⟩ := hat5
                 clear hb5 CM)
              | (with_reducible refine allocRes_at ?_)
              | ((with_reducible refine storeRes_new 10 44 v5 q2.1.inh p5 m5 c5 o5 k5 d5 ?_ ?_ ?_ ?_); (· rfl); (· rfl); (· rfl)
                 have hb5a := boxR_below v5 (.cells (resC q2.1.inh (.slice p5 m5 c5) (.slice o5 k5 d5)) 25)
                 replace BW := Lib.hid (Below.step BW.out hb5a)
                 replace BX := Lib.hid (BX.out.below hb5a BX.out.lt)
                 replace BT := Lib.hid (BT.out.below hb5a BT.out.lt)
                 replace Bm := Lib.hid (Bm.out.below hb5a Bm.out.lt)
                 replace AX := Lib.hid (AX.out.below hb5a)
                 replace AT := Lib.hid (AT.out.below hb5a)
                 replace Am := Lib.hid (Am.out.below hb5a)
                 replace Aq := Lib.hid (Aq.out.below hb5a)
                 have Bq := Lib.hid (resbox v5 q2.1.inh (.slice p5 m5 c5) (.slice o5 k5 d5))
                 clear hb5a
                 generalize v5.alloc (.cells (resC q2.1.inh (.slice p5 m5 c5) (.slice o5 k5 d5)) 25) = v5b at *
                 generalize v5.heap.size = gq at *)
              | (refine load_res_any (by rfl) (.tmp 10) rfl gq rfl Bq.out ?_)
              | (go_at_call 16
                 refine (CS.out _ _ Aq.out AX.out).mono ?_
                 rintro r v6 ⟨rfl, hb6⟩
                 replace BW := Lib.hid (Below.step BW.out hb6)
                 replace BX := Lib.hid (BX.out.below hb6 BX.out.lt)
                 replace BT := Lib.hid (BT.out.below hb6 BT.out.lt)
                 replace Bm := Lib.hid (Bm.out.below hb6 Bm.out.lt)
                 replace Bq := Lib.hid (Bq.out.below hb6 Bq.out.lt)
                 replace AX := Lib.hid (AX.out.below hb6)
                 replace AT := Lib.hid (AT.out.below hb6)
                 replace Am := Lib.hid (Am.out.below hb6)
                 replace Aq := Lib.hid (Aq.out.below hb6)
                 clear CS
                 clear hb6)
              | (go_at_call 17
                 refine (CR.out _ AX.out).mono ?_
                 rintro r v7 ⟨rfl, hb7⟩
                 replace BW := Lib.hid (Below.step BW.out hb7)
                 replace BX := Lib.hid (BX.out.below hb7 BX.out.lt)
                 replace BT := Lib.hid (BT.out.below hb7 BT.out.lt)
                 replace Bm := Lib.hid (Bm.out.below hb7 Bm.out.lt)
                 replace Bq := Lib.hid (Bq.out.below hb7 Bq.out.lt)
                 replace AX := Lib.hid (AX.out.below hb7)
                 replace AT := Lib.hid (AT.out.below hb7)
                 replace Am := Lib.hid (Am.out.below hb7)
                 replace Aq := Lib.hid (Aq.out.below hb7)
                 clear CR
                 clear hb7)
              | (go_at_call 14
                 refine (DM.out _ AT.out BW.out).mono ?_
                 rintro r v8 ⟨u8, rfl, hat8, hb8⟩
                 replace BW := Lib.hid (Below.step BW.out hb8)
                 replace BX := Lib.hid (BX.out.below hb8 BX.out.lt)
                 replace BT := Lib.hid (BT.out.below hb8 BT.out.lt)
                 replace Bm := Lib.hid (Bm.out.below hb8 Bm.out.lt)
                 replace Bq := Lib.hid (Bq.out.below hb8 Bq.out.lt)
                 replace AX := Lib.hid (AX.out.below hb8)
                 replace AT := Lib.hid (AT.out.below hb8)
                 replace Am := Lib.hid (Am.out.below hb8)
                 replace Aq := Lib.hid (Aq.out.below hb8)
                 have As := Lib.hid hat8
                 obtain ⟨p8, m8, c8, o8, k8, d8, rfl, _, _⟩ := hat8
                 clear hb8 DM)
              | (with_reducible refine allocRes_at ?_)
              | ((with_reducible refine storeRes_new 13 69 v8 q3.1.inh p8 m8 c8 o8 k8 d8 ?_ ?_ ?_ ?_); (· rfl); (· rfl); (· rfl)
                 have hb8a := boxR_below v8 (.cells (resC q3.1.inh (.slice p8 m8 c8) (.slice o8 k8 d8)) 25)
                 replace BW := Lib.hid (Below.step BW.out hb8a)
                 replace BX := Lib.hid (BX.out.below hb8a BX.out.lt)
                 replace BT := Lib.hid (BT.out.below hb8a BT.out.lt)
                 replace Bm := Lib.hid (Bm.out.below hb8a Bm.out.lt)
                 replace Bq := Lib.hid (Bq.out.below hb8a Bq.out.lt)
                 replace AX := Lib.hid (AX.out.below hb8a)
                 replace AT := Lib.hid (AT.out.below hb8a)
                 replace Am := Lib.hid (Am.out.below hb8a)
                 replace Aq := Lib.hid (Aq.out.below hb8a)
                 replace As := Lib.hid (As.out.below hb8a)
                 have Bs := Lib.hid (resbox v8 q3.1.inh (.slice p8 m8 c8) (.slice o8 k8 d8))
                 clear hb8a
                 generalize v8.alloc (.cells (resC q3.1.inh (.slice p8 m8 c8) (.slice o8 k8 d8)) 25) = v8b at *
                 generalize v8.heap.size = gs at *)
              | (refine load_res_any (by rfl) (.tmp 13) rfl gs rfl Bs.out ?_)
              | (go_at_call 11
                 refine (DN.out _ _ As.out BW.out).mono ?_
                 rintro r v9 ⟨p9, m9, c9, o9, k9, d9, rfl, hat9, hb9⟩
                 replace BW := Lib.hid (Below.step BW.out hb9)
                 replace BX := Lib.hid (BX.out.below hb9 BX.out.lt)
                 replace BT := Lib.hid (BT.out.below hb9 BT.out.lt)
                 replace Bm := Lib.hid (Bm.out.below hb9 Bm.out.lt)
                 replace Bq := Lib.hid (Bq.out.below hb9 Bq.out.lt)
                 replace Bs := Lib.hid (Bs.out.below hb9 Bs.out.lt)
                 replace AX := Lib.hid (AX.out.below hb9)
                 replace AT := Lib.hid (AT.out.below hb9)
                 replace Am := Lib.hid (Am.out.below hb9)
                 replace Aq := Lib.hid (Aq.out.below hb9)
                 replace As := Lib.hid (As.out.below hb9)
                 have Ay : Hid (NodeAt v9 (.agg (nodeC q4.1.tag (.slice p9 m9 c9) (.slice o9 k9 d9))) q4.1) := Lib.hid hat9
                 clear hb9 hat9 DN)
              | (with_reducible refine allocNode_at ?_)
              | ((with_reducible refine storeNode_new 15 81 v9 q4.1.tag p9 m9 c9 o9 k9 d9 ?_ ?_ ?_ ?_); (· rfl); (· rfl); (· rfl)
                 have hb9a := boxR_below v9 (.cells (nodeC q4.1.tag (.slice p9 m9 c9) (.slice o9 k9 d9)) 29)
                 replace BW := Lib.hid (Below.step BW.out hb9a)
                 replace BX := Lib.hid (BX.out.below hb9a BX.out.lt)
                 replace BT := Lib.hid (BT.out.below hb9a BT.out.lt)
                 replace Bm := Lib.hid (Bm.out.below hb9a Bm.out.lt)
                 replace Bq := Lib.hid (Bq.out.below hb9a Bq.out.lt)
                 replace Bs := Lib.hid (Bs.out.below hb9a Bs.out.lt)
                 replace AX := Lib.hid (AX.out.below hb9a)
                 replace AT := Lib.hid (AT.out.below hb9a)
                 replace Am := Lib.hid (Am.out.below hb9a)
                 replace Aq := Lib.hid (Aq.out.below hb9a)
                 replace As := Lib.hid (As.out.below hb9a)
                 replace Ay := Lib.hid (Ay.out.below hb9a)
                 have By := Lib.hid (nodebox v9 q4.1.tag (.slice p9 m9 c9) (.slice o9 k9 d9))
                 clear hb9a
                 generalize v9.alloc (.cells (nodeC q4.1.tag (.slice p9 m9 c9) (.slice o9 k9 d9)) 29) = v9b at *
                 generalize v9.heap.size = gy at *)
              | (refine load_node_any (by rfl) (.tmp 15) rfl gy rfl By.out ?_)
              | (go_at_call 13
                 refine (DS.out _ _ Ay.out AT.out).mono ?_
                 rintro r v10 ⟨rfl, hb10⟩
                 replace BW := Lib.hid (Below.step BW.out hb10)
                 replace BX := Lib.hid (BX.out.below hb10 BX.out.lt)
                 replace BT := Lib.hid (BT.out.below hb10 BT.out.lt)
                 replace Bm := Lib.hid (Bm.out.below hb10 Bm.out.lt)
                 replace Bq := Lib.hid (Bq.out.below hb10 Bq.out.lt)
                 replace Bs := Lib.hid (Bs.out.below hb10 Bs.out.lt)
                 replace By := Lib.hid (By.out.below hb10 By.out.lt)
                 replace AX := Lib.hid (AX.out.below hb10)
                 replace AT := Lib.hid (AT.out.below hb10)
                 replace Am := Lib.hid (Am.out.below hb10)
                 replace Aq := Lib.hid (Aq.out.below hb10)
                 replace As := Lib.hid (As.out.below hb10)
                 replace Ay := Lib.hid (Ay.out.below hb10)
                 clear DS
                 clear hb10)
              | (go_at_call 17
                 refine (DR.out _ _ As.out).mono ?_
                 rintro r v11 ⟨rfl, hb11⟩
                 replace BW := Lib.hid (Below.step BW.out hb11)
                 replace BX := Lib.hid (BX.out.below hb11 BX.out.lt)
                 replace BT := Lib.hid (BT.out.below hb11 BT.out.lt)
                 replace Bm := Lib.hid (Bm.out.below hb11 Bm.out.lt)
                 replace Bq := Lib.hid (Bq.out.below hb11 Bq.out.lt)
                 replace Bs := Lib.hid (Bs.out.below hb11 Bs.out.lt)
                 replace By := Lib.hid (By.out.below hb11 By.out.lt)
                 replace AX := Lib.hid (AX.out.below hb11)
                 replace AT := Lib.hid (AT.out.below hb11)
                 replace Am := Lib.hid (Am.out.below hb11)
                 replace Aq := Lib.hid (Aq.out.below hb11)
                 replace As := Lib.hid (As.out.below hb11)
                 replace Ay := Lib.hid (Ay.out.below hb11)
                 clear DR
                 clear hb11))
            go_ret
            exact ⟨rfl, BW.out⟩
          · have s3 : (q3.2 != 0) = true := by rw [g2]; rfl
            have s4 : (q3.2 == 2) = true := by rw [g2]; rfl
            clear g2
            go_wp2_with (first
              | (refine load_res_any (by rfl) (.tmp 2) rfl g rfl BX.out ?_)
              | (refine load_node_any (by rfl) (.tmp 3) rfl (g + 1) rfl BT.out ?_)
              | (go_at_call 8
                 refine (CU.out _ BW.out).mono ?_
                 rintro r v1 ⟨rfl, hb1⟩
                 replace BW := Lib.hid (Below.step BW.out hb1)
                 replace BX := Lib.hid (BX.out.below hb1 BX.out.lt)
                 replace BT := Lib.hid (BT.out.below hb1 BT.out.lt)
                 replace AX := Lib.hid (AX.out.below hb1)
                 replace AT := Lib.hid (AT.out.below hb1)
                 clear CU
                 clear hb1)
              | (go_at_call 9
                 refine (LX.out _ AX.out).mono ?_
                 rintro r v2 ⟨rfl, hb2⟩
                 replace BW := Lib.hid (Below.step BW.out hb2)
                 replace BX := Lib.hid (BX.out.below hb2 BX.out.lt)
                 replace BT := Lib.hid (BT.out.below hb2 BT.out.lt)
                 replace AX := Lib.hid (AX.out.below hb2)
                 replace AT := Lib.hid (AT.out.below hb2)
                 clear LX
                 clear hb2)
              | (go_at_call 10
                 refine (LT.out _ AT.out).mono ?_
                 rintro r v3 ⟨rfl, hb3⟩
                 replace BW := Lib.hid (Below.step BW.out hb3)
                 replace BX := Lib.hid (BX.out.below hb3 BX.out.lt)
                 replace BT := Lib.hid (BT.out.below hb3 BT.out.lt)
                 replace AX := Lib.hid (AX.out.below hb3)
                 replace AT := Lib.hid (AT.out.below hb3)
                 have y2 : v3.cell? ⟨g + 1, 2, none⟩ = some (.slice ot mt dt) := Blk.cell BT.out 2
                 clear LT
                 clear hb3)
              | (go_at_call 11
                 refine (CN.out _ AX.out BW.out).mono ?_
                 rintro r v4 ⟨p4, m4, c4, o4, k4, d4, rfl, hat4, hb4⟩
                 replace BW := Lib.hid (Below.step BW.out hb4)
                 replace BX := Lib.hid (BX.out.below hb4 BX.out.lt)
                 replace BT := Lib.hid (BT.out.below hb4 BT.out.lt)
                 replace AX := Lib.hid (AX.out.below hb4)
                 replace AT := Lib.hid (AT.out.below hb4)
                 have Am : Hid (NodeAt v4 (.agg (nodeC q1.1.tag (.slice p4 m4 c4) (.slice o4 k4 d4))) q1.1) := Lib.hid hat4
                 clear hb4 hat4 CN)
              | (with_reducible refine allocNode_at ?_)
              | ((with_reducible refine storeNode_new 8 39 v4 q1.1.tag p4 m4 c4 o4 k4 d4 ?_ ?_ ?_ ?_); (· rfl); (· rfl); (· rfl)
                 have hb4a := boxR_below v4 (.cells (nodeC q1.1.tag (.slice p4 m4 c4) (.slice o4 k4 d4)) 29)
                 replace BW := Lib.hid (Below.step BW.out hb4a)
                 replace BX := Lib.hid (BX.out.below hb4a BX.out.lt)
                 replace BT := Lib.hid (BT.out.below hb4a BT.out.lt)
                 replace AX := Lib.hid (AX.out.below hb4a)
                 replace AT := Lib.hid (AT.out.below hb4a)
                 replace Am := Lib.hid (Am.out.below hb4a)
                 have Bm := Lib.hid (nodebox v4 q1.1.tag (.slice p4 m4 c4) (.slice o4 k4 d4))
                 clear hb4a
                 generalize v4.alloc (.cells (nodeC q1.1.tag (.slice p4 m4 c4) (.slice o4 k4 d4)) 29) = v4b at *
                 generalize v4.heap.size = gm at *)
              | (refine load_node_any (by rfl) (.tmp 8) rfl gm rfl Bm.out ?_)
              | (go_at_call 14
                 refine (CM.out _ _ Am.out BW.out).mono ?_
                 rintro r v5 ⟨u5, rfl, hat5, hb5⟩
                 replace BW := Lib.hid (Below.step BW.out hb5)
                 replace BX := Lib.hid (BX.out.below hb5 BX.out.lt)
                 replace BT := Lib.hid (BT.out.below hb5 BT.out.lt)
                 replace Bm := Lib.hid (Bm.out.below hb5 Bm.out.lt)
                 replace AX := Lib.hid (AX.out.below hb5)
                 replace AT := Lib.hid (AT.out.below hb5)
                 replace Am := Lib.hid (Am.out.below hb5)
                 have Aq := Lib.hid hat5
                 obtain ⟨p5, m5, c5, o5, k5, d5, rfl, _, _⟩ := hat5
                 clear hb5 CM)
              | (with_reducible refine allocRes_at ?_)
              | ((with_reducible refine storeRes_new 10 44 v5 q2.1.inh p5 m5 c5 o5 k5 d5 ?_ ?_ ?_ ?_); (· rfl); (· rfl); (· rfl)
                 have hb5a := boxR_below v5 (.cells (resC q2.1.inh (.slice p5 m5 c5) (.slice o5 k5 d5)) 25)
                 replace BW := Lib.hid (Below.step BW.out hb5a)
                 replace BX := Lib.hid (BX.out.below hb5a BX.out.lt)
                 replace BT := Lib.hid (BT.out.below hb5a BT.out.lt)
                 replace Bm := Lib.hid (Bm.out.below hb5a Bm.out.lt)
                 replace AX := Lib.hid (AX.out.below hb5a)
                 replace AT := Lib.hid (AT.out.below hb5a)
                 replace Am := Lib.hid (Am.out.below hb5a)
                 replace Aq := Lib.hid (Aq.out.below hb5a)
                 have Bq := Lib.hid (resbox v5 q2.1.inh (.slice p5 m5 c5) (.slice o5 k5 d5))
                 clear hb5a
                 generalize v5.alloc (.cells (resC q2.1.inh (.slice p5 m5 c5) (.slice o5 k5 d5)) 25) = v5b at *
                 generalize v5.heap.size = gq at *)
              | (refine load_res_any (by rfl) (.tmp 10) rfl gq rfl Bq.out ?_)
              | (go_at_call 16
                 refine (CS.out _ _ Aq.out AX.out).mono ?_
                 rintro r v6 ⟨rfl, hb6⟩
                 replace BW := Lib.hid (Below.step BW.out hb6)
                 replace BX := Lib.hid (BX.out.below hb6 BX.out.lt)
                 replace BT := Lib.hid (BT.out.below hb6 BT.out.lt)
                 replace Bm := Lib.hid (Bm.out.below hb6 Bm.out.lt)
                 replace Bq := Lib.hid (Bq.out.below hb6 Bq.out.lt)
                 replace AX := Lib.hid (AX.out.below hb6)
                 replace AT := Lib.hid (AT.out.below hb6)
                 replace Am := Lib.hid (Am.out.below hb6)
                 replace Aq := Lib.hid (Aq.out.below hb6)
                 clear CS
                 clear hb6)
              | (go_at_call 17
                 refine (CR.out _ AX.out).mono ?_
                 rintro r v7 ⟨rfl, hb7⟩
                 replace BW := Lib.hid (Below.step BW.out hb7)
                 replace BX := Lib.hid (BX.out.below hb7 BX.out.lt)
                 replace BT := Lib.hid (BT.out.below hb7 BT.out.lt)
                 replace Bm := Lib.hid (Bm.out.below hb7 Bm.out.lt)
                 replace Bq := Lib.hid (Bq.out.below hb7 Bq.out.lt)
                 replace AX := Lib.hid (AX.out.below hb7)
                 replace AT := Lib.hid (AT.out.below hb7)
                 replace Am := Lib.hid (Am.out.below hb7)
                 replace Aq := Lib.hid (Aq.out.below hb7)
                 clear CR
                 clear hb7)
              | (go_at_call 14
                 refine (DM.out _ AT.out BW.out).mono ?_
                 rintro r v8 ⟨u8, rfl, hat8, hb8⟩
                 replace BW := Lib.hid (Below.step BW.out hb8)
                 replace BX := Lib.hid (BX.out.below hb8 BX.out.lt)
                 replace BT := Lib.hid (BT.out.below hb8 BT.out.lt)
                 replace Bm := Lib.hid (Bm.out.below hb8 Bm.out.lt)
                 replace Bq := Lib.hid (Bq.out.below hb8 Bq.out.lt)
                 replace AX := Lib.hid (AX.out.below hb8)
                 replace AT := Lib.hid (AT.out.below hb8)
                 replace Am := Lib.hid (Am.out.below hb8)
                 replace Aq := Lib.hid (Aq.out.below hb8)
                 have As := Lib.hid hat8
                 obtain ⟨p8, m8, c8, o8, k8, d8, rfl, _, _⟩ := hat8
                 clear hb8 DM)
              | (with_reducible refine allocRes_at ?_)
              | ((with_reducible refine storeRes_new 13 69 v8 q3.1.inh p8 m8 c8 o8 k8 d8 ?_ ?_ ?_ ?_); (· rfl); (· rfl); (· rfl)
                 have hb8a := boxR_below v8 (.cells (resC q3.1.inh (.slice p8 m8 c8) (.slice o8 k8 d8)) 25)
                 replace BW := Lib.hid (Below.step BW.out hb8a)
                 replace BX := Lib.hid (BX.out.below hb8a BX.out.lt)
                 replace BT := Lib.hid (BT.out.below hb8a BT.out.lt)
                 replace Bm := Lib.hid (Bm.out.below hb8a Bm.out.lt)
                 replace Bq := Lib.hid (Bq.out.below hb8a Bq.out.lt)
                 replace AX := Lib.hid (AX.out.below hb8a)
                 replace AT := Lib.hid (AT.out.below hb8a)
                 replace Am := Lib.hid (Am.out.below hb8a)
                 replace Aq := Lib.hid (Aq.out.below hb8a)
                 replace As := Lib.hid (As.out.below hb8a)
                 have Bs := Lib.hid (resbox v8 q3.1.inh (.slice p8 m8 c8) (.slice o8 k8 d8))
                 clear hb8a
                 generalize v8.alloc (.cells (resC q3.1.inh (.slice p8 m8 c8) (.slice o8 k8 d8)) 25) = v8b at *
                 generalize v8.heap.size = gs at *))
            go_ret
            exact ⟨rfl, BW.out⟩
end Go.Proofs.YtlmndmfebgaidaaGreatDoor
