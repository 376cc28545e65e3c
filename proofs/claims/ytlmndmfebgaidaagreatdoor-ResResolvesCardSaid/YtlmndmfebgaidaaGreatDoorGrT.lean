/-
  Merged texts: ReX.
-/
import Derived.Test.YtlmndmfebgaidaaGreatDoorGrM
namespace Go.Proofs.YtlmndmfebgaidaaGreatDoor
open Go.RowKit
set_option linter.unusedVariables false
set_option maxRecDepth 100000
set_option maxHeartbeats 4000000 in
theorem resolves13_any (hUp : PkUp13) (hRes : PkResolve13) (hHas : PkHas13) (x y : ResZ) (p : PfZ) (u v : Value) (w : World) (hf : Fam w) (hx : ResAt w u x) (hy : ResAt w v y) (hp : Sixteen p.a) (l0 : -9223372036854775808 ≤ p.l) (l1 : p.l ≤ 9223372036854775807) :
    Calls Tryz.prog 4 #[u, v, .agg (pcells p.v p.a p.l)] w fun e w' => e = .returned (.bool true) ∧ Below w.heap.size w w' := by
  have hx0 := hx
  have hy0 := hy
  obtain ⟨ax, nx, cx, ox, mx, dx, rfl, sx, rx⟩ := hx
  obtain ⟨ay, ny, cy, oy, my, dy, rfl, sy, ry⟩ := hy
  have K0 := (Blk.alloc (Blk.alloc (Blk.new w 25 (resC x.inh (.slice ax nx cx) (.slice ox mx dx))) (.cells (resC y.inh (.slice ay ny cy) (.slice oy my dy)) 25)) (.cells (pcells p.v p.a p.l) 43))
  have K1 := (Blk.alloc (Blk.new (w.alloc (.cells (resC x.inh (.slice ax nx cx) (.slice ox mx dx)) 25)) 25 (resC y.inh (.slice ay ny cy) (.slice oy my dy))) (.cells (pcells p.v p.a p.l) 43))
  rw [show (w.alloc (.cells (resC x.inh (.slice ax nx cx) (.slice ox mx dx)) 25)).heap.size = w.heap.size + 1 by simp] at K1
  have K2 := (Blk.new ((w.alloc (.cells (resC x.inh (.slice ax nx cx) (.slice ox mx dx)) 25)).alloc (.cells (resC y.inh (.slice ay ny cy) (.slice oy my dy)) 25)) 43 (pcells p.v p.a p.l))
  rw [show ((w.alloc (.cells (resC x.inh (.slice ax nx cx) (.slice ox mx dx)) 25)).alloc (.cells (resC y.inh (.slice ay ny cy) (.slice oy my dy)) 25)).heap.size = w.heap.size + 1 + 1 by simp] at K2
  have bw := (Below.step (Below.step (boxR_below w (.cells (resC x.inh (.slice ax nx cx) (.slice ox mx dx)) 25)) (boxR_below (w.alloc (.cells (resC x.inh (.slice ax nx cx) (.slice ox mx dx)) 25)) (.cells (resC y.inh (.slice ay ny cy) (.slice oy my dy)) 25))) (boxR_below ((w.alloc (.cells (resC x.inh (.slice ax nx cx) (.slice ox mx dx)) 25)).alloc (.cells (resC y.inh (.slice ay ny cy) (.slice oy my dy)) 25)) (.cells (pcells p.v p.a p.l) 43)))
  have BW := Lib.hid bw
  have AX := Lib.hid (hx0.below bw)
  have AY := Lib.hid (hy0.below bw)
  have CU := Lib.hid (fun W (hb : Below w.heap.size w W) => hUp W (hf.below hb))
  have LX := Lib.hid (fun W h => rlight13_any x (.agg (resC x.inh (.slice ax nx cx) (.slice ox mx dx))) W h)
  have LY := Lib.hid (fun W h => rlight13_any y (.agg (resC y.inh (.slice ay ny cy) (.slice oy my dy))) W h)
  have PR := Lib.hid (fun (hl : lightR x = true) (hm : lightR y = true) W h k => hRes x y (.agg (resC x.inh (.slice ax nx cx) (.slice ox mx dx))) (.agg (resC y.inh (.slice ay ny cy) (.slice oy my dy))) W h k (by have := light_len hl; omega) (by have := light_len hm; omega))
  have RR := Lib.hid (fun (hl : lightR x = true) (hm : lightR y = true) W h k => rresolve13_any x y (.agg (resC x.inh (.slice ax nx cx) (.slice ox mx dx))) (.agg (resC y.inh (.slice ay ny cy) (.slice oy my dy))) W h k (by have := light_len hl; omega) (by have := light_len hm; omega))
  have SM := Lib.hid (fun (hl : lightR x = true) (hm : lightR y = true) W u v h k => rsame13_any (resolveR x y).1 (resolveR x y).1 u v W h k (by have := resolve_len (light_len hl) (light_len hm); omega) (by have := resolve_len (light_len hl) (light_len hm); omega) (by have := resolve_len (light_len hl) (light_len hm); omega))
  have HP := Lib.hid (fun (hl : lightR x = true) W h => hHas x p (.agg (resC x.inh (.slice ax nx cx) (.slice ox mx dx))) W h hp l0 l1 (by have := light_len hl; omega))
  have HR := Lib.hid (fun (hl : lightR x = true) W h => rhas13_any x p (.agg (resC x.inh (.slice ax nx cx) (.slice ox mx dx))) W h hp l0 l1 (by have := light_len hl; omega))
  have SP := Lib.hid (Tryz.sizeP (v := p.v) (L := p.l) hp.1)
  generalize hw2 : (((w.alloc (.cells (resC x.inh (.slice ax nx cx) (.slice ox mx dx)) 25)).alloc (.cells (resC y.inh (.slice ay ny cy) (.slice oy my dy)) 25)).alloc (.cells (pcells p.v p.a p.l) 43)) = w2 at *
  obtain ⟨g, hg⟩ : ∃ g, w.heap.size = g := ⟨_, rfl⟩
  rw [hg] at K0 K1 K2
  rw [eqRes_self] at SM
  clear hx0 hy0 sx rx sy ry bw hp l0 l1 hUp hRes hHas hf
  generalize resolveR x y = q at *
  generalize lightR x = lx at *
  generalize lightR y = ly at *
  generalize hasR x p = hq at *
  generalize pcells p.v p.a p.l = PC at *
  have BX := Lib.hid K0
  have BY := Lib.hid K1
  have BP := Lib.hid K2
  clear K0 K1 K2
  go_enter Tryz.func4, Tryz.ntmps4
  go_upto_region 1 with fail
  clear hw2
  cases lx with
  | false =>
    go_wp2_with (first
      | (refine load_res_any (by rfl) (.tmp 3) rfl g rfl BX.out ?_)
      | (refine load_res_any (by rfl) (.tmp 4) rfl (g + 1) rfl BY.out ?_)
      | (refine wpList_load_rowG (by rfl) 43 (.tmp 5) rfl (g + 1 + 1) rfl 43 PC (0, 0) _ BP.out Tryz.underlying43 rfl SP.out ?_)
      | (go_at_call 8
         refine (CU.out _ BW.out).mono ?_
         rintro r v1 ⟨rfl, hb1⟩
         replace BW := Lib.hid (Below.step BW.out hb1)
         replace BX := Lib.hid (BX.out.below hb1 BX.out.lt)
         replace BY := Lib.hid (BY.out.below hb1 BY.out.lt)
         replace BP := Lib.hid (BP.out.below hb1 BP.out.lt)
         replace AX := Lib.hid (AX.out.below hb1)
         replace AY := Lib.hid (AY.out.below hb1)
         clear CU
         clear hb1)
      | (go_at_call 9
         refine (LX.out _ AX.out).mono ?_
         rintro r v2 ⟨rfl, hb2⟩
         replace BW := Lib.hid (Below.step BW.out hb2)
         replace BX := Lib.hid (BX.out.below hb2 BX.out.lt)
         replace BY := Lib.hid (BY.out.below hb2 BY.out.lt)
         replace BP := Lib.hid (BP.out.below hb2 BP.out.lt)
         replace AX := Lib.hid (AX.out.below hb2)
         replace AY := Lib.hid (AY.out.below hb2)
         clear LX
         clear hb2)
      | (go_at_call 9
         refine (LY.out _ AY.out).mono ?_
         rintro r v3 ⟨rfl, hb3⟩
         replace BW := Lib.hid (Below.step BW.out hb3)
         replace BX := Lib.hid (BX.out.below hb3 BX.out.lt)
         replace BY := Lib.hid (BY.out.below hb3 BY.out.lt)
         replace BP := Lib.hid (BP.out.below hb3 BP.out.lt)
         replace AX := Lib.hid (AX.out.below hb3)
         replace AY := Lib.hid (AY.out.below hb3)
         clear LY
         clear hb3))
    go_ret
    exact ⟨rfl, BW.out⟩
  | true =>
    cases ly with
    | false =>
      go_wp2_with (first
        | (refine load_res_any (by rfl) (.tmp 3) rfl g rfl BX.out ?_)
        | (refine load_res_any (by rfl) (.tmp 4) rfl (g + 1) rfl BY.out ?_)
        | (refine wpList_load_rowG (by rfl) 43 (.tmp 5) rfl (g + 1 + 1) rfl 43 PC (0, 0) _ BP.out Tryz.underlying43 rfl SP.out ?_)
        | (go_at_call 8
           refine (CU.out _ BW.out).mono ?_
           rintro r v1 ⟨rfl, hb1⟩
           replace BW := Lib.hid (Below.step BW.out hb1)
           replace BX := Lib.hid (BX.out.below hb1 BX.out.lt)
           replace BY := Lib.hid (BY.out.below hb1 BY.out.lt)
           replace BP := Lib.hid (BP.out.below hb1 BP.out.lt)
           replace AX := Lib.hid (AX.out.below hb1)
           replace AY := Lib.hid (AY.out.below hb1)
           clear CU
           clear hb1)
        | (go_at_call 9
           refine (LX.out _ AX.out).mono ?_
           rintro r v2 ⟨rfl, hb2⟩
           replace BW := Lib.hid (Below.step BW.out hb2)
           replace BX := Lib.hid (BX.out.below hb2 BX.out.lt)
           replace BY := Lib.hid (BY.out.below hb2 BY.out.lt)
           replace BP := Lib.hid (BP.out.below hb2 BP.out.lt)
           replace AX := Lib.hid (AX.out.below hb2)
           replace AY := Lib.hid (AY.out.below hb2)
           clear LX
           clear hb2)
        | (go_at_call 9
           refine (LY.out _ AY.out).mono ?_
           rintro r v3 ⟨rfl, hb3⟩
           replace BW := Lib.hid (Below.step BW.out hb3)
           replace BX := Lib.hid (BX.out.below hb3 BX.out.lt)
           replace BY := Lib.hid (BY.out.below hb3 BY.out.lt)
           replace BP := Lib.hid (BP.out.below hb3 BP.out.lt)
           replace AX := Lib.hid (AX.out.below hb3)
           replace AY := Lib.hid (AY.out.below hb3)
           clear LY
           clear hb3))
      go_ret
      exact ⟨rfl, BW.out⟩
    | true =>
      replace PR := Lib.hid (PR.out rfl rfl)
      replace RR := Lib.hid (RR.out rfl rfl)
      replace SM := Lib.hid (SM.out rfl rfl)
      replace HP := Lib.hid (HP.out rfl)
      replace HR := Lib.hid (HR.out rfl)
      go_upto_region 9 with (first
        | (refine load_res_any (by rfl) (.tmp 3) rfl g rfl BX.out ?_)
        | (refine load_res_any (by rfl) (.tmp 4) rfl (g + 1) rfl BY.out ?_)
        | (refine wpList_load_rowG (by rfl) 43 (.tmp 5) rfl (g + 1 + 1) rfl 43 PC (0, 0) _ BP.out Tryz.underlying43 rfl SP.out ?_)
        | (go_at_call 8
           refine (CU.out _ BW.out).mono ?_
           rintro r v1 ⟨rfl, hb1⟩
           replace BW := Lib.hid (Below.step BW.out hb1)
           replace BX := Lib.hid (BX.out.below hb1 BX.out.lt)
           replace BY := Lib.hid (BY.out.below hb1 BY.out.lt)
           replace BP := Lib.hid (BP.out.below hb1 BP.out.lt)
           replace AX := Lib.hid (AX.out.below hb1)
           replace AY := Lib.hid (AY.out.below hb1)
           clear CU
           clear hb1)
        | (go_at_call 9
           refine (LX.out _ AX.out).mono ?_
           rintro r v2 ⟨rfl, hb2⟩
           replace BW := Lib.hid (Below.step BW.out hb2)
           replace BX := Lib.hid (BX.out.below hb2 BX.out.lt)
           replace BY := Lib.hid (BY.out.below hb2 BY.out.lt)
           replace BP := Lib.hid (BP.out.below hb2 BP.out.lt)
           replace AX := Lib.hid (AX.out.below hb2)
           replace AY := Lib.hid (AY.out.below hb2)
           clear LX
           clear hb2)
        | (go_at_call 9
           refine (LY.out _ AY.out).mono ?_
           rintro r v3 ⟨rfl, hb3⟩
           replace BW := Lib.hid (Below.step BW.out hb3)
           replace BX := Lib.hid (BX.out.below hb3 BX.out.lt)
           replace BY := Lib.hid (BY.out.below hb3 BY.out.lt)
           replace BP := Lib.hid (BP.out.below hb3 BP.out.lt)
           replace AX := Lib.hid (AX.out.below hb3)
           replace AY := Lib.hid (AY.out.below hb3)
           clear LY
           clear hb3)
        | (go_at_call 19
           refine (PR.out _ AX.out AY.out).mono ?_
           rintro r v4 ⟨u4, rfl, hat4, hb4⟩
           replace BW := Lib.hid (Below.step BW.out hb4)
           replace BX := Lib.hid (BX.out.below hb4 BX.out.lt)
           replace BY := Lib.hid (BY.out.below hb4 BY.out.lt)
           replace BP := Lib.hid (BP.out.below hb4 BP.out.lt)
           replace AX := Lib.hid (AX.out.below hb4)
           replace AY := Lib.hid (AY.out.below hb4)
           have Aa := Lib.hid hat4
           obtain ⟨p4, m4, c4, o4, k4, d4, rfl, _, _⟩ := hat4
           clear hb4 PR)
        | (with_reducible refine allocRes_at ?_)
        | ((with_reducible refine storeRes_new 10 31 v4 q.1.inh p4 m4 c4 o4 k4 d4 ?_ ?_ ?_ ?_); (· rfl); (· rfl); (· rfl)
           have hb4a := boxR_below v4 (.cells (resC q.1.inh (.slice p4 m4 c4) (.slice o4 k4 d4)) 25)
           replace BW := Lib.hid (Below.step BW.out hb4a)
           replace BX := Lib.hid (BX.out.below hb4a BX.out.lt)
           replace BY := Lib.hid (BY.out.below hb4a BY.out.lt)
           replace BP := Lib.hid (BP.out.below hb4a BP.out.lt)
           replace AX := Lib.hid (AX.out.below hb4a)
           replace AY := Lib.hid (AY.out.below hb4a)
           replace Aa := Lib.hid (Aa.out.below hb4a)
           have Ba := Lib.hid (resbox v4 q.1.inh (.slice p4 m4 c4) (.slice o4 k4 d4))
           clear hb4a
           generalize v4.alloc (.cells (resC q.1.inh (.slice p4 m4 c4) (.slice o4 k4 d4)) 25) = v4b at *
           generalize v4.heap.size = ga at *)
        | (go_at_call 20
           refine (RR.out _ AX.out AY.out).mono ?_
           rintro r v5 ⟨u5, rfl, hat5, hb5⟩
           replace BW := Lib.hid (Below.step BW.out hb5)
           replace BX := Lib.hid (BX.out.below hb5 BX.out.lt)
           replace BY := Lib.hid (BY.out.below hb5 BY.out.lt)
           replace BP := Lib.hid (BP.out.below hb5 BP.out.lt)
           replace Ba := Lib.hid (Ba.out.below hb5 Ba.out.lt)
           replace AX := Lib.hid (AX.out.below hb5)
           replace AY := Lib.hid (AY.out.below hb5)
           replace Aa := Lib.hid (Aa.out.below hb5)
           have Ab := Lib.hid hat5
           obtain ⟨p5, m5, c5, o5, k5, d5, rfl, _, _⟩ := hat5
           clear hb5 RR)
        | (with_reducible refine allocRes_at ?_)
        | ((with_reducible refine storeRes_new 12 37 v5 q.1.inh p5 m5 c5 o5 k5 d5 ?_ ?_ ?_ ?_); (· rfl); (· rfl); (· rfl)
           have hb5a := boxR_below v5 (.cells (resC q.1.inh (.slice p5 m5 c5) (.slice o5 k5 d5)) 25)
           replace BW := Lib.hid (Below.step BW.out hb5a)
           replace BX := Lib.hid (BX.out.below hb5a BX.out.lt)
           replace BY := Lib.hid (BY.out.below hb5a BY.out.lt)
           replace BP := Lib.hid (BP.out.below hb5a BP.out.lt)
           replace Ba := Lib.hid (Ba.out.below hb5a Ba.out.lt)
           replace AX := Lib.hid (AX.out.below hb5a)
           replace AY := Lib.hid (AY.out.below hb5a)
           replace Aa := Lib.hid (Aa.out.below hb5a)
           replace Ab := Lib.hid (Ab.out.below hb5a)
           have Bb := Lib.hid (resbox v5 q.1.inh (.slice p5 m5 c5) (.slice o5 k5 d5))
           clear hb5a
           generalize v5.alloc (.cells (resC q.1.inh (.slice p5 m5 c5) (.slice o5 k5 d5)) 25) = v5b at *
           generalize v5.heap.size = gb at *)
        | (refine load_res_any (by rfl) (.tmp 10) rfl ga rfl Ba.out ?_)
        | (refine load_res_any (by rfl) (.tmp 12) rfl gb rfl Bb.out ?_)
        | (go_at_call 16
           refine (SM.out _ _ _ Aa.out Ab.out).mono ?_
           rintro r v6 ⟨rfl, hb6⟩
           replace BW := Lib.hid (Below.step BW.out hb6)
           replace BX := Lib.hid (BX.out.below hb6 BX.out.lt)
           replace BY := Lib.hid (BY.out.below hb6 BY.out.lt)
           replace BP := Lib.hid (BP.out.below hb6 BP.out.lt)
           replace Ba := Lib.hid (Ba.out.below hb6 Ba.out.lt)
           replace Bb := Lib.hid (Bb.out.below hb6 Bb.out.lt)
           replace AX := Lib.hid (AX.out.below hb6)
           replace AY := Lib.hid (AY.out.below hb6)
           replace Aa := Lib.hid (Aa.out.below hb6)
           replace Ab := Lib.hid (Ab.out.below hb6)
           clear SM
           clear hb6))
      refine wp_region_ord Ext Ext.refl (fun _ _ _ => Ext.trans) ((0, false) :: (1, false) :: (2, false) :: (3, false) :: (4, false) :: (5, false) :: (6, false) :: (7, false) :: (8, false) :: (9, false) :: (10, false) :: (11, false) :: (13, false) :: (14, false) :: (12, true) :: (15, true) :: (16, false) :: (17, false) :: (18, false) :: []) (by kernel_rfl) (by kernel_rfl) rfl (by kernel_rfl) (fun _ _ _ _ _ h => h) ?_
      replace BW : Hid (Below w.heap.size w v6.drew) := Lib.hid (Below.step BW.out (drewN_below _ 1))
      replace BX := Lib.hid (BX.out.below (drewN_below _ 1) BX.out.lt)
      replace BY := Lib.hid (BY.out.below (drewN_below _ 1) BY.out.lt)
      replace BP := Lib.hid (BP.out.below (drewN_below _ 1) BP.out.lt)
      replace Ba := Lib.hid (Ba.out.below (drewN_below _ 1) Ba.out.lt)
      replace Bb := Lib.hid (Bb.out.below (drewN_below _ 1) Bb.out.lt)
      replace AX := Lib.hid (AX.out.below (drewN_below _ 1))
      replace AY := Lib.hid (AY.out.below (drewN_below _ 1))
      replace Aa := Lib.hid (Aa.out.below (drewN_below _ 1))
      replace Ab := Lib.hid (Ab.out.below (drewN_below _ 1))
      change wpOrd _ _ _ _ _ _ (v6.drewN 1)
      change Hid (Below w.heap.size w (v6.drewN 1)) at BW
      generalize v6.drewN 1 = wd at *
      repeat (first
        | (refine ord_skip rfl (by rfl) ?_; simp only [Act.put, List.setIfInBounds_toArray, List.set_cons_zero, List.set_cons_succ])
        | (refine ord_take _ rfl (by rfl) (fun W hW => yields_row 25 (.tmp 3) rfl g 25 _ _ rfl (BX.out.below hW BX.out.lt) Tryz.underlying25 rfl (Tryz.sizeRes _ _ _)) ?_; simp only [Act.put, List.setIfInBounds_toArray, List.set_cons_zero, List.set_cons_succ])
        | (refine ord_take _ rfl (by rfl) (fun W hW => yields_row 43 (.tmp 5) rfl (g + 1 + 1) 43 PC _ rfl (BP.out.below hW BP.out.lt) Tryz.underlying43 rfl SP.out) ?_; simp only [Act.put, List.setIfInBounds_toArray, List.set_cons_zero, List.set_cons_succ])
        | (refine ord_take _ rfl (by rfl) (fun W hW => by go_simp; first | done | rfl) ?_; simp only [Act.put, List.setIfInBounds_toArray, List.set_cons_zero, List.set_cons_succ])
        | (refine ord_sole rfl (by rfl) (fun K1 hK1 => ?_)
           go_simp
           refine (HP.out _ AX.out).mono ?_
           rintro e v7 ⟨rfl, hb7⟩
           refine hK1 _ _ hb7 ?_
           replace BW := Lib.hid (Below.step BW.out hb7)
           replace BX := Lib.hid (BX.out.below hb7 BX.out.lt)
           replace BY := Lib.hid (BY.out.below hb7 BY.out.lt)
           replace BP := Lib.hid (BP.out.below hb7 BP.out.lt)
           replace Ba := Lib.hid (Ba.out.below hb7 Ba.out.lt)
           replace Bb := Lib.hid (Bb.out.below hb7 Bb.out.lt)
           replace AX := Lib.hid (AX.out.below hb7)
           replace AY := Lib.hid (AY.out.below hb7)
           replace Aa := Lib.hid (Aa.out.below hb7)
           replace Ab := Lib.hid (Ab.out.below hb7)
           clear HP
           clear hK1 K1 hb7
           try simp only [Act.put, List.setIfInBounds_toArray, List.set_cons_zero, List.set_cons_succ])
        | (refine ord_sole rfl (by rfl) (fun K1 hK1 => ?_)
           go_simp
           refine (HR.out _ AX.out).mono ?_
           rintro e v8 ⟨rfl, hb8⟩
           refine hK1 _ _ hb8 ?_
           replace BW := Lib.hid (Below.step BW.out hb8)
           replace BX := Lib.hid (BX.out.below hb8 BX.out.lt)
           replace BY := Lib.hid (BY.out.below hb8 BY.out.lt)
           replace BP := Lib.hid (BP.out.below hb8 BP.out.lt)
           replace Ba := Lib.hid (Ba.out.below hb8 Ba.out.lt)
           replace Bb := Lib.hid (Bb.out.below hb8 Bb.out.lt)
           replace AX := Lib.hid (AX.out.below hb8)
           replace AY := Lib.hid (AY.out.below hb8)
           replace Aa := Lib.hid (Aa.out.below hb8)
           replace Ab := Lib.hid (Ab.out.below hb8)
           clear HR
           clear hK1 K1 hb8
           try simp only [Act.put, List.setIfInBounds_toArray, List.set_cons_zero, List.set_cons_succ]))
      refine ord_end ?_
      go_wp2_with fail
      go_ret
      exact ⟨by simp, BW.out⟩
end Go.Proofs.YtlmndmfebgaidaaGreatDoor
