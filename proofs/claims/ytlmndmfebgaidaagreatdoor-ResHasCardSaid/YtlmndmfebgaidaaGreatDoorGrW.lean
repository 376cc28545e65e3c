/-
  Merged texts: ReZ.
-/
import Derived.Test.YtlmndmfebgaidaaGreatDoorGrM
namespace Go.Proofs.YtlmndmfebgaidaaGreatDoor
open Go.RowKit
set_option linter.unusedVariables false
set_option maxRecDepth 100000
set_option maxHeartbeats 4000000 in
theorem hases13_any (hUp : PkUp13) (hHas : PkHas13) (x : ResZ) (p q : PfZ) (u : Value) (w : World) (hf : Fam w) (hx : ResAt w u x) (hp : Sixteen p.a) (l0 : -9223372036854775808 ≤ p.l) (l1 : p.l ≤ 9223372036854775807) (hq : Sixteen q.a) (m0 : -9223372036854775808 ≤ q.l) (m1 : q.l ≤ 9223372036854775807) :
    Calls Tryz.prog 7 #[u, .agg (pcells p.v p.a p.l), .agg (pcells q.v q.a q.l)] w fun e w' => e = .returned (.bool true) ∧ Below w.heap.size w w' := by
  have hx0 := hx
  have ok := hx.ok
  obtain ⟨ax, nx, cx, ox, mx, dx, rfl, sx, rx⟩ := hx
  have K0 := (Blk.alloc (Blk.alloc (Blk.new w 25 (resC x.inh (.slice ax nx cx) (.slice ox mx dx))) (.cells (pcells p.v p.a p.l) 43)) (.cells (pcells q.v q.a q.l) 43))
  have K1 := (Blk.alloc (Blk.new (w.alloc (.cells (resC x.inh (.slice ax nx cx) (.slice ox mx dx)) 25)) 43 (pcells p.v p.a p.l)) (.cells (pcells q.v q.a q.l) 43))
  rw [show (w.alloc (.cells (resC x.inh (.slice ax nx cx) (.slice ox mx dx)) 25)).heap.size = w.heap.size + 1 by simp] at K1
  have K2 := (Blk.new ((w.alloc (.cells (resC x.inh (.slice ax nx cx) (.slice ox mx dx)) 25)).alloc (.cells (pcells p.v p.a p.l) 43)) 43 (pcells q.v q.a q.l))
  rw [show ((w.alloc (.cells (resC x.inh (.slice ax nx cx) (.slice ox mx dx)) 25)).alloc (.cells (pcells p.v p.a p.l) 43)).heap.size = w.heap.size + 1 + 1 by simp] at K2
  have bw := (Below.step (Below.step (boxR_below w (.cells (resC x.inh (.slice ax nx cx) (.slice ox mx dx)) 25)) (boxR_below (w.alloc (.cells (resC x.inh (.slice ax nx cx) (.slice ox mx dx)) 25)) (.cells (pcells p.v p.a p.l) 43))) (boxR_below ((w.alloc (.cells (resC x.inh (.slice ax nx cx) (.slice ox mx dx)) 25)).alloc (.cells (pcells p.v p.a p.l) 43)) (.cells (pcells q.v q.a q.l) 43)))
  have BW := Lib.hid bw
  have AX := Lib.hid (hx0.below bw)
  have CU := Lib.hid (fun W (hb : Below w.heap.size w W) => hUp W (hf.below hb))
  have LX := Lib.hid (fun W h => rlight13_any x (.agg (resC x.inh (.slice ax nx cx) (.slice ox mx dx))) W h)
  have CV := Lib.hid (fun W => covers_any p.v p.a p.l q.v q.a q.l W hp l0 l1 hq m0 m1)
  have CR := Lib.hid (fun W => right_any p.v p.a p.l W hp l0 l1)
  have HP := Lib.hid (fun (hl : lightR x = true) W h => hHas x p (.agg (resC x.inh (.slice ax nx cx) (.slice ox mx dx))) W h hp l0 l1 (by have := light_len hl; omega))
  have HQ := Lib.hid (fun (hl : lightR x = true) W h => hHas x q (.agg (resC x.inh (.slice ax nx cx) (.slice ox mx dx))) W h hq m0 m1 (by have := light_len hl; omega))
  have HZ := Lib.hid (fun W => hHas zeroRes p _ W (ResAt.zero W) hp l0 l1 (Nat.zero_le _))
  have EC := Lib.hid (fun h k => has_covers (r := x) (p := p) (q := q) ok hp hq h k)
  have EZ := Lib.hid (has_none (r := zeroRes) (p := p) hp rfl)
  have ER := Lib.hid (fun (h : rightA p.v p.a p.l = false) => (show hasR x p = false from by rw [Bool.eq_false_iff]; intro k; rw [has_right k] at h; cases h))
  have SP := Lib.hid (Tryz.sizeP (v := p.v) (L := p.l) hp.1)
  have SQ := Lib.hid (Tryz.sizeP (v := q.v) (L := q.l) hq.1)
  generalize hw2 : (((w.alloc (.cells (resC x.inh (.slice ax nx cx) (.slice ox mx dx)) 25)).alloc (.cells (pcells p.v p.a p.l) 43)).alloc (.cells (pcells q.v q.a q.l) 43)) = w2 at *
  obtain ⟨g, hg⟩ : ∃ g, w.heap.size = g := ⟨_, rfl⟩
  rw [hg] at K0 K1 K2
  rw [EZ.out] at HZ
  clear hx0 sx rx bw hp l0 l1 hq m0 m1 hUp hHas ok EZ hf
  generalize lightR x = lx at *
  generalize coversA p.v p.a p.l q.v q.a q.l = cv at *
  generalize rightA p.v p.a p.l = ra at *
  generalize hasR x p = h1 at *
  generalize hasR x q = h2 at *
  generalize pcells p.v p.a p.l = PC at *
  generalize pcells q.v q.a q.l = QC at *
  have BX := Lib.hid K0
  have BP := Lib.hid K1
  have BQ := Lib.hid K2
  clear K0 K1 K2
  go_enter Tryz.func7, Tryz.ntmps7
  go_upto_region 1 with fail
  clear hw2
  cases lx with
  | false =>
    go_wp2_with (first
      | (refine load_res_any (by rfl) (.tmp 3) rfl g rfl BX.out ?_)
      | (refine wpList_load_rowG (by rfl) 43 (.tmp 4) rfl (g + 1) rfl 43 PC (0, 0) _ BP.out Tryz.underlying43 rfl SP.out ?_)
      | (refine wpList_load_rowG (by rfl) 43 (.tmp 5) rfl (g + 1 + 1) rfl 43 QC (0, 0) _ BQ.out Tryz.underlying43 rfl SQ.out ?_)
      | (go_at_call 8
         refine (CU.out _ BW.out).mono ?_
         rintro r v1 ⟨rfl, hb1⟩
         replace BW := Lib.hid (Below.step BW.out hb1)
         replace BX := Lib.hid (BX.out.below hb1 BX.out.lt)
         replace BP := Lib.hid (BP.out.below hb1 BP.out.lt)
         replace BQ := Lib.hid (BQ.out.below hb1 BQ.out.lt)
         replace AX := Lib.hid (AX.out.below hb1)
         clear CU
         clear hb1)
      | (go_at_call 9
         refine (LX.out _ AX.out).mono ?_
         rintro r v2 ⟨rfl, hb2⟩
         replace BW := Lib.hid (Below.step BW.out hb2)
         replace BX := Lib.hid (BX.out.below hb2 BX.out.lt)
         replace BP := Lib.hid (BP.out.below hb2 BP.out.lt)
         replace BQ := Lib.hid (BQ.out.below hb2 BQ.out.lt)
         replace AX := Lib.hid (AX.out.below hb2)
         clear LX
         clear hb2))
    go_ret
    exact ⟨rfl, BW.out⟩
  | true =>
    replace HP := Lib.hid (HP.out rfl)
    replace HQ := Lib.hid (HQ.out rfl)
    have HP3 := HP
    cases cv with
    | false =>
      clear EC HQ HP
      cases ra with
      | true =>
        clear ER
        go_wp2_with (first
          | (refine load_res_any (by rfl) (.tmp 3) rfl g rfl BX.out ?_)
          | (refine wpList_load_rowG (by rfl) 43 (.tmp 4) rfl (g + 1) rfl 43 PC (0, 0) _ BP.out Tryz.underlying43 rfl SP.out ?_)
          | (refine wpList_load_rowG (by rfl) 43 (.tmp 5) rfl (g + 1 + 1) rfl 43 QC (0, 0) _ BQ.out Tryz.underlying43 rfl SQ.out ?_)
          | (go_at_call 8
             refine (CU.out _ BW.out).mono ?_
             rintro r v1 ⟨rfl, hb1⟩
             replace BW := Lib.hid (Below.step BW.out hb1)
             replace BX := Lib.hid (BX.out.below hb1 BX.out.lt)
             replace BP := Lib.hid (BP.out.below hb1 BP.out.lt)
             replace BQ := Lib.hid (BQ.out.below hb1 BQ.out.lt)
             replace AX := Lib.hid (AX.out.below hb1)
             clear CU
             clear hb1)
          | (go_at_call 9
             refine (LX.out _ AX.out).mono ?_
             rintro r v2 ⟨rfl, hb2⟩
             replace BW := Lib.hid (Below.step BW.out hb2)
             replace BX := Lib.hid (BX.out.below hb2 BX.out.lt)
             replace BP := Lib.hid (BP.out.below hb2 BP.out.lt)
             replace BQ := Lib.hid (BQ.out.below hb2 BQ.out.lt)
             replace AX := Lib.hid (AX.out.below hb2)
             clear LX
             clear hb2)
          | (go_at_call 23
             refine (CV.out _).mono ?_
             rintro r v3 ⟨rfl, hb3⟩
             replace BW := Lib.hid (Below.step BW.out hb3)
             replace BX := Lib.hid (BX.out.below hb3 BX.out.lt)
             replace BP := Lib.hid (BP.out.below hb3 BP.out.lt)
             replace BQ := Lib.hid (BQ.out.below hb3 BQ.out.lt)
             replace AX := Lib.hid (AX.out.below hb3)
             clear CV
             clear hb3)
          | (go_at_call 21
             refine (HZ.out _).mono ?_
             rintro r v4 ⟨rfl, hb4⟩
             replace BW := Lib.hid (Below.step BW.out hb4)
             replace BX := Lib.hid (BX.out.below hb4 BX.out.lt)
             replace BP := Lib.hid (BP.out.below hb4 BP.out.lt)
             replace BQ := Lib.hid (BQ.out.below hb4 BQ.out.lt)
             replace AX := Lib.hid (AX.out.below hb4)
             clear HZ
             clear hb4)
          | (go_at_call 24
             refine (CR.out _).mono ?_
             rintro r v5 ⟨rfl, hb5⟩
             replace BW := Lib.hid (Below.step BW.out hb5)
             replace BX := Lib.hid (BX.out.below hb5 BX.out.lt)
             replace BP := Lib.hid (BP.out.below hb5 BP.out.lt)
             replace BQ := Lib.hid (BQ.out.below hb5 BQ.out.lt)
             replace AX := Lib.hid (AX.out.below hb5)
             clear CR
             clear hb5))
        go_ret
        exact ⟨rfl, BW.out⟩
      | false =>
        have e0 := ER.out rfl
        subst e0
        clear ER
        go_wp2_with (first
          | (refine load_res_any (by rfl) (.tmp 3) rfl g rfl BX.out ?_)
          | (refine wpList_load_rowG (by rfl) 43 (.tmp 4) rfl (g + 1) rfl 43 PC (0, 0) _ BP.out Tryz.underlying43 rfl SP.out ?_)
          | (refine wpList_load_rowG (by rfl) 43 (.tmp 5) rfl (g + 1 + 1) rfl 43 QC (0, 0) _ BQ.out Tryz.underlying43 rfl SQ.out ?_)
          | (go_at_call 8
             refine (CU.out _ BW.out).mono ?_
             rintro r v1 ⟨rfl, hb1⟩
             replace BW := Lib.hid (Below.step BW.out hb1)
             replace BX := Lib.hid (BX.out.below hb1 BX.out.lt)
             replace BP := Lib.hid (BP.out.below hb1 BP.out.lt)
             replace BQ := Lib.hid (BQ.out.below hb1 BQ.out.lt)
             replace AX := Lib.hid (AX.out.below hb1)
             clear CU
             clear hb1)
          | (go_at_call 9
             refine (LX.out _ AX.out).mono ?_
             rintro r v2 ⟨rfl, hb2⟩
             replace BW := Lib.hid (Below.step BW.out hb2)
             replace BX := Lib.hid (BX.out.below hb2 BX.out.lt)
             replace BP := Lib.hid (BP.out.below hb2 BP.out.lt)
             replace BQ := Lib.hid (BQ.out.below hb2 BQ.out.lt)
             replace AX := Lib.hid (AX.out.below hb2)
             clear LX
             clear hb2)
          | (go_at_call 23
             refine (CV.out _).mono ?_
             rintro r v3 ⟨rfl, hb3⟩
             replace BW := Lib.hid (Below.step BW.out hb3)
             replace BX := Lib.hid (BX.out.below hb3 BX.out.lt)
             replace BP := Lib.hid (BP.out.below hb3 BP.out.lt)
             replace BQ := Lib.hid (BQ.out.below hb3 BQ.out.lt)
             replace AX := Lib.hid (AX.out.below hb3)
             clear CV
             clear hb3)
          | (go_at_call 21
             refine (HZ.out _).mono ?_
             rintro r v4 ⟨rfl, hb4⟩
             replace BW := Lib.hid (Below.step BW.out hb4)
             replace BX := Lib.hid (BX.out.below hb4 BX.out.lt)
             replace BP := Lib.hid (BP.out.below hb4 BP.out.lt)
             replace BQ := Lib.hid (BQ.out.below hb4 BQ.out.lt)
             replace AX := Lib.hid (AX.out.below hb4)
             clear HZ
             clear hb4)
          | (go_at_call 24
             refine (CR.out _).mono ?_
             rintro r v5 ⟨rfl, hb5⟩
             replace BW := Lib.hid (Below.step BW.out hb5)
             replace BX := Lib.hid (BX.out.below hb5 BX.out.lt)
             replace BP := Lib.hid (BP.out.below hb5 BP.out.lt)
             replace BQ := Lib.hid (BQ.out.below hb5 BQ.out.lt)
             replace AX := Lib.hid (AX.out.below hb5)
             clear CR
             clear hb5)
          | (go_at_call 21
             refine (HP3.out _ AX.out).mono ?_
             rintro r v6 ⟨rfl, hb6⟩
             replace BW := Lib.hid (Below.step BW.out hb6)
             replace BX := Lib.hid (BX.out.below hb6 BX.out.lt)
             replace BP := Lib.hid (BP.out.below hb6 BP.out.lt)
             replace BQ := Lib.hid (BQ.out.below hb6 BQ.out.lt)
             replace AX := Lib.hid (AX.out.below hb6)
             clear HP3
             clear hb6))
        go_ret
        exact ⟨rfl, BW.out⟩
    | true =>
      cases h1 with
      | false =>
        clear EC HQ
        cases ra with
        | true =>
          clear ER
          go_wp2_with (first
            | (refine load_res_any (by rfl) (.tmp 3) rfl g rfl BX.out ?_)
            | (refine wpList_load_rowG (by rfl) 43 (.tmp 4) rfl (g + 1) rfl 43 PC (0, 0) _ BP.out Tryz.underlying43 rfl SP.out ?_)
            | (refine wpList_load_rowG (by rfl) 43 (.tmp 5) rfl (g + 1 + 1) rfl 43 QC (0, 0) _ BQ.out Tryz.underlying43 rfl SQ.out ?_)
            | (go_at_call 8
               refine (CU.out _ BW.out).mono ?_
               rintro r v1 ⟨rfl, hb1⟩
               replace BW := Lib.hid (Below.step BW.out hb1)
               replace BX := Lib.hid (BX.out.below hb1 BX.out.lt)
               replace BP := Lib.hid (BP.out.below hb1 BP.out.lt)
               replace BQ := Lib.hid (BQ.out.below hb1 BQ.out.lt)
               replace AX := Lib.hid (AX.out.below hb1)
               clear CU
               clear hb1)
            | (go_at_call 9
               refine (LX.out _ AX.out).mono ?_
               rintro r v2 ⟨rfl, hb2⟩
               replace BW := Lib.hid (Below.step BW.out hb2)
               replace BX := Lib.hid (BX.out.below hb2 BX.out.lt)
               replace BP := Lib.hid (BP.out.below hb2 BP.out.lt)
               replace BQ := Lib.hid (BQ.out.below hb2 BQ.out.lt)
               replace AX := Lib.hid (AX.out.below hb2)
               clear LX
               clear hb2)
            | (go_at_call 23
               refine (CV.out _).mono ?_
               rintro r v3 ⟨rfl, hb3⟩
               replace BW := Lib.hid (Below.step BW.out hb3)
               replace BX := Lib.hid (BX.out.below hb3 BX.out.lt)
               replace BP := Lib.hid (BP.out.below hb3 BP.out.lt)
               replace BQ := Lib.hid (BQ.out.below hb3 BQ.out.lt)
               replace AX := Lib.hid (AX.out.below hb3)
               clear CV
               clear hb3)
            | (go_at_call 21
               refine (HP.out _ AX.out).mono ?_
               rintro r v4 ⟨rfl, hb4⟩
               replace BW := Lib.hid (Below.step BW.out hb4)
               replace BX := Lib.hid (BX.out.below hb4 BX.out.lt)
               replace BP := Lib.hid (BP.out.below hb4 BP.out.lt)
               replace BQ := Lib.hid (BQ.out.below hb4 BQ.out.lt)
               replace AX := Lib.hid (AX.out.below hb4)
               clear HP
               clear hb4)
            | (go_at_call 21
               refine (HZ.out _).mono ?_
               rintro r v5 ⟨rfl, hb5⟩
               replace BW := Lib.hid (Below.step BW.out hb5)
               replace BX := Lib.hid (BX.out.below hb5 BX.out.lt)
               replace BP := Lib.hid (BP.out.below hb5 BP.out.lt)
               replace BQ := Lib.hid (BQ.out.below hb5 BQ.out.lt)
               replace AX := Lib.hid (AX.out.below hb5)
               clear HZ
               clear hb5)
            | (go_at_call 24
               refine (CR.out _).mono ?_
               rintro r v6 ⟨rfl, hb6⟩
               replace BW := Lib.hid (Below.step BW.out hb6)
               replace BX := Lib.hid (BX.out.below hb6 BX.out.lt)
               replace BP := Lib.hid (BP.out.below hb6 BP.out.lt)
               replace BQ := Lib.hid (BQ.out.below hb6 BQ.out.lt)
               replace AX := Lib.hid (AX.out.below hb6)
               clear CR
               clear hb6))
          go_ret
          exact ⟨rfl, BW.out⟩
        | false =>
          clear ER
          go_wp2_with (first
            | (refine load_res_any (by rfl) (.tmp 3) rfl g rfl BX.out ?_)
            | (refine wpList_load_rowG (by rfl) 43 (.tmp 4) rfl (g + 1) rfl 43 PC (0, 0) _ BP.out Tryz.underlying43 rfl SP.out ?_)
            | (refine wpList_load_rowG (by rfl) 43 (.tmp 5) rfl (g + 1 + 1) rfl 43 QC (0, 0) _ BQ.out Tryz.underlying43 rfl SQ.out ?_)
            | (go_at_call 8
               refine (CU.out _ BW.out).mono ?_
               rintro r v1 ⟨rfl, hb1⟩
               replace BW := Lib.hid (Below.step BW.out hb1)
               replace BX := Lib.hid (BX.out.below hb1 BX.out.lt)
               replace BP := Lib.hid (BP.out.below hb1 BP.out.lt)
               replace BQ := Lib.hid (BQ.out.below hb1 BQ.out.lt)
               replace AX := Lib.hid (AX.out.below hb1)
               clear CU
               clear hb1)
            | (go_at_call 9
               refine (LX.out _ AX.out).mono ?_
               rintro r v2 ⟨rfl, hb2⟩
               replace BW := Lib.hid (Below.step BW.out hb2)
               replace BX := Lib.hid (BX.out.below hb2 BX.out.lt)
               replace BP := Lib.hid (BP.out.below hb2 BP.out.lt)
               replace BQ := Lib.hid (BQ.out.below hb2 BQ.out.lt)
               replace AX := Lib.hid (AX.out.below hb2)
               clear LX
               clear hb2)
            | (go_at_call 23
               refine (CV.out _).mono ?_
               rintro r v3 ⟨rfl, hb3⟩
               replace BW := Lib.hid (Below.step BW.out hb3)
               replace BX := Lib.hid (BX.out.below hb3 BX.out.lt)
               replace BP := Lib.hid (BP.out.below hb3 BP.out.lt)
               replace BQ := Lib.hid (BQ.out.below hb3 BQ.out.lt)
               replace AX := Lib.hid (AX.out.below hb3)
               clear CV
               clear hb3)
            | (go_at_call 21
               refine (HP.out _ AX.out).mono ?_
               rintro r v4 ⟨rfl, hb4⟩
               replace BW := Lib.hid (Below.step BW.out hb4)
               replace BX := Lib.hid (BX.out.below hb4 BX.out.lt)
               replace BP := Lib.hid (BP.out.below hb4 BP.out.lt)
               replace BQ := Lib.hid (BQ.out.below hb4 BQ.out.lt)
               replace AX := Lib.hid (AX.out.below hb4)
               clear HP
               clear hb4)
            | (go_at_call 21
               refine (HZ.out _).mono ?_
               rintro r v5 ⟨rfl, hb5⟩
               replace BW := Lib.hid (Below.step BW.out hb5)
               replace BX := Lib.hid (BX.out.below hb5 BX.out.lt)
               replace BP := Lib.hid (BP.out.below hb5 BP.out.lt)
               replace BQ := Lib.hid (BQ.out.below hb5 BQ.out.lt)
               replace AX := Lib.hid (AX.out.below hb5)
               clear HZ
               clear hb5)
            | (go_at_call 24
               refine (CR.out _).mono ?_
               rintro r v6 ⟨rfl, hb6⟩
               replace BW := Lib.hid (Below.step BW.out hb6)
               replace BX := Lib.hid (BX.out.below hb6 BX.out.lt)
               replace BP := Lib.hid (BP.out.below hb6 BP.out.lt)
               replace BQ := Lib.hid (BQ.out.below hb6 BQ.out.lt)
               replace AX := Lib.hid (AX.out.below hb6)
               clear CR
               clear hb6)
            | (go_at_call 21
               refine (HP3.out _ AX.out).mono ?_
               rintro r v7 ⟨rfl, hb7⟩
               replace BW := Lib.hid (Below.step BW.out hb7)
               replace BX := Lib.hid (BX.out.below hb7 BX.out.lt)
               replace BP := Lib.hid (BP.out.below hb7 BP.out.lt)
               replace BQ := Lib.hid (BQ.out.below hb7 BQ.out.lt)
               replace AX := Lib.hid (AX.out.below hb7)
               clear HP3
               clear hb7))
          go_ret
          exact ⟨rfl, BW.out⟩
      | true =>
        have e2 := EC.out rfl rfl
        subst e2
        clear EC
        cases ra with
        | true =>
          clear ER
          go_wp2_with (first
            | (refine load_res_any (by rfl) (.tmp 3) rfl g rfl BX.out ?_)
            | (refine wpList_load_rowG (by rfl) 43 (.tmp 4) rfl (g + 1) rfl 43 PC (0, 0) _ BP.out Tryz.underlying43 rfl SP.out ?_)
            | (refine wpList_load_rowG (by rfl) 43 (.tmp 5) rfl (g + 1 + 1) rfl 43 QC (0, 0) _ BQ.out Tryz.underlying43 rfl SQ.out ?_)
            | (go_at_call 8
               refine (CU.out _ BW.out).mono ?_
               rintro r v1 ⟨rfl, hb1⟩
               replace BW := Lib.hid (Below.step BW.out hb1)
               replace BX := Lib.hid (BX.out.below hb1 BX.out.lt)
               replace BP := Lib.hid (BP.out.below hb1 BP.out.lt)
               replace BQ := Lib.hid (BQ.out.below hb1 BQ.out.lt)
               replace AX := Lib.hid (AX.out.below hb1)
               clear CU
               clear hb1)
            | (go_at_call 9
               refine (LX.out _ AX.out).mono ?_
               rintro r v2 ⟨rfl, hb2⟩
               replace BW := Lib.hid (Below.step BW.out hb2)
               replace BX := Lib.hid (BX.out.below hb2 BX.out.lt)
               replace BP := Lib.hid (BP.out.below hb2 BP.out.lt)
               replace BQ := Lib.hid (BQ.out.below hb2 BQ.out.lt)
               replace AX := Lib.hid (AX.out.below hb2)
               clear LX
               clear hb2)
            | (go_at_call 23
               refine (CV.out _).mono ?_
               rintro r v3 ⟨rfl, hb3⟩
               replace BW := Lib.hid (Below.step BW.out hb3)
               replace BX := Lib.hid (BX.out.below hb3 BX.out.lt)
               replace BP := Lib.hid (BP.out.below hb3 BP.out.lt)
               replace BQ := Lib.hid (BQ.out.below hb3 BQ.out.lt)
               replace AX := Lib.hid (AX.out.below hb3)
               clear CV
               clear hb3)
            | (go_at_call 21
               refine (HP.out _ AX.out).mono ?_
               rintro r v4 ⟨rfl, hb4⟩
               replace BW := Lib.hid (Below.step BW.out hb4)
               replace BX := Lib.hid (BX.out.below hb4 BX.out.lt)
               replace BP := Lib.hid (BP.out.below hb4 BP.out.lt)
               replace BQ := Lib.hid (BQ.out.below hb4 BQ.out.lt)
               replace AX := Lib.hid (AX.out.below hb4)
               clear HP
               clear hb4)
            | (go_at_call 21
               refine (HQ.out _ AX.out).mono ?_
               rintro r v5 ⟨rfl, hb5⟩
               replace BW := Lib.hid (Below.step BW.out hb5)
               replace BX := Lib.hid (BX.out.below hb5 BX.out.lt)
               replace BP := Lib.hid (BP.out.below hb5 BP.out.lt)
               replace BQ := Lib.hid (BQ.out.below hb5 BQ.out.lt)
               replace AX := Lib.hid (AX.out.below hb5)
               clear HQ
               clear hb5)
            | (go_at_call 21
               refine (HZ.out _).mono ?_
               rintro r v6 ⟨rfl, hb6⟩
               replace BW := Lib.hid (Below.step BW.out hb6)
               replace BX := Lib.hid (BX.out.below hb6 BX.out.lt)
               replace BP := Lib.hid (BP.out.below hb6 BP.out.lt)
               replace BQ := Lib.hid (BQ.out.below hb6 BQ.out.lt)
               replace AX := Lib.hid (AX.out.below hb6)
               clear HZ
               clear hb6)
            | (go_at_call 24
               refine (CR.out _).mono ?_
               rintro r v7 ⟨rfl, hb7⟩
               replace BW := Lib.hid (Below.step BW.out hb7)
               replace BX := Lib.hid (BX.out.below hb7 BX.out.lt)
               replace BP := Lib.hid (BP.out.below hb7 BP.out.lt)
               replace BQ := Lib.hid (BQ.out.below hb7 BQ.out.lt)
               replace AX := Lib.hid (AX.out.below hb7)
               clear CR
               clear hb7))
          go_ret
          exact ⟨rfl, BW.out⟩
        | false =>
          exact absurd (ER.out rfl) (by decide)
end Go.Proofs.YtlmndmfebgaidaaGreatDoor
