/-
  Merged texts: ReY.
-/
import Derived.Test.YtlmndmfebgaidaaGreatDoorGrM
namespace Go.Proofs.YtlmndmfebgaidaaGreatDoor
open Go.RowKit
set_option linter.unusedVariables false
set_option maxRecDepth 100000
set_option maxHeartbeats 8000000 in
theorem goes13_any (hUp : PkUp13) (hRes : PkResolve13) (hHas : PkHas13) (x a b : ResZ) (p : PfZ) (u : Value) (aa : Option Addr) (na ca : Nat) (oa : Option Addr) (ma da : Nat) (ab : Option Addr) (nb cb : Nat) (ob : Option Addr) (mb db : Nat) (w : World) (hf : Fam w) (hx : ResAt w u x)
    (ha : ResAt w (.agg (resC a.inh (.slice aa na ca) (.slice oa ma da))) a) (hb : ResAt w (.agg (resC b.inh (.slice ab nb cb) (.slice ob mb db))) b) (hp : Sixteen p.a) (l0 : -9223372036854775808 ≤ p.l) (l1 : p.l ≤ 9223372036854775807) :
    Calls Tryz.prog 6 #[u, .agg (resC2 a.inh (.slice aa na ca) (.slice oa ma da) b.inh (.slice ab nb cb) (.slice ob mb db)), .agg (pcells p.v p.a p.l)] w fun e w' => e = .returned (.bool true) ∧ Below w.heap.size w w' := by
  have hx0 := hx
  have okx := hx.ok
  have oka := ha.ok
  have okb := hb.ok
  obtain ⟨ax, nx, cx, ox, mx, dx, rfl, sx, rx⟩ := hx
  have K0 := (Blk.alloc (Blk.alloc (Blk.new w 25 (resC x.inh (.slice ax nx cx) (.slice ox mx dx))) (.cells (resC2 a.inh (.slice aa na ca) (.slice oa ma da) b.inh (.slice ab nb cb) (.slice ob mb db)) 47)) (.cells (pcells p.v p.a p.l) 43))
  have K1 := (Blk.alloc (Blk.new (w.alloc (.cells (resC x.inh (.slice ax nx cx) (.slice ox mx dx)) 25)) 47 (resC2 a.inh (.slice aa na ca) (.slice oa ma da) b.inh (.slice ab nb cb) (.slice ob mb db))) (.cells (pcells p.v p.a p.l) 43))
  rw [show (w.alloc (.cells (resC x.inh (.slice ax nx cx) (.slice ox mx dx)) 25)).heap.size = w.heap.size + 1 by simp] at K1
  have K2 := (Blk.new ((w.alloc (.cells (resC x.inh (.slice ax nx cx) (.slice ox mx dx)) 25)).alloc (.cells (resC2 a.inh (.slice aa na ca) (.slice oa ma da) b.inh (.slice ab nb cb) (.slice ob mb db)) 47)) 43 (pcells p.v p.a p.l))
  rw [show ((w.alloc (.cells (resC x.inh (.slice ax nx cx) (.slice ox mx dx)) 25)).alloc (.cells (resC2 a.inh (.slice aa na ca) (.slice oa ma da) b.inh (.slice ab nb cb) (.slice ob mb db)) 47)).heap.size = w.heap.size + 1 + 1 by simp] at K2
  have bw := (Below.step (Below.step (boxR_below w (.cells (resC x.inh (.slice ax nx cx) (.slice ox mx dx)) 25)) (boxR_below (w.alloc (.cells (resC x.inh (.slice ax nx cx) (.slice ox mx dx)) 25)) (.cells (resC2 a.inh (.slice aa na ca) (.slice oa ma da) b.inh (.slice ab nb cb) (.slice ob mb db)) 47))) (boxR_below ((w.alloc (.cells (resC x.inh (.slice ax nx cx) (.slice ox mx dx)) 25)).alloc (.cells (resC2 a.inh (.slice aa na ca) (.slice oa ma da) b.inh (.slice ab nb cb) (.slice ob mb db)) 47)) (.cells (pcells p.v p.a p.l) 43)))
  have BW := Lib.hid bw
  have AX := Lib.hid (hx0.below bw)
  have AA := Lib.hid (ha.below bw)
  have AB := Lib.hid (hb.below bw)
  have CU := Lib.hid (fun W (hb : Below w.heap.size w W) => hUp W (hf.below hb))
  have LX := Lib.hid (fun W h => rlight13_any x (.agg (resC x.inh (.slice ax nx cx) (.slice ox mx dx))) W h)
  have LA := Lib.hid (fun W h => rlight13_any a (.agg (resC a.inh (.slice aa na ca) (.slice oa ma da))) W h)
  have LB := Lib.hid (fun W h => rlight13_any b (.agg (resC b.inh (.slice ab nb cb) (.slice ob mb db))) W h)
  have P1 := Lib.hid (fun (hl : lightR x = true) (hm : lightR a = true) W h k => hRes x a (.agg (resC x.inh (.slice ax nx cx) (.slice ox mx dx))) (.agg (resC a.inh (.slice aa na ca) (.slice oa ma da))) W h k (by have := light_len hl; omega) (by have := light_len hm; omega))
  have P2 := Lib.hid (fun (hm : lightR a = true) (hn : lightR b = true) W h k => hRes a b (.agg (resC a.inh (.slice aa na ca) (.slice oa ma da))) (.agg (resC b.inh (.slice ab nb cb) (.slice ob mb db))) W h k (by have := light_len hm; omega) (by have := light_len hn; omega))
  have P3 := Lib.hid (fun (hl : lightR x = true) (hm : lightR a = true) (hn : lightR b = true) v W h k => hRes (resolveR x a).1 b v (.agg (resC b.inh (.slice ab nb cb) (.slice ob mb db))) W h k (by have := resolve_len (light_len hl) (light_len hm); omega) (by have := light_len hn; omega))
  have SM := Lib.hid (fun (hl : lightR x = true) (hm : lightR a = true) (hn : lightR b = true) W u v h k => rsame13_any (resolveR (resolveR x a).1 b).1 (resolveR x a).1 u v W h k (by have := resolve_len (resolve_len (light_len hl) (light_len hm)) (light_len hn); omega) (by have := resolve_len (light_len hl) (light_len hm); omega) (by have := resolve_len (resolve_len (light_len hl) (light_len hm)) (light_len hn); omega))
  have HX := Lib.hid (fun (hl : lightR x = true) (hm : lightR a = true) v W h => hHas (resolveR x a).1 p v W h hp l0 l1 (by have := resolve_len (light_len hl) (light_len hm); omega))
  have HA := Lib.hid (fun (hm : lightR a = true) W h => hHas a p (.agg (resC a.inh (.slice aa na ca) (.slice oa ma da))) W h hp l0 l1 (by have := light_len hm; omega))
  have F1 := Lib.hid (fun h => resolve_in okx oka h)
  have F2 := Lib.hid (fun h k => resolve_on okx oka okb h k)
  have F3 := Lib.hid (fun h (k : hasR (resolveR x a).1 p = true) => has_goes (resolve_in okx oka h).1 oka hp (resolve_in okx oka h).2.1 k)
  have SP := Lib.hid (Tryz.sizeP (v := p.v) (L := p.l) hp.1)
  generalize hw2 : (((w.alloc (.cells (resC x.inh (.slice ax nx cx) (.slice ox mx dx)) 25)).alloc (.cells (resC2 a.inh (.slice aa na ca) (.slice oa ma da) b.inh (.slice ab nb cb) (.slice ob mb db)) 47)).alloc (.cells (pcells p.v p.a p.l) 43)) = w2 at *
  obtain ⟨g, hg⟩ : ∃ g, w.heap.size = g := ⟨_, rfl⟩
  rw [hg] at K0 K1 K2
  clear hx0 sx rx ha hb bw hp l0 l1 hUp hRes hHas okx oka okb hf
  generalize lightR x = lx at *
  generalize lightR a = la at *
  generalize lightR b = lb at *
  generalize hq1 : resolveR x a = q1 at *
  generalize hq2 : resolveR a b = q2 at *
  generalize hq3 : resolveR q1.1 b = q3 at *
  clear hq1 hq2 hq3
  generalize hasR q1.1 p = h1 at *
  generalize hasR a p = h2 at *
  generalize pcells p.v p.a p.l = PC at *
  have BX := Lib.hid K0
  have B2 := Lib.hid (two_ranges K1)
  have BP := Lib.hid K2
  clear K0 K1 K2
  have GL : Hid (g + 1 < w2.heap.size) := Lib.hid (by have := BP.out.lt; omega)
  go_enter Tryz.func6, Tryz.ntmps6
  go_upto_region 1 with fail
  clear hw2
  cases lx with
  | false =>
    go_wp2_with (first
      | (refine load_res_any (by rfl) (.tmp 3) rfl g rfl BX.out ?_)
      | (refine wpList_load_rowG (by rfl) 43 (.tmp 5) rfl (g + 1 + 1) rfl 43 PC (0, 0) _ BP.out Tryz.underlying43 rfl SP.out ?_)
      | (go_at_call 8
         refine (CU.out _ BW.out).mono ?_
         rintro r v1 ⟨rfl, hb1⟩
         replace BW := Lib.hid (Below.step BW.out hb1)
         replace BX := Lib.hid (BX.out.below hb1 BX.out.lt)
         replace BP := Lib.hid (BP.out.below hb1 BP.out.lt)
         replace AX := Lib.hid (AX.out.below hb1)
         replace AA := Lib.hid (AA.out.below hb1)
         replace AB := Lib.hid (AB.out.below hb1)
         have Ra := Lib.hid (range_below B2.out.1 hb1 GL.out)
         have Rb := Lib.hid (range_below B2.out.2 hb1 GL.out)
         have GL2 := Lib.hid (Nat.lt_of_lt_of_le GL.out hb1.size)
         clear CU B2 GL
         clear hb1)
      | (refine load_res_mid rfl (.tmp 21) rfl (g + 1) 0 rfl a.inh (.slice aa na ca) (.slice oa ma da) Ra.out ?_)
      | (with_reducible refine allocRes_at ?_)
      | ((with_reducible refine storeRes_new 8 22 v1 a.inh aa na ca oa ma da ?_ ?_ ?_ ?_); (· rfl); (· rfl); (· rfl)
         have hba0 := boxR_below v1 (.cells (resC a.inh (.slice aa na ca) (.slice oa ma da)) 25)
         replace BW := Lib.hid (Below.step BW.out hba0)
         replace BX := Lib.hid (BX.out.below hba0 BX.out.lt)
         replace BP := Lib.hid (BP.out.below hba0 BP.out.lt)
         replace AX := Lib.hid (AX.out.below hba0)
         replace AA := Lib.hid (AA.out.below hba0)
         replace AB := Lib.hid (AB.out.below hba0)
         have Rb2 := Lib.hid (range_below Rb.out hba0 GL2.out)
         replace Rb := Rb2
         clear Rb2
         have BYa := Lib.hid (resbox v1 a.inh (.slice aa na ca) (.slice oa ma da))
         clear hba0
         generalize v1.alloc (.cells (resC a.inh (.slice aa na ca) (.slice oa ma da)) 25) = v1a at *
         generalize v1.heap.size = gYa at *)
      | (refine load_res_mid rfl (.tmp 23) rfl (g + 1) 3 rfl b.inh (.slice ab nb cb) (.slice ob mb db) Rb.out ?_)
      | (with_reducible refine allocRes_at ?_)
      | ((with_reducible refine storeRes_new 9 24 v1a b.inh ab nb cb ob mb db ?_ ?_ ?_ ?_); (· rfl); (· rfl); (· rfl)
         have hbb0 := boxR_below v1a (.cells (resC b.inh (.slice ab nb cb) (.slice ob mb db)) 25)
         replace BW := Lib.hid (Below.step BW.out hbb0)
         replace BX := Lib.hid (BX.out.below hbb0 BX.out.lt)
         replace BP := Lib.hid (BP.out.below hbb0 BP.out.lt)
         replace BYa := Lib.hid (BYa.out.below hbb0 BYa.out.lt)
         replace AX := Lib.hid (AX.out.below hbb0)
         replace AA := Lib.hid (AA.out.below hbb0)
         replace AB := Lib.hid (AB.out.below hbb0)
         have BYb := Lib.hid (resbox v1a b.inh (.slice ab nb cb) (.slice ob mb db))
         clear hbb0
         generalize v1a.alloc (.cells (resC b.inh (.slice ab nb cb) (.slice ob mb db)) 25) = v1ab at *
         generalize v1a.heap.size = gYb at *)
      | (go_at_call 9
         refine (LX.out _ AX.out).mono ?_
         rintro r v2 ⟨rfl, hb2⟩
         replace BW := Lib.hid (Below.step BW.out hb2)
         replace BX := Lib.hid (BX.out.below hb2 BX.out.lt)
         replace BP := Lib.hid (BP.out.below hb2 BP.out.lt)
         replace BYa := Lib.hid (BYa.out.below hb2 BYa.out.lt)
         replace BYb := Lib.hid (BYb.out.below hb2 BYb.out.lt)
         replace AX := Lib.hid (AX.out.below hb2)
         replace AA := Lib.hid (AA.out.below hb2)
         replace AB := Lib.hid (AB.out.below hb2)
         clear LX
         clear hb2)
      | (refine load_res_any (by rfl) (.tmp 8) rfl gYa rfl BYa.out ?_)
      | (go_at_call 9
         refine (LA.out _ AA.out).mono ?_
         rintro r v3 ⟨rfl, hb3⟩
         replace BW := Lib.hid (Below.step BW.out hb3)
         replace BX := Lib.hid (BX.out.below hb3 BX.out.lt)
         replace BP := Lib.hid (BP.out.below hb3 BP.out.lt)
         replace BYa := Lib.hid (BYa.out.below hb3 BYa.out.lt)
         replace BYb := Lib.hid (BYb.out.below hb3 BYb.out.lt)
         replace AX := Lib.hid (AX.out.below hb3)
         replace AA := Lib.hid (AA.out.below hb3)
         replace AB := Lib.hid (AB.out.below hb3)
         clear LA
         clear hb3)
      | (refine load_res_any (by rfl) (.tmp 9) rfl gYb rfl BYb.out ?_)
      | (go_at_call 9
         refine (LB.out _ AB.out).mono ?_
         rintro r v4 ⟨rfl, hb4⟩
         replace BW := Lib.hid (Below.step BW.out hb4)
         replace BX := Lib.hid (BX.out.below hb4 BX.out.lt)
         replace BP := Lib.hid (BP.out.below hb4 BP.out.lt)
         replace BYa := Lib.hid (BYa.out.below hb4 BYa.out.lt)
         replace BYb := Lib.hid (BYb.out.below hb4 BYb.out.lt)
         replace AX := Lib.hid (AX.out.below hb4)
         replace AA := Lib.hid (AA.out.below hb4)
         replace AB := Lib.hid (AB.out.below hb4)
         clear LB
         clear hb4))
    go_ret
    exact ⟨rfl, BW.out⟩
  | true =>
    cases la with
    | false =>
      go_wp2_with (first
        | (refine load_res_any (by rfl) (.tmp 3) rfl g rfl BX.out ?_)
        | (refine wpList_load_rowG (by rfl) 43 (.tmp 5) rfl (g + 1 + 1) rfl 43 PC (0, 0) _ BP.out Tryz.underlying43 rfl SP.out ?_)
        | (go_at_call 8
           refine (CU.out _ BW.out).mono ?_
           rintro r v1 ⟨rfl, hb1⟩
           replace BW := Lib.hid (Below.step BW.out hb1)
           replace BX := Lib.hid (BX.out.below hb1 BX.out.lt)
           replace BP := Lib.hid (BP.out.below hb1 BP.out.lt)
           replace AX := Lib.hid (AX.out.below hb1)
           replace AA := Lib.hid (AA.out.below hb1)
           replace AB := Lib.hid (AB.out.below hb1)
           have Ra := Lib.hid (range_below B2.out.1 hb1 GL.out)
           have Rb := Lib.hid (range_below B2.out.2 hb1 GL.out)
           have GL2 := Lib.hid (Nat.lt_of_lt_of_le GL.out hb1.size)
           clear CU B2 GL
           clear hb1)
        | (refine load_res_mid rfl (.tmp 21) rfl (g + 1) 0 rfl a.inh (.slice aa na ca) (.slice oa ma da) Ra.out ?_)
        | (with_reducible refine allocRes_at ?_)
        | ((with_reducible refine storeRes_new 8 22 v1 a.inh aa na ca oa ma da ?_ ?_ ?_ ?_); (· rfl); (· rfl); (· rfl)
           have hba0 := boxR_below v1 (.cells (resC a.inh (.slice aa na ca) (.slice oa ma da)) 25)
           replace BW := Lib.hid (Below.step BW.out hba0)
           replace BX := Lib.hid (BX.out.below hba0 BX.out.lt)
           replace BP := Lib.hid (BP.out.below hba0 BP.out.lt)
           replace AX := Lib.hid (AX.out.below hba0)
           replace AA := Lib.hid (AA.out.below hba0)
           replace AB := Lib.hid (AB.out.below hba0)
           have Rb2 := Lib.hid (range_below Rb.out hba0 GL2.out)
           replace Rb := Rb2
           clear Rb2
           have BYa := Lib.hid (resbox v1 a.inh (.slice aa na ca) (.slice oa ma da))
           clear hba0
           generalize v1.alloc (.cells (resC a.inh (.slice aa na ca) (.slice oa ma da)) 25) = v1a at *
           generalize v1.heap.size = gYa at *)
        | (refine load_res_mid rfl (.tmp 23) rfl (g + 1) 3 rfl b.inh (.slice ab nb cb) (.slice ob mb db) Rb.out ?_)
        | (with_reducible refine allocRes_at ?_)
        | ((with_reducible refine storeRes_new 9 24 v1a b.inh ab nb cb ob mb db ?_ ?_ ?_ ?_); (· rfl); (· rfl); (· rfl)
           have hbb0 := boxR_below v1a (.cells (resC b.inh (.slice ab nb cb) (.slice ob mb db)) 25)
           replace BW := Lib.hid (Below.step BW.out hbb0)
           replace BX := Lib.hid (BX.out.below hbb0 BX.out.lt)
           replace BP := Lib.hid (BP.out.below hbb0 BP.out.lt)
           replace BYa := Lib.hid (BYa.out.below hbb0 BYa.out.lt)
           replace AX := Lib.hid (AX.out.below hbb0)
           replace AA := Lib.hid (AA.out.below hbb0)
           replace AB := Lib.hid (AB.out.below hbb0)
           have BYb := Lib.hid (resbox v1a b.inh (.slice ab nb cb) (.slice ob mb db))
           clear hbb0
           generalize v1a.alloc (.cells (resC b.inh (.slice ab nb cb) (.slice ob mb db)) 25) = v1ab at *
           generalize v1a.heap.size = gYb at *)
        | (go_at_call 9
           refine (LX.out _ AX.out).mono ?_
           rintro r v2 ⟨rfl, hb2⟩
           replace BW := Lib.hid (Below.step BW.out hb2)
           replace BX := Lib.hid (BX.out.below hb2 BX.out.lt)
           replace BP := Lib.hid (BP.out.below hb2 BP.out.lt)
           replace BYa := Lib.hid (BYa.out.below hb2 BYa.out.lt)
           replace BYb := Lib.hid (BYb.out.below hb2 BYb.out.lt)
           replace AX := Lib.hid (AX.out.below hb2)
           replace AA := Lib.hid (AA.out.below hb2)
           replace AB := Lib.hid (AB.out.below hb2)
           clear LX
           clear hb2)
        | (refine load_res_any (by rfl) (.tmp 8) rfl gYa rfl BYa.out ?_)
        | (go_at_call 9
           refine (LA.out _ AA.out).mono ?_
           rintro r v3 ⟨rfl, hb3⟩
           replace BW := Lib.hid (Below.step BW.out hb3)
           replace BX := Lib.hid (BX.out.below hb3 BX.out.lt)
           replace BP := Lib.hid (BP.out.below hb3 BP.out.lt)
           replace BYa := Lib.hid (BYa.out.below hb3 BYa.out.lt)
           replace BYb := Lib.hid (BYb.out.below hb3 BYb.out.lt)
           replace AX := Lib.hid (AX.out.below hb3)
           replace AA := Lib.hid (AA.out.below hb3)
           replace AB := Lib.hid (AB.out.below hb3)
           clear LA
           clear hb3)
        | (refine load_res_any (by rfl) (.tmp 9) rfl gYb rfl BYb.out ?_)
        | (go_at_call 9
           refine (LB.out _ AB.out).mono ?_
           rintro r v4 ⟨rfl, hb4⟩
           replace BW := Lib.hid (Below.step BW.out hb4)
           replace BX := Lib.hid (BX.out.below hb4 BX.out.lt)
           replace BP := Lib.hid (BP.out.below hb4 BP.out.lt)
           replace BYa := Lib.hid (BYa.out.below hb4 BYa.out.lt)
           replace BYb := Lib.hid (BYb.out.below hb4 BYb.out.lt)
           replace AX := Lib.hid (AX.out.below hb4)
           replace AA := Lib.hid (AA.out.below hb4)
           replace AB := Lib.hid (AB.out.below hb4)
           clear LB
           clear hb4))
      go_ret
      exact ⟨rfl, BW.out⟩
    | true =>
      cases lb with
      | false =>
        go_wp2_with (first
          | (refine load_res_any (by rfl) (.tmp 3) rfl g rfl BX.out ?_)
          | (refine wpList_load_rowG (by rfl) 43 (.tmp 5) rfl (g + 1 + 1) rfl 43 PC (0, 0) _ BP.out Tryz.underlying43 rfl SP.out ?_)
          | (go_at_call 8
             refine (CU.out _ BW.out).mono ?_
             rintro r v1 ⟨rfl, hb1⟩
             replace BW := Lib.hid (Below.step BW.out hb1)
             replace BX := Lib.hid (BX.out.below hb1 BX.out.lt)
             replace BP := Lib.hid (BP.out.below hb1 BP.out.lt)
             replace AX := Lib.hid (AX.out.below hb1)
             replace AA := Lib.hid (AA.out.below hb1)
             replace AB := Lib.hid (AB.out.below hb1)
             have Ra := Lib.hid (range_below B2.out.1 hb1 GL.out)
             have Rb := Lib.hid (range_below B2.out.2 hb1 GL.out)
             have GL2 := Lib.hid (Nat.lt_of_lt_of_le GL.out hb1.size)
             clear CU B2 GL
             clear hb1)
          | (refine load_res_mid rfl (.tmp 21) rfl (g + 1) 0 rfl a.inh (.slice aa na ca) (.slice oa ma da) Ra.out ?_)
          | (with_reducible refine allocRes_at ?_)
          | ((with_reducible refine storeRes_new 8 22 v1 a.inh aa na ca oa ma da ?_ ?_ ?_ ?_); (· rfl); (· rfl); (· rfl)
             have hba0 := boxR_below v1 (.cells (resC a.inh (.slice aa na ca) (.slice oa ma da)) 25)
             replace BW := Lib.hid (Below.step BW.out hba0)
             replace BX := Lib.hid (BX.out.below hba0 BX.out.lt)
             replace BP := Lib.hid (BP.out.below hba0 BP.out.lt)
             replace AX := Lib.hid (AX.out.below hba0)
             replace AA := Lib.hid (AA.out.below hba0)
             replace AB := Lib.hid (AB.out.below hba0)
             have Rb2 := Lib.hid (range_below Rb.out hba0 GL2.out)
             replace Rb := Rb2
             clear Rb2
             have BYa := Lib.hid (resbox v1 a.inh (.slice aa na ca) (.slice oa ma da))
             clear hba0
             generalize v1.alloc (.cells (resC a.inh (.slice aa na ca) (.slice oa ma da)) 25) = v1a at *
             generalize v1.heap.size = gYa at *)
          | (refine load_res_mid rfl (.tmp 23) rfl (g + 1) 3 rfl b.inh (.slice ab nb cb) (.slice ob mb db) Rb.out ?_)
          | (with_reducible refine allocRes_at ?_)
          | ((with_reducible refine storeRes_new 9 24 v1a b.inh ab nb cb ob mb db ?_ ?_ ?_ ?_); (· rfl); (· rfl); (· rfl)
             have hbb0 := boxR_below v1a (.cells (resC b.inh (.slice ab nb cb) (.slice ob mb db)) 25)
             replace BW := Lib.hid (Below.step BW.out hbb0)
             replace BX := Lib.hid (BX.out.below hbb0 BX.out.lt)
             replace BP := Lib.hid (BP.out.below hbb0 BP.out.lt)
             replace BYa := Lib.hid (BYa.out.below hbb0 BYa.out.lt)
             replace AX := Lib.hid (AX.out.below hbb0)
             replace AA := Lib.hid (AA.out.below hbb0)
             replace AB := Lib.hid (AB.out.below hbb0)
             have BYb := Lib.hid (resbox v1a b.inh (.slice ab nb cb) (.slice ob mb db))
             clear hbb0
             generalize v1a.alloc (.cells (resC b.inh (.slice ab nb cb) (.slice ob mb db)) 25) = v1ab at *
             generalize v1a.heap.size = gYb at *)
          | (go_at_call 9
             refine (LX.out _ AX.out).mono ?_
             rintro r v2 ⟨rfl, hb2⟩
             replace BW := Lib.hid (Below.step BW.out hb2)
             replace BX := Lib.hid (BX.out.below hb2 BX.out.lt)
             replace BP := Lib.hid (BP.out.below hb2 BP.out.lt)
             replace BYa := Lib.hid (BYa.out.below hb2 BYa.out.lt)
             replace BYb := Lib.hid (BYb.out.below hb2 BYb.out.lt)
             replace AX := Lib.hid (AX.out.below hb2)
             replace AA := Lib.hid (AA.out.below hb2)
             replace AB := Lib.hid (AB.out.below hb2)
             clear LX
             clear hb2)
          | (refine load_res_any (by rfl) (.tmp 8) rfl gYa rfl BYa.out ?_)
          | (go_at_call 9
             refine (LA.out _ AA.out).mono ?_
             rintro r v3 ⟨rfl, hb3⟩
             replace BW := Lib.hid (Below.step BW.out hb3)
             replace BX := Lib.hid (BX.out.below hb3 BX.out.lt)
             replace BP := Lib.hid (BP.out.below hb3 BP.out.lt)
             replace BYa := Lib.hid (BYa.out.below hb3 BYa.out.lt)
             replace BYb := Lib.hid (BYb.out.below hb3 BYb.out.lt)
             replace AX := Lib.hid (AX.out.below hb3)
             replace AA := Lib.hid (AA.out.below hb3)
             replace AB := Lib.hid (AB.out.below hb3)
             clear LA
             clear hb3)
          | (refine load_res_any (by rfl) (.tmp 9) rfl gYb rfl BYb.out ?_)
          | (go_at_call 9
             refine (LB.out _ AB.out).mono ?_
             rintro r v4 ⟨rfl, hb4⟩
             replace BW := Lib.hid (Below.step BW.out hb4)
             replace BX := Lib.hid (BX.out.below hb4 BX.out.lt)
             replace BP := Lib.hid (BP.out.below hb4 BP.out.lt)
             replace BYa := Lib.hid (BYa.out.below hb4 BYa.out.lt)
             replace BYb := Lib.hid (BYb.out.below hb4 BYb.out.lt)
             replace AX := Lib.hid (AX.out.below hb4)
             replace AA := Lib.hid (AA.out.below hb4)
             replace AB := Lib.hid (AB.out.below hb4)
             clear LB
             clear hb4))
        go_ret
        exact ⟨rfl, BW.out⟩
      | true =>
        replace P1 := Lib.hid (P1.out rfl rfl)
        replace P2 := Lib.hid (P2.out rfl rfl)
        replace P3 := Lib.hid (P3.out rfl rfl rfl)
        replace SM := Lib.hid (SM.out rfl rfl rfl)
        replace HX := Lib.hid (HX.out rfl rfl)
        replace HA := Lib.hid (HA.out rfl)
        by_cases e1 : q1.2 = 0
        · have t1 : (q1.2 != 0) = false := by simp [e1]
          have I1 := Lib.hid (F1.out e1).2.2.2.1
          have F4 := Lib.hid (fun k => F2.out e1 k)
          have F5 := Lib.hid (fun k => F3.out e1 k)
          clear F1 F2 F3 e1
          by_cases e2 : q2.2 = 0
          · have t2 : (q2.2 != 0) = false := by simp [e2]
            obtain ⟨f6, f7⟩ := F4.out e2
            have t3 : (q3.2 == 0) = true := by rw [f6]; rfl
            have I2 := Lib.hid f7
            have ES : Hid (eqRes q3.1 q1.1 = true) := Lib.hid (by rw [f6]; exact eqRes_self _)
            rw [ES.out] at SM
            clear f6 f7 ES F4 e2
            cases h1 with
            | false =>
              clear F5 HA
              go_wp2_with (first
                | (refine load_res_any (by rfl) (.tmp 3) rfl g rfl BX.out ?_)
                | (refine wpList_load_rowG (by rfl) 43 (.tmp 5) rfl (g + 1 + 1) rfl 43 PC (0, 0) _ BP.out Tryz.underlying43 rfl SP.out ?_)
                | (go_at_call 8
                   refine (CU.out _ BW.out).mono ?_
                   rintro r v1 ⟨rfl, hb1⟩
                   replace BW := Lib.hid (Below.step BW.out hb1)
                   replace BX := Lib.hid (BX.out.below hb1 BX.out.lt)
                   replace BP := Lib.hid (BP.out.below hb1 BP.out.lt)
                   replace AX := Lib.hid (AX.out.below hb1)
                   replace AA := Lib.hid (AA.out.below hb1)
                   replace AB := Lib.hid (AB.out.below hb1)
                   have Ra := Lib.hid (range_below B2.out.1 hb1 GL.out)
                   have Rb := Lib.hid (range_below B2.out.2 hb1 GL.out)
                   have GL2 := Lib.hid (Nat.lt_of_lt_of_le GL.out hb1.size)
                   clear CU B2 GL
                   clear hb1)
                | (refine load_res_mid rfl (.tmp 21) rfl (g + 1) 0 rfl a.inh (.slice aa na ca) (.slice oa ma da) Ra.out ?_)
                | (with_reducible refine allocRes_at ?_)
                | ((with_reducible refine storeRes_new 8 22 v1 a.inh aa na ca oa ma da ?_ ?_ ?_ ?_); (· rfl); (· rfl); (· rfl)
                   have hba0 := boxR_below v1 (.cells (resC a.inh (.slice aa na ca) (.slice oa ma da)) 25)
                   replace BW := Lib.hid (Below.step BW.out hba0)
                   replace BX := Lib.hid (BX.out.below hba0 BX.out.lt)
                   replace BP := Lib.hid (BP.out.below hba0 BP.out.lt)
                   replace AX := Lib.hid (AX.out.below hba0)
                   replace AA := Lib.hid (AA.out.below hba0)
                   replace AB := Lib.hid (AB.out.below hba0)
                   have Rb2 := Lib.hid (range_below Rb.out hba0 GL2.out)
                   replace Rb := Rb2
                   clear Rb2
                   have BYa := Lib.hid (resbox v1 a.inh (.slice aa na ca) (.slice oa ma da))
                   clear hba0
                   generalize v1.alloc (.cells (resC a.inh (.slice aa na ca) (.slice oa ma da)) 25) = v1a at *
                   generalize v1.heap.size = gYa at *)
                | (refine load_res_mid rfl (.tmp 23) rfl (g + 1) 3 rfl b.inh (.slice ab nb cb) (.slice ob mb db) Rb.out ?_)
                | (with_reducible refine allocRes_at ?_)
                | ((with_reducible refine storeRes_new 9 24 v1a b.inh ab nb cb ob mb db ?_ ?_ ?_ ?_); (· rfl); (· rfl); (· rfl)
                   have hbb0 := boxR_below v1a (.cells (resC b.inh (.slice ab nb cb) (.slice ob mb db)) 25)
                   replace BW := Lib.hid (Below.step BW.out hbb0)
                   replace BX := Lib.hid (BX.out.below hbb0 BX.out.lt)
                   replace BP := Lib.hid (BP.out.below hbb0 BP.out.lt)
                   replace BYa := Lib.hid (BYa.out.below hbb0 BYa.out.lt)
                   replace AX := Lib.hid (AX.out.below hbb0)
                   replace AA := Lib.hid (AA.out.below hbb0)
                   replace AB := Lib.hid (AB.out.below hbb0)
                   have BYb := Lib.hid (resbox v1a b.inh (.slice ab nb cb) (.slice ob mb db))
                   clear hbb0
                   generalize v1a.alloc (.cells (resC b.inh (.slice ab nb cb) (.slice ob mb db)) 25) = v1ab at *
                   generalize v1a.heap.size = gYb at *)
                | (go_at_call 9
                   refine (LX.out _ AX.out).mono ?_
                   rintro r v2 ⟨rfl, hb2⟩
                   replace BW := Lib.hid (Below.step BW.out hb2)
                   replace BX := Lib.hid (BX.out.below hb2 BX.out.lt)
                   replace BP := Lib.hid (BP.out.below hb2 BP.out.lt)
                   replace BYa := Lib.hid (BYa.out.below hb2 BYa.out.lt)
                   replace BYb := Lib.hid (BYb.out.below hb2 BYb.out.lt)
                   replace AX := Lib.hid (AX.out.below hb2)
                   replace AA := Lib.hid (AA.out.below hb2)
                   replace AB := Lib.hid (AB.out.below hb2)
                   clear LX
                   clear hb2)
                | (refine load_res_any (by rfl) (.tmp 8) rfl gYa rfl BYa.out ?_)
                | (go_at_call 9
                   refine (LA.out _ AA.out).mono ?_
                   rintro r v3 ⟨rfl, hb3⟩
                   replace BW := Lib.hid (Below.step BW.out hb3)
                   replace BX := Lib.hid (BX.out.below hb3 BX.out.lt)
                   replace BP := Lib.hid (BP.out.below hb3 BP.out.lt)
                   replace BYa := Lib.hid (BYa.out.below hb3 BYa.out.lt)
                   replace BYb := Lib.hid (BYb.out.below hb3 BYb.out.lt)
                   replace AX := Lib.hid (AX.out.below hb3)
                   replace AA := Lib.hid (AA.out.below hb3)
                   replace AB := Lib.hid (AB.out.below hb3)
                   clear LA
                   clear hb3)
                | (refine load_res_any (by rfl) (.tmp 9) rfl gYb rfl BYb.out ?_)
                | (go_at_call 9
                   refine (LB.out _ AB.out).mono ?_
                   rintro r v4 ⟨rfl, hb4⟩
                   replace BW := Lib.hid (Below.step BW.out hb4)
                   replace BX := Lib.hid (BX.out.below hb4 BX.out.lt)
                   replace BP := Lib.hid (BP.out.below hb4 BP.out.lt)
                   replace BYa := Lib.hid (BYa.out.below hb4 BYa.out.lt)
                   replace BYb := Lib.hid (BYb.out.below hb4 BYb.out.lt)
                   replace AX := Lib.hid (AX.out.below hb4)
                   replace AA := Lib.hid (AA.out.below hb4)
                   replace AB := Lib.hid (AB.out.below hb4)
                   clear LB
                   clear hb4)
                | (go_at_call 19
                   refine (P1.out _ AX.out AA.out).mono ?_
                   rintro r v5 ⟨u5, rfl, hat5, hb5⟩
                   replace BW := Lib.hid (Below.step BW.out hb5)
                   replace BX := Lib.hid (BX.out.below hb5 BX.out.lt)
                   replace BP := Lib.hid (BP.out.below hb5 BP.out.lt)
                   replace BYa := Lib.hid (BYa.out.below hb5 BYa.out.lt)
                   replace BYb := Lib.hid (BYb.out.below hb5 BYb.out.lt)
                   replace AX := Lib.hid (AX.out.below hb5)
                   replace AA := Lib.hid (AA.out.below hb5)
                   replace AB := Lib.hid (AB.out.below hb5)
                   have Ac := Lib.hid hat5
                   obtain ⟨p5, m5, c5, o5, k5, d5, rfl, _, _⟩ := hat5
                   clear hb5 P1)
                | (with_reducible refine allocRes_at ?_)
                | ((with_reducible refine storeRes_new 13 46 v5 q1.1.inh p5 m5 c5 o5 k5 d5 ?_ ?_ ?_ ?_); (· rfl); (· rfl); (· rfl)
                   have hb5a := boxR_below v5 (.cells (resC q1.1.inh (.slice p5 m5 c5) (.slice o5 k5 d5)) 25)
                   replace BW := Lib.hid (Below.step BW.out hb5a)
                   replace BX := Lib.hid (BX.out.below hb5a BX.out.lt)
                   replace BP := Lib.hid (BP.out.below hb5a BP.out.lt)
                   replace BYa := Lib.hid (BYa.out.below hb5a BYa.out.lt)
                   replace BYb := Lib.hid (BYb.out.below hb5a BYb.out.lt)
                   replace AX := Lib.hid (AX.out.below hb5a)
                   replace AA := Lib.hid (AA.out.below hb5a)
                   replace AB := Lib.hid (AB.out.below hb5a)
                   replace Ac := Lib.hid (Ac.out.below hb5a)
                   have Bc := Lib.hid (resbox v5 q1.1.inh (.slice p5 m5 c5) (.slice o5 k5 d5))
                   clear hb5a
                   generalize v5.alloc (.cells (resC q1.1.inh (.slice p5 m5 c5) (.slice o5 k5 d5)) 25) = v5b at *
                   generalize v5.heap.size = gc at *)
                | (go_at_call 19
                   refine (P2.out _ AA.out AB.out).mono ?_
                   rintro r v6 ⟨u6, rfl, hat6, hb6⟩
                   replace BW := Lib.hid (Below.step BW.out hb6)
                   replace BX := Lib.hid (BX.out.below hb6 BX.out.lt)
                   replace BP := Lib.hid (BP.out.below hb6 BP.out.lt)
                   replace BYa := Lib.hid (BYa.out.below hb6 BYa.out.lt)
                   replace BYb := Lib.hid (BYb.out.below hb6 BYb.out.lt)
                   replace Bc := Lib.hid (Bc.out.below hb6 Bc.out.lt)
                   replace AX := Lib.hid (AX.out.below hb6)
                   replace AA := Lib.hid (AA.out.below hb6)
                   replace AB := Lib.hid (AB.out.below hb6)
                   replace Ac := Lib.hid (Ac.out.below hb6)
                   have Ae := Lib.hid hat6
                   obtain ⟨p6, m6, c6, o6, k6, d6, rfl, _, _⟩ := hat6
                   clear hb6 P2)
                | (with_reducible refine allocRes_at ?_)
                | ((with_reducible refine storeRes_new 15 55 v6 q2.1.inh p6 m6 c6 o6 k6 d6 ?_ ?_ ?_ ?_); (· rfl); (· rfl); (· rfl)
                   have hb6a := boxR_below v6 (.cells (resC q2.1.inh (.slice p6 m6 c6) (.slice o6 k6 d6)) 25)
                   replace BW := Lib.hid (Below.step BW.out hb6a)
                   replace BX := Lib.hid (BX.out.below hb6a BX.out.lt)
                   replace BP := Lib.hid (BP.out.below hb6a BP.out.lt)
                   replace BYa := Lib.hid (BYa.out.below hb6a BYa.out.lt)
                   replace BYb := Lib.hid (BYb.out.below hb6a BYb.out.lt)
                   replace Bc := Lib.hid (Bc.out.below hb6a Bc.out.lt)
                   replace AX := Lib.hid (AX.out.below hb6a)
                   replace AA := Lib.hid (AA.out.below hb6a)
                   replace AB := Lib.hid (AB.out.below hb6a)
                   replace Ac := Lib.hid (Ac.out.below hb6a)
                   replace Ae := Lib.hid (Ae.out.below hb6a)
                   have Be := Lib.hid (resbox v6 q2.1.inh (.slice p6 m6 c6) (.slice o6 k6 d6))
                   clear hb6a
                   generalize v6.alloc (.cells (resC q2.1.inh (.slice p6 m6 c6) (.slice o6 k6 d6)) 25) = v6b at *
                   generalize v6.heap.size = ge at *)
                | (refine load_res_any (by rfl) (.tmp 13) rfl gc rfl Bc.out ?_)
                | (go_at_call 19
                   refine (P3.out _ _ Ac.out AB.out).mono ?_
                   rintro r v7 ⟨u7, rfl, hat7, hb7⟩
                   replace BW := Lib.hid (Below.step BW.out hb7)
                   replace BX := Lib.hid (BX.out.below hb7 BX.out.lt)
                   replace BP := Lib.hid (BP.out.below hb7 BP.out.lt)
                   replace BYa := Lib.hid (BYa.out.below hb7 BYa.out.lt)
                   replace BYb := Lib.hid (BYb.out.below hb7 BYb.out.lt)
                   replace Bc := Lib.hid (Bc.out.below hb7 Bc.out.lt)
                   replace Be := Lib.hid (Be.out.below hb7 Be.out.lt)
                   replace AX := Lib.hid (AX.out.below hb7)
                   replace AA := Lib.hid (AA.out.below hb7)
                   replace AB := Lib.hid (AB.out.below hb7)
                   replace Ac := Lib.hid (Ac.out.below hb7)
                   replace Ae := Lib.hid (Ae.out.below hb7)
                   have Af := Lib.hid hat7
                   obtain ⟨p7, m7, c7, o7, k7, d7, rfl, _, _⟩ := hat7
                   clear hb7 P3)
                | (with_reducible refine allocRes_at ?_)
                | ((with_reducible refine storeRes_new 17 61 v7 q3.1.inh p7 m7 c7 o7 k7 d7 ?_ ?_ ?_ ?_); (· rfl); (· rfl); (· rfl)
                   have hb7a := boxR_below v7 (.cells (resC q3.1.inh (.slice p7 m7 c7) (.slice o7 k7 d7)) 25)
                   replace BW := Lib.hid (Below.step BW.out hb7a)
                   replace BX := Lib.hid (BX.out.below hb7a BX.out.lt)
                   replace BP := Lib.hid (BP.out.below hb7a BP.out.lt)
                   replace BYa := Lib.hid (BYa.out.below hb7a BYa.out.lt)
                   replace BYb := Lib.hid (BYb.out.below hb7a BYb.out.lt)
                   replace Bc := Lib.hid (Bc.out.below hb7a Bc.out.lt)
                   replace Be := Lib.hid (Be.out.below hb7a Be.out.lt)
                   replace AX := Lib.hid (AX.out.below hb7a)
                   replace AA := Lib.hid (AA.out.below hb7a)
                   replace AB := Lib.hid (AB.out.below hb7a)
                   replace Ac := Lib.hid (Ac.out.below hb7a)
                   replace Ae := Lib.hid (Ae.out.below hb7a)
                   replace Af := Lib.hid (Af.out.below hb7a)
                   have Bf := Lib.hid (resbox v7 q3.1.inh (.slice p7 m7 c7) (.slice o7 k7 d7))
                   clear hb7a
                   generalize v7.alloc (.cells (resC q3.1.inh (.slice p7 m7 c7) (.slice o7 k7 d7)) 25) = v7b at *
                   generalize v7.heap.size = gf at *)
                | (refine load_res_any (by rfl) (.tmp 17) rfl gf rfl Bf.out ?_)
                | (go_at_call 16
                   refine (SM.out _ _ _ Af.out Ac.out).mono ?_
                   rintro r v8 ⟨rfl, hb8⟩
                   replace BW := Lib.hid (Below.step BW.out hb8)
                   replace BX := Lib.hid (BX.out.below hb8 BX.out.lt)
                   replace BP := Lib.hid (BP.out.below hb8 BP.out.lt)
                   replace BYa := Lib.hid (BYa.out.below hb8 BYa.out.lt)
                   replace BYb := Lib.hid (BYb.out.below hb8 BYb.out.lt)
                   replace Bc := Lib.hid (Bc.out.below hb8 Bc.out.lt)
                   replace Be := Lib.hid (Be.out.below hb8 Be.out.lt)
                   replace Bf := Lib.hid (Bf.out.below hb8 Bf.out.lt)
                   replace AX := Lib.hid (AX.out.below hb8)
                   replace AA := Lib.hid (AA.out.below hb8)
                   replace AB := Lib.hid (AB.out.below hb8)
                   replace Ac := Lib.hid (Ac.out.below hb8)
                   replace Ae := Lib.hid (Ae.out.below hb8)
                   replace Af := Lib.hid (Af.out.below hb8)
                   clear SM
                   clear hb8)
                | (go_at_call 21
                   refine (HX.out _ _ Ac.out).mono ?_
                   rintro r v9 ⟨rfl, hb9⟩
                   replace BW := Lib.hid (Below.step BW.out hb9)
                   replace BX := Lib.hid (BX.out.below hb9 BX.out.lt)
                   replace BP := Lib.hid (BP.out.below hb9 BP.out.lt)
                   replace BYa := Lib.hid (BYa.out.below hb9 BYa.out.lt)
                   replace BYb := Lib.hid (BYb.out.below hb9 BYb.out.lt)
                   replace Bc := Lib.hid (Bc.out.below hb9 Bc.out.lt)
                   replace Be := Lib.hid (Be.out.below hb9 Be.out.lt)
                   replace Bf := Lib.hid (Bf.out.below hb9 Bf.out.lt)
                   replace AX := Lib.hid (AX.out.below hb9)
                   replace AA := Lib.hid (AA.out.below hb9)
                   replace AB := Lib.hid (AB.out.below hb9)
                   replace Ac := Lib.hid (Ac.out.below hb9)
                   replace Ae := Lib.hid (Ae.out.below hb9)
                   replace Af := Lib.hid (Af.out.below hb9)
                   have z13 : v9.cell? ⟨gc, 0, none⟩ = some (.bool false) := (Blk.cell Bc.out 0).trans (congrArg (fun x => some (Value.bool x)) I1.out)
                   have z15 : v9.cell? ⟨ge, 0, none⟩ = some (.bool false) := (Blk.cell Be.out 0).trans (congrArg (fun x => some (Value.bool x)) I2.out)
                   clear HX
                   clear hb9))
              go_ret
              exact ⟨rfl, BW.out⟩
            | true =>
              have e5 := F5.out rfl
              subst e5
              clear F5
              go_wp2_with (first
                | (refine load_res_any (by rfl) (.tmp 3) rfl g rfl BX.out ?_)
                | (refine wpList_load_rowG (by rfl) 43 (.tmp 5) rfl (g + 1 + 1) rfl 43 PC (0, 0) _ BP.out Tryz.underlying43 rfl SP.out ?_)
                | (go_at_call 8
                   refine (CU.out _ BW.out).mono ?_
                   rintro r v1 ⟨rfl, hb1⟩
                   replace BW := Lib.hid (Below.step BW.out hb1)
                   replace BX := Lib.hid (BX.out.below hb1 BX.out.lt)
                   replace BP := Lib.hid (BP.out.below hb1 BP.out.lt)
                   replace AX := Lib.hid (AX.out.below hb1)
                   replace AA := Lib.hid (AA.out.below hb1)
                   replace AB := Lib.hid (AB.out.below hb1)
                   have Ra := Lib.hid (range_below B2.out.1 hb1 GL.out)
                   have Rb := Lib.hid (range_below B2.out.2 hb1 GL.out)
                   have GL2 := Lib.hid (Nat.lt_of_lt_of_le GL.out hb1.size)
                   clear CU B2 GL
                   clear hb1)
                | (refine load_res_mid rfl (.tmp 21) rfl (g + 1) 0 rfl a.inh (.slice aa na ca) (.slice oa ma da) Ra.out ?_)
                | (with_reducible refine allocRes_at ?_)
                | ((with_reducible refine storeRes_new 8 22 v1 a.inh aa na ca oa ma da ?_ ?_ ?_ ?_); (· rfl); (· rfl); (· rfl)
                   have hba0 := boxR_below v1 (.cells (resC a.inh (.slice aa na ca) (.slice oa ma da)) 25)
                   replace BW := Lib.hid (Below.step BW.out hba0)
                   replace BX := Lib.hid (BX.out.below hba0 BX.out.lt)
                   replace BP := Lib.hid (BP.out.below hba0 BP.out.lt)
                   replace AX := Lib.hid (AX.out.below hba0)
                   replace AA := Lib.hid (AA.out.below hba0)
                   replace AB := Lib.hid (AB.out.below hba0)
                   have Rb2 := Lib.hid (range_below Rb.out hba0 GL2.out)
                   replace Rb := Rb2
                   clear Rb2
                   have BYa := Lib.hid (resbox v1 a.inh (.slice aa na ca) (.slice oa ma da))
                   clear hba0
                   generalize v1.alloc (.cells (resC a.inh (.slice aa na ca) (.slice oa ma da)) 25) = v1a at *
                   generalize v1.heap.size = gYa at *)
                | (refine load_res_mid rfl (.tmp 23) rfl (g + 1) 3 rfl b.inh (.slice ab nb cb) (.slice ob mb db) Rb.out ?_)
                | (with_reducible refine allocRes_at ?_)
                | ((with_reducible refine storeRes_new 9 24 v1a b.inh ab nb cb ob mb db ?_ ?_ ?_ ?_); (· rfl); (· rfl); (· rfl)
                   have hbb0 := boxR_below v1a (.cells (resC b.inh (.slice ab nb cb) (.slice ob mb db)) 25)
                   replace BW := Lib.hid (Below.step BW.out hbb0)
                   replace BX := Lib.hid (BX.out.below hbb0 BX.out.lt)
                   replace BP := Lib.hid (BP.out.below hbb0 BP.out.lt)
                   replace BYa := Lib.hid (BYa.out.below hbb0 BYa.out.lt)
                   replace AX := Lib.hid (AX.out.below hbb0)
                   replace AA := Lib.hid (AA.out.below hbb0)
                   replace AB := Lib.hid (AB.out.below hbb0)
                   have BYb := Lib.hid (resbox v1a b.inh (.slice ab nb cb) (.slice ob mb db))
                   clear hbb0
                   generalize v1a.alloc (.cells (resC b.inh (.slice ab nb cb) (.slice ob mb db)) 25) = v1ab at *
                   generalize v1a.heap.size = gYb at *)
                | (go_at_call 9
                   refine (LX.out _ AX.out).mono ?_
                   rintro r v2 ⟨rfl, hb2⟩
                   replace BW := Lib.hid (Below.step BW.out hb2)
                   replace BX := Lib.hid (BX.out.below hb2 BX.out.lt)
                   replace BP := Lib.hid (BP.out.below hb2 BP.out.lt)
                   replace BYa := Lib.hid (BYa.out.below hb2 BYa.out.lt)
                   replace BYb := Lib.hid (BYb.out.below hb2 BYb.out.lt)
                   replace AX := Lib.hid (AX.out.below hb2)
                   replace AA := Lib.hid (AA.out.below hb2)
                   replace AB := Lib.hid (AB.out.below hb2)
                   clear LX
                   clear hb2)
                | (refine load_res_any (by rfl) (.tmp 8) rfl gYa rfl BYa.out ?_)
                | (go_at_call 9
                   refine (LA.out _ AA.out).mono ?_
                   rintro r v3 ⟨rfl, hb3⟩
                   replace BW := Lib.hid (Below.step BW.out hb3)
                   replace BX := Lib.hid (BX.out.below hb3 BX.out.lt)
                   replace BP := Lib.hid (BP.out.below hb3 BP.out.lt)
                   replace BYa := Lib.hid (BYa.out.below hb3 BYa.out.lt)
                   replace BYb := Lib.hid (BYb.out.below hb3 BYb.out.lt)
                   replace AX := Lib.hid (AX.out.below hb3)
                   replace AA := Lib.hid (AA.out.below hb3)
                   replace AB := Lib.hid (AB.out.below hb3)
                   clear LA
                   clear hb3)
                | (refine load_res_any (by rfl) (.tmp 9) rfl gYb rfl BYb.out ?_)
                | (go_at_call 9
                   refine (LB.out _ AB.out).mono ?_
                   rintro r v4 ⟨rfl, hb4⟩
                   replace BW := Lib.hid (Below.step BW.out hb4)
                   replace BX := Lib.hid (BX.out.below hb4 BX.out.lt)
                   replace BP := Lib.hid (BP.out.below hb4 BP.out.lt)
                   replace BYa := Lib.hid (BYa.out.below hb4 BYa.out.lt)
                   replace BYb := Lib.hid (BYb.out.below hb4 BYb.out.lt)
                   replace AX := Lib.hid (AX.out.below hb4)
                   replace AA := Lib.hid (AA.out.below hb4)
                   replace AB := Lib.hid (AB.out.below hb4)
                   clear LB
                   clear hb4)
                | (go_at_call 19
                   refine (P1.out _ AX.out AA.out).mono ?_
                   rintro r v5 ⟨u5, rfl, hat5, hb5⟩
                   replace BW := Lib.hid (Below.step BW.out hb5)
                   replace BX := Lib.hid (BX.out.below hb5 BX.out.lt)
                   replace BP := Lib.hid (BP.out.below hb5 BP.out.lt)
                   replace BYa := Lib.hid (BYa.out.below hb5 BYa.out.lt)
                   replace BYb := Lib.hid (BYb.out.below hb5 BYb.out.lt)
                   replace AX := Lib.hid (AX.out.below hb5)
                   replace AA := Lib.hid (AA.out.below hb5)
                   replace AB := Lib.hid (AB.out.below hb5)
                   have Ac := Lib.hid hat5
                   obtain ⟨p5, m5, c5, o5, k5, d5, rfl, _, _⟩ := hat5
                   clear hb5 P1)
                | (with_reducible refine allocRes_at ?_)
                | ((with_reducible refine storeRes_new 13 46 v5 q1.1.inh p5 m5 c5 o5 k5 d5 ?_ ?_ ?_ ?_); (· rfl); (· rfl); (· rfl)
                   have hb5a := boxR_below v5 (.cells (resC q1.1.inh (.slice p5 m5 c5) (.slice o5 k5 d5)) 25)
                   replace BW := Lib.hid (Below.step BW.out hb5a)
                   replace BX := Lib.hid (BX.out.below hb5a BX.out.lt)
                   replace BP := Lib.hid (BP.out.below hb5a BP.out.lt)
                   replace BYa := Lib.hid (BYa.out.below hb5a BYa.out.lt)
                   replace BYb := Lib.hid (BYb.out.below hb5a BYb.out.lt)
                   replace AX := Lib.hid (AX.out.below hb5a)
                   replace AA := Lib.hid (AA.out.below hb5a)
                   replace AB := Lib.hid (AB.out.below hb5a)
                   replace Ac := Lib.hid (Ac.out.below hb5a)
                   have Bc := Lib.hid (resbox v5 q1.1.inh (.slice p5 m5 c5) (.slice o5 k5 d5))
                   clear hb5a
                   generalize v5.alloc (.cells (resC q1.1.inh (.slice p5 m5 c5) (.slice o5 k5 d5)) 25) = v5b at *
                   generalize v5.heap.size = gc at *)
                | (go_at_call 19
                   refine (P2.out _ AA.out AB.out).mono ?_
                   rintro r v6 ⟨u6, rfl, hat6, hb6⟩
                   replace BW := Lib.hid (Below.step BW.out hb6)
                   replace BX := Lib.hid (BX.out.below hb6 BX.out.lt)
                   replace BP := Lib.hid (BP.out.below hb6 BP.out.lt)
                   replace BYa := Lib.hid (BYa.out.below hb6 BYa.out.lt)
                   replace BYb := Lib.hid (BYb.out.below hb6 BYb.out.lt)
                   replace Bc := Lib.hid (Bc.out.below hb6 Bc.out.lt)
                   replace AX := Lib.hid (AX.out.below hb6)
                   replace AA := Lib.hid (AA.out.below hb6)
                   replace AB := Lib.hid (AB.out.below hb6)
                   replace Ac := Lib.hid (Ac.out.below hb6)
                   have Ae := Lib.hid hat6
                   obtain ⟨p6, m6, c6, o6, k6, d6, rfl, _, _⟩ := hat6
                   clear hb6 P2)
                | (with_reducible refine allocRes_at ?_)
                | ((with_reducible refine storeRes_new 15 55 v6 q2.1.inh p6 m6 c6 o6 k6 d6 ?_ ?_ ?_ ?_); (· rfl); (· rfl); (· rfl)
                   have hb6a := boxR_below v6 (.cells (resC q2.1.inh (.slice p6 m6 c6) (.slice o6 k6 d6)) 25)
                   replace BW := Lib.hid (Below.step BW.out hb6a)
                   replace BX := Lib.hid (BX.out.below hb6a BX.out.lt)
                   replace BP := Lib.hid (BP.out.below hb6a BP.out.lt)
                   replace BYa := Lib.hid (BYa.out.below hb6a BYa.out.lt)
                   replace BYb := Lib.hid (BYb.out.below hb6a BYb.out.lt)
                   replace Bc := Lib.hid (Bc.out.below hb6a Bc.out.lt)
                   replace AX := Lib.hid (AX.out.below hb6a)
                   replace AA := Lib.hid (AA.out.below hb6a)
                   replace AB := Lib.hid (AB.out.below hb6a)
                   replace Ac := Lib.hid (Ac.out.below hb6a)
                   replace Ae := Lib.hid (Ae.out.below hb6a)
                   have Be := Lib.hid (resbox v6 q2.1.inh (.slice p6 m6 c6) (.slice o6 k6 d6))
                   clear hb6a
                   generalize v6.alloc (.cells (resC q2.1.inh (.slice p6 m6 c6) (.slice o6 k6 d6)) 25) = v6b at *
                   generalize v6.heap.size = ge at *)
                | (refine load_res_any (by rfl) (.tmp 13) rfl gc rfl Bc.out ?_)
                | (go_at_call 19
                   refine (P3.out _ _ Ac.out AB.out).mono ?_
                   rintro r v7 ⟨u7, rfl, hat7, hb7⟩
                   replace BW := Lib.hid (Below.step BW.out hb7)
                   replace BX := Lib.hid (BX.out.below hb7 BX.out.lt)
                   replace BP := Lib.hid (BP.out.below hb7 BP.out.lt)
                   replace BYa := Lib.hid (BYa.out.below hb7 BYa.out.lt)
                   replace BYb := Lib.hid (BYb.out.below hb7 BYb.out.lt)
                   replace Bc := Lib.hid (Bc.out.below hb7 Bc.out.lt)
                   replace Be := Lib.hid (Be.out.below hb7 Be.out.lt)
                   replace AX := Lib.hid (AX.out.below hb7)
                   replace AA := Lib.hid (AA.out.below hb7)
                   replace AB := Lib.hid (AB.out.below hb7)
                   replace Ac := Lib.hid (Ac.out.below hb7)
                   replace Ae := Lib.hid (Ae.out.below hb7)
                   have Af := Lib.hid hat7
                   obtain ⟨p7, m7, c7, o7, k7, d7, rfl, _, _⟩ := hat7
                   clear hb7 P3)
                | (with_reducible refine allocRes_at ?_)
                | ((with_reducible refine storeRes_new 17 61 v7 q3.1.inh p7 m7 c7 o7 k7 d7 ?_ ?_ ?_ ?_); (· rfl); (· rfl); (· rfl)
                   have hb7a := boxR_below v7 (.cells (resC q3.1.inh (.slice p7 m7 c7) (.slice o7 k7 d7)) 25)
                   replace BW := Lib.hid (Below.step BW.out hb7a)
                   replace BX := Lib.hid (BX.out.below hb7a BX.out.lt)
                   replace BP := Lib.hid (BP.out.below hb7a BP.out.lt)
                   replace BYa := Lib.hid (BYa.out.below hb7a BYa.out.lt)
                   replace BYb := Lib.hid (BYb.out.below hb7a BYb.out.lt)
                   replace Bc := Lib.hid (Bc.out.below hb7a Bc.out.lt)
                   replace Be := Lib.hid (Be.out.below hb7a Be.out.lt)
                   replace AX := Lib.hid (AX.out.below hb7a)
                   replace AA := Lib.hid (AA.out.below hb7a)
                   replace AB := Lib.hid (AB.out.below hb7a)
                   replace Ac := Lib.hid (Ac.out.below hb7a)
                   replace Ae := Lib.hid (Ae.out.below hb7a)
                   replace Af := Lib.hid (Af.out.below hb7a)
                   have Bf := Lib.hid (resbox v7 q3.1.inh (.slice p7 m7 c7) (.slice o7 k7 d7))
                   clear hb7a
                   generalize v7.alloc (.cells (resC q3.1.inh (.slice p7 m7 c7) (.slice o7 k7 d7)) 25) = v7b at *
                   generalize v7.heap.size = gf at *)
                | (refine load_res_any (by rfl) (.tmp 17) rfl gf rfl Bf.out ?_)
                | (go_at_call 16
                   refine (SM.out _ _ _ Af.out Ac.out).mono ?_
                   rintro r v8 ⟨rfl, hb8⟩
                   replace BW := Lib.hid (Below.step BW.out hb8)
                   replace BX := Lib.hid (BX.out.below hb8 BX.out.lt)
                   replace BP := Lib.hid (BP.out.below hb8 BP.out.lt)
                   replace BYa := Lib.hid (BYa.out.below hb8 BYa.out.lt)
                   replace BYb := Lib.hid (BYb.out.below hb8 BYb.out.lt)
                   replace Bc := Lib.hid (Bc.out.below hb8 Bc.out.lt)
                   replace Be := Lib.hid (Be.out.below hb8 Be.out.lt)
                   replace Bf := Lib.hid (Bf.out.below hb8 Bf.out.lt)
                   replace AX := Lib.hid (AX.out.below hb8)
                   replace AA := Lib.hid (AA.out.below hb8)
                   replace AB := Lib.hid (AB.out.below hb8)
                   replace Ac := Lib.hid (Ac.out.below hb8)
                   replace Ae := Lib.hid (Ae.out.below hb8)
                   replace Af := Lib.hid (Af.out.below hb8)
                   clear SM
                   clear hb8)
                | (go_at_call 21
                   refine (HX.out _ _ Ac.out).mono ?_
                   rintro r v9 ⟨rfl, hb9⟩
                   replace BW := Lib.hid (Below.step BW.out hb9)
                   replace BX := Lib.hid (BX.out.below hb9 BX.out.lt)
                   replace BP := Lib.hid (BP.out.below hb9 BP.out.lt)
                   replace BYa := Lib.hid (BYa.out.below hb9 BYa.out.lt)
                   replace BYb := Lib.hid (BYb.out.below hb9 BYb.out.lt)
                   replace Bc := Lib.hid (Bc.out.below hb9 Bc.out.lt)
                   replace Be := Lib.hid (Be.out.below hb9 Be.out.lt)
                   replace Bf := Lib.hid (Bf.out.below hb9 Bf.out.lt)
                   replace AX := Lib.hid (AX.out.below hb9)
                   replace AA := Lib.hid (AA.out.below hb9)
                   replace AB := Lib.hid (AB.out.below hb9)
                   replace Ac := Lib.hid (Ac.out.below hb9)
                   replace Ae := Lib.hid (Ae.out.below hb9)
                   replace Af := Lib.hid (Af.out.below hb9)
                   clear HX
                   clear hb9)
                | (go_at_call 21
                   refine (HA.out _ AA.out).mono ?_
                   rintro r v10 ⟨rfl, hb10⟩
                   replace BW := Lib.hid (Below.step BW.out hb10)
                   replace BX := Lib.hid (BX.out.below hb10 BX.out.lt)
                   replace BP := Lib.hid (BP.out.below hb10 BP.out.lt)
                   replace BYa := Lib.hid (BYa.out.below hb10 BYa.out.lt)
                   replace BYb := Lib.hid (BYb.out.below hb10 BYb.out.lt)
                   replace Bc := Lib.hid (Bc.out.below hb10 Bc.out.lt)
                   replace Be := Lib.hid (Be.out.below hb10 Be.out.lt)
                   replace Bf := Lib.hid (Bf.out.below hb10 Bf.out.lt)
                   replace AX := Lib.hid (AX.out.below hb10)
                   replace AA := Lib.hid (AA.out.below hb10)
                   replace AB := Lib.hid (AB.out.below hb10)
                   replace Ac := Lib.hid (Ac.out.below hb10)
                   replace Ae := Lib.hid (Ae.out.below hb10)
                   replace Af := Lib.hid (Af.out.below hb10)
                   have z13 : v10.cell? ⟨gc, 0, none⟩ = some (.bool false) := (Blk.cell Bc.out 0).trans (congrArg (fun x => some (Value.bool x)) I1.out)
                   have z15 : v10.cell? ⟨ge, 0, none⟩ = some (.bool false) := (Blk.cell Be.out 0).trans (congrArg (fun x => some (Value.bool x)) I2.out)
                   clear HA
                   clear hb10))
              go_ret
              exact ⟨rfl, BW.out⟩
          · have t2 : (q2.2 != 0) = true := by simpa using e2
            clear F4 e2
            generalize eqRes q3.1 q1.1 = es at *
            cases h1 with
            | false =>
              clear F5 HA
              go_wp2_with (first
                | (refine load_res_any (by rfl) (.tmp 3) rfl g rfl BX.out ?_)
                | (refine wpList_load_rowG (by rfl) 43 (.tmp 5) rfl (g + 1 + 1) rfl 43 PC (0, 0) _ BP.out Tryz.underlying43 rfl SP.out ?_)
                | (go_at_call 8
                   refine (CU.out _ BW.out).mono ?_
                   rintro r v1 ⟨rfl, hb1⟩
                   replace BW := Lib.hid (Below.step BW.out hb1)
                   replace BX := Lib.hid (BX.out.below hb1 BX.out.lt)
                   replace BP := Lib.hid (BP.out.below hb1 BP.out.lt)
                   replace AX := Lib.hid (AX.out.below hb1)
                   replace AA := Lib.hid (AA.out.below hb1)
                   replace AB := Lib.hid (AB.out.below hb1)
                   have Ra := Lib.hid (range_below B2.out.1 hb1 GL.out)
                   have Rb := Lib.hid (range_below B2.out.2 hb1 GL.out)
                   have GL2 := Lib.hid (Nat.lt_of_lt_of_le GL.out hb1.size)
                   clear CU B2 GL
                   clear hb1)
                | (refine load_res_mid rfl (.tmp 21) rfl (g + 1) 0 rfl a.inh (.slice aa na ca) (.slice oa ma da) Ra.out ?_)
                | (with_reducible refine allocRes_at ?_)
                | ((with_reducible refine storeRes_new 8 22 v1 a.inh aa na ca oa ma da ?_ ?_ ?_ ?_); (· rfl); (· rfl); (· rfl)
                   have hba0 := boxR_below v1 (.cells (resC a.inh (.slice aa na ca) (.slice oa ma da)) 25)
                   replace BW := Lib.hid (Below.step BW.out hba0)
                   replace BX := Lib.hid (BX.out.below hba0 BX.out.lt)
                   replace BP := Lib.hid (BP.out.below hba0 BP.out.lt)
                   replace AX := Lib.hid (AX.out.below hba0)
                   replace AA := Lib.hid (AA.out.below hba0)
                   replace AB := Lib.hid (AB.out.below hba0)
                   have Rb2 := Lib.hid (range_below Rb.out hba0 GL2.out)
                   replace Rb := Rb2
                   clear Rb2
                   have BYa := Lib.hid (resbox v1 a.inh (.slice aa na ca) (.slice oa ma da))
                   clear hba0
                   generalize v1.alloc (.cells (resC a.inh (.slice aa na ca) (.slice oa ma da)) 25) = v1a at *
                   generalize v1.heap.size = gYa at *)
                | (refine load_res_mid rfl (.tmp 23) rfl (g + 1) 3 rfl b.inh (.slice ab nb cb) (.slice ob mb db) Rb.out ?_)
                | (with_reducible refine allocRes_at ?_)
                | ((with_reducible refine storeRes_new 9 24 v1a b.inh ab nb cb ob mb db ?_ ?_ ?_ ?_); (· rfl); (· rfl); (· rfl)
                   have hbb0 := boxR_below v1a (.cells (resC b.inh (.slice ab nb cb) (.slice ob mb db)) 25)
                   replace BW := Lib.hid (Below.step BW.out hbb0)
                   replace BX := Lib.hid (BX.out.below hbb0 BX.out.lt)
                   replace BP := Lib.hid (BP.out.below hbb0 BP.out.lt)
                   replace BYa := Lib.hid (BYa.out.below hbb0 BYa.out.lt)
                   replace AX := Lib.hid (AX.out.below hbb0)
                   replace AA := Lib.hid (AA.out.below hbb0)
                   replace AB := Lib.hid (AB.out.below hbb0)
                   have BYb := Lib.hid (resbox v1a b.inh (.slice ab nb cb) (.slice ob mb db))
                   clear hbb0
                   generalize v1a.alloc (.cells (resC b.inh (.slice ab nb cb) (.slice ob mb db)) 25) = v1ab at *
                   generalize v1a.heap.size = gYb at *)
                | (go_at_call 9
                   refine (LX.out _ AX.out).mono ?_
                   rintro r v2 ⟨rfl, hb2⟩
                   replace BW := Lib.hid (Below.step BW.out hb2)
                   replace BX := Lib.hid (BX.out.below hb2 BX.out.lt)
                   replace BP := Lib.hid (BP.out.below hb2 BP.out.lt)
                   replace BYa := Lib.hid (BYa.out.below hb2 BYa.out.lt)
                   replace BYb := Lib.hid (BYb.out.below hb2 BYb.out.lt)
                   replace AX := Lib.hid (AX.out.below hb2)
                   replace AA := Lib.hid (AA.out.below hb2)
                   replace AB := Lib.hid (AB.out.below hb2)
                   clear LX
                   clear hb2)
                | (refine load_res_any (by rfl) (.tmp 8) rfl gYa rfl BYa.out ?_)
                | (go_at_call 9
                   refine (LA.out _ AA.out).mono ?_
                   rintro r v3 ⟨rfl, hb3⟩
                   replace BW := Lib.hid (Below.step BW.out hb3)
                   replace BX := Lib.hid (BX.out.below hb3 BX.out.lt)
                   replace BP := Lib.hid (BP.out.below hb3 BP.out.lt)
                   replace BYa := Lib.hid (BYa.out.below hb3 BYa.out.lt)
                   replace BYb := Lib.hid (BYb.out.below hb3 BYb.out.lt)
                   replace AX := Lib.hid (AX.out.below hb3)
                   replace AA := Lib.hid (AA.out.below hb3)
                   replace AB := Lib.hid (AB.out.below hb3)
                   clear LA
                   clear hb3)
                | (refine load_res_any (by rfl) (.tmp 9) rfl gYb rfl BYb.out ?_)
                | (go_at_call 9
                   refine (LB.out _ AB.out).mono ?_
                   rintro r v4 ⟨rfl, hb4⟩
                   replace BW := Lib.hid (Below.step BW.out hb4)
                   replace BX := Lib.hid (BX.out.below hb4 BX.out.lt)
                   replace BP := Lib.hid (BP.out.below hb4 BP.out.lt)
                   replace BYa := Lib.hid (BYa.out.below hb4 BYa.out.lt)
                   replace BYb := Lib.hid (BYb.out.below hb4 BYb.out.lt)
                   replace AX := Lib.hid (AX.out.below hb4)
                   replace AA := Lib.hid (AA.out.below hb4)
                   replace AB := Lib.hid (AB.out.below hb4)
                   clear LB
                   clear hb4)
                | (go_at_call 19
                   refine (P1.out _ AX.out AA.out).mono ?_
                   rintro r v5 ⟨u5, rfl, hat5, hb5⟩
                   replace BW := Lib.hid (Below.step BW.out hb5)
                   replace BX := Lib.hid (BX.out.below hb5 BX.out.lt)
                   replace BP := Lib.hid (BP.out.below hb5 BP.out.lt)
                   replace BYa := Lib.hid (BYa.out.below hb5 BYa.out.lt)
                   replace BYb := Lib.hid (BYb.out.below hb5 BYb.out.lt)
                   replace AX := Lib.hid (AX.out.below hb5)
                   replace AA := Lib.hid (AA.out.below hb5)
                   replace AB := Lib.hid (AB.out.below hb5)
                   have Ac := Lib.hid hat5
                   obtain ⟨p5, m5, c5, o5, k5, d5, rfl, _, _⟩ := hat5
                   clear hb5 P1)
                | (with_reducible refine allocRes_at ?_)
                | ((with_reducible refine storeRes_new 13 46 v5 q1.1.inh p5 m5 c5 o5 k5 d5 ?_ ?_ ?_ ?_); (· rfl); (· rfl); (· rfl)
                   have hb5a := boxR_below v5 (.cells (resC q1.1.inh (.slice p5 m5 c5) (.slice o5 k5 d5)) 25)
                   replace BW := Lib.hid (Below.step BW.out hb5a)
                   replace BX := Lib.hid (BX.out.below hb5a BX.out.lt)
                   replace BP := Lib.hid (BP.out.below hb5a BP.out.lt)
                   replace BYa := Lib.hid (BYa.out.below hb5a BYa.out.lt)
                   replace BYb := Lib.hid (BYb.out.below hb5a BYb.out.lt)
                   replace AX := Lib.hid (AX.out.below hb5a)
                   replace AA := Lib.hid (AA.out.below hb5a)
                   replace AB := Lib.hid (AB.out.below hb5a)
                   replace Ac := Lib.hid (Ac.out.below hb5a)
                   have Bc := Lib.hid (resbox v5 q1.1.inh (.slice p5 m5 c5) (.slice o5 k5 d5))
                   clear hb5a
                   generalize v5.alloc (.cells (resC q1.1.inh (.slice p5 m5 c5) (.slice o5 k5 d5)) 25) = v5b at *
                   generalize v5.heap.size = gc at *)
                | (go_at_call 19
                   refine (P2.out _ AA.out AB.out).mono ?_
                   rintro r v6 ⟨u6, rfl, hat6, hb6⟩
                   replace BW := Lib.hid (Below.step BW.out hb6)
                   replace BX := Lib.hid (BX.out.below hb6 BX.out.lt)
                   replace BP := Lib.hid (BP.out.below hb6 BP.out.lt)
                   replace BYa := Lib.hid (BYa.out.below hb6 BYa.out.lt)
                   replace BYb := Lib.hid (BYb.out.below hb6 BYb.out.lt)
                   replace Bc := Lib.hid (Bc.out.below hb6 Bc.out.lt)
                   replace AX := Lib.hid (AX.out.below hb6)
                   replace AA := Lib.hid (AA.out.below hb6)
                   replace AB := Lib.hid (AB.out.below hb6)
                   replace Ac := Lib.hid (Ac.out.below hb6)
                   have Ae := Lib.hid hat6
                   obtain ⟨p6, m6, c6, o6, k6, d6, rfl, _, _⟩ := hat6
                   clear hb6 P2)
                | (with_reducible refine allocRes_at ?_)
                | ((with_reducible refine storeRes_new 15 55 v6 q2.1.inh p6 m6 c6 o6 k6 d6 ?_ ?_ ?_ ?_); (· rfl); (· rfl); (· rfl)
                   have hb6a := boxR_below v6 (.cells (resC q2.1.inh (.slice p6 m6 c6) (.slice o6 k6 d6)) 25)
                   replace BW := Lib.hid (Below.step BW.out hb6a)
                   replace BX := Lib.hid (BX.out.below hb6a BX.out.lt)
                   replace BP := Lib.hid (BP.out.below hb6a BP.out.lt)
                   replace BYa := Lib.hid (BYa.out.below hb6a BYa.out.lt)
                   replace BYb := Lib.hid (BYb.out.below hb6a BYb.out.lt)
                   replace Bc := Lib.hid (Bc.out.below hb6a Bc.out.lt)
                   replace AX := Lib.hid (AX.out.below hb6a)
                   replace AA := Lib.hid (AA.out.below hb6a)
                   replace AB := Lib.hid (AB.out.below hb6a)
                   replace Ac := Lib.hid (Ac.out.below hb6a)
                   replace Ae := Lib.hid (Ae.out.below hb6a)
                   have Be := Lib.hid (resbox v6 q2.1.inh (.slice p6 m6 c6) (.slice o6 k6 d6))
                   clear hb6a
                   generalize v6.alloc (.cells (resC q2.1.inh (.slice p6 m6 c6) (.slice o6 k6 d6)) 25) = v6b at *
                   generalize v6.heap.size = ge at *)
                | (refine load_res_any (by rfl) (.tmp 13) rfl gc rfl Bc.out ?_)
                | (go_at_call 19
                   refine (P3.out _ _ Ac.out AB.out).mono ?_
                   rintro r v7 ⟨u7, rfl, hat7, hb7⟩
                   replace BW := Lib.hid (Below.step BW.out hb7)
                   replace BX := Lib.hid (BX.out.below hb7 BX.out.lt)
                   replace BP := Lib.hid (BP.out.below hb7 BP.out.lt)
                   replace BYa := Lib.hid (BYa.out.below hb7 BYa.out.lt)
                   replace BYb := Lib.hid (BYb.out.below hb7 BYb.out.lt)
                   replace Bc := Lib.hid (Bc.out.below hb7 Bc.out.lt)
                   replace Be := Lib.hid (Be.out.below hb7 Be.out.lt)
                   replace AX := Lib.hid (AX.out.below hb7)
                   replace AA := Lib.hid (AA.out.below hb7)
                   replace AB := Lib.hid (AB.out.below hb7)
                   replace Ac := Lib.hid (Ac.out.below hb7)
                   replace Ae := Lib.hid (Ae.out.below hb7)
                   have Af := Lib.hid hat7
                   obtain ⟨p7, m7, c7, o7, k7, d7, rfl, _, _⟩ := hat7
                   clear hb7 P3)
                | (with_reducible refine allocRes_at ?_)
                | ((with_reducible refine storeRes_new 17 61 v7 q3.1.inh p7 m7 c7 o7 k7 d7 ?_ ?_ ?_ ?_); (· rfl); (· rfl); (· rfl)
                   have hb7a := boxR_below v7 (.cells (resC q3.1.inh (.slice p7 m7 c7) (.slice o7 k7 d7)) 25)
                   replace BW := Lib.hid (Below.step BW.out hb7a)
                   replace BX := Lib.hid (BX.out.below hb7a BX.out.lt)
                   replace BP := Lib.hid (BP.out.below hb7a BP.out.lt)
                   replace BYa := Lib.hid (BYa.out.below hb7a BYa.out.lt)
                   replace BYb := Lib.hid (BYb.out.below hb7a BYb.out.lt)
                   replace Bc := Lib.hid (Bc.out.below hb7a Bc.out.lt)
                   replace Be := Lib.hid (Be.out.below hb7a Be.out.lt)
                   replace AX := Lib.hid (AX.out.below hb7a)
                   replace AA := Lib.hid (AA.out.below hb7a)
                   replace AB := Lib.hid (AB.out.below hb7a)
                   replace Ac := Lib.hid (Ac.out.below hb7a)
                   replace Ae := Lib.hid (Ae.out.below hb7a)
                   replace Af := Lib.hid (Af.out.below hb7a)
                   have Bf := Lib.hid (resbox v7 q3.1.inh (.slice p7 m7 c7) (.slice o7 k7 d7))
                   clear hb7a
                   generalize v7.alloc (.cells (resC q3.1.inh (.slice p7 m7 c7) (.slice o7 k7 d7)) 25) = v7b at *
                   generalize v7.heap.size = gf at *)
                | (refine load_res_any (by rfl) (.tmp 17) rfl gf rfl Bf.out ?_)
                | (go_at_call 16
                   refine (SM.out _ _ _ Af.out Ac.out).mono ?_
                   rintro r v8 ⟨rfl, hb8⟩
                   replace BW := Lib.hid (Below.step BW.out hb8)
                   replace BX := Lib.hid (BX.out.below hb8 BX.out.lt)
                   replace BP := Lib.hid (BP.out.below hb8 BP.out.lt)
                   replace BYa := Lib.hid (BYa.out.below hb8 BYa.out.lt)
                   replace BYb := Lib.hid (BYb.out.below hb8 BYb.out.lt)
                   replace Bc := Lib.hid (Bc.out.below hb8 Bc.out.lt)
                   replace Be := Lib.hid (Be.out.below hb8 Be.out.lt)
                   replace Bf := Lib.hid (Bf.out.below hb8 Bf.out.lt)
                   replace AX := Lib.hid (AX.out.below hb8)
                   replace AA := Lib.hid (AA.out.below hb8)
                   replace AB := Lib.hid (AB.out.below hb8)
                   replace Ac := Lib.hid (Ac.out.below hb8)
                   replace Ae := Lib.hid (Ae.out.below hb8)
                   replace Af := Lib.hid (Af.out.below hb8)
                   clear SM
                   clear hb8)
                | (go_at_call 21
                   refine (HX.out _ _ Ac.out).mono ?_
                   rintro r v9 ⟨rfl, hb9⟩
                   replace BW := Lib.hid (Below.step BW.out hb9)
                   replace BX := Lib.hid (BX.out.below hb9 BX.out.lt)
                   replace BP := Lib.hid (BP.out.below hb9 BP.out.lt)
                   replace BYa := Lib.hid (BYa.out.below hb9 BYa.out.lt)
                   replace BYb := Lib.hid (BYb.out.below hb9 BYb.out.lt)
                   replace Bc := Lib.hid (Bc.out.below hb9 Bc.out.lt)
                   replace Be := Lib.hid (Be.out.below hb9 Be.out.lt)
                   replace Bf := Lib.hid (Bf.out.below hb9 Bf.out.lt)
                   replace AX := Lib.hid (AX.out.below hb9)
                   replace AA := Lib.hid (AA.out.below hb9)
                   replace AB := Lib.hid (AB.out.below hb9)
                   replace Ac := Lib.hid (Ac.out.below hb9)
                   replace Ae := Lib.hid (Ae.out.below hb9)
                   replace Af := Lib.hid (Af.out.below hb9)
                   have z13 : v9.cell? ⟨gc, 0, none⟩ = some (.bool false) := (Blk.cell Bc.out 0).trans (congrArg (fun x => some (Value.bool x)) I1.out)
                   clear HX
                   clear hb9))
              go_ret
              exact ⟨rfl, BW.out⟩
            | true =>
              have e5 := F5.out rfl
              subst e5
              clear F5
              go_wp2_with (first
                | (refine load_res_any (by rfl) (.tmp 3) rfl g rfl BX.out ?_)
                | (refine wpList_load_rowG (by rfl) 43 (.tmp 5) rfl (g + 1 + 1) rfl 43 PC (0, 0) _ BP.out Tryz.underlying43 rfl SP.out ?_)
                | (go_at_call 8
                   refine (CU.out _ BW.out).mono ?_
                   rintro r v1 ⟨rfl, hb1⟩
                   replace BW := Lib.hid (Below.step BW.out hb1)
                   replace BX := Lib.hid (BX.out.below hb1 BX.out.lt)
                   replace BP := Lib.hid (BP.out.below hb1 BP.out.lt)
                   replace AX := Lib.hid (AX.out.below hb1)
                   replace AA := Lib.hid (AA.out.below hb1)
                   replace AB := Lib.hid (AB.out.below hb1)
                   have Ra := Lib.hid (range_below B2.out.1 hb1 GL.out)
                   have Rb := Lib.hid (range_below B2.out.2 hb1 GL.out)
                   have GL2 := Lib.hid (Nat.lt_of_lt_of_le GL.out hb1.size)
                   clear CU B2 GL
                   clear hb1)
                | (refine load_res_mid rfl (.tmp 21) rfl (g + 1) 0 rfl a.inh (.slice aa na ca) (.slice oa ma da) Ra.out ?_)
                | (with_reducible refine allocRes_at ?_)
                | ((with_reducible refine storeRes_new 8 22 v1 a.inh aa na ca oa ma da ?_ ?_ ?_ ?_); (· rfl); (· rfl); (· rfl)
                   have hba0 := boxR_below v1 (.cells (resC a.inh (.slice aa na ca) (.slice oa ma da)) 25)
                   replace BW := Lib.hid (Below.step BW.out hba0)
                   replace BX := Lib.hid (BX.out.below hba0 BX.out.lt)
                   replace BP := Lib.hid (BP.out.below hba0 BP.out.lt)
                   replace AX := Lib.hid (AX.out.below hba0)
                   replace AA := Lib.hid (AA.out.below hba0)
                   replace AB := Lib.hid (AB.out.below hba0)
                   have Rb2 := Lib.hid (range_below Rb.out hba0 GL2.out)
                   replace Rb := Rb2
                   clear Rb2
                   have BYa := Lib.hid (resbox v1 a.inh (.slice aa na ca) (.slice oa ma da))
                   clear hba0
                   generalize v1.alloc (.cells (resC a.inh (.slice aa na ca) (.slice oa ma da)) 25) = v1a at *
                   generalize v1.heap.size = gYa at *)
                | (refine load_res_mid rfl (.tmp 23) rfl (g + 1) 3 rfl b.inh (.slice ab nb cb) (.slice ob mb db) Rb.out ?_)
                | (with_reducible refine allocRes_at ?_)
                | ((with_reducible refine storeRes_new 9 24 v1a b.inh ab nb cb ob mb db ?_ ?_ ?_ ?_); (· rfl); (· rfl); (· rfl)
                   have hbb0 := boxR_below v1a (.cells (resC b.inh (.slice ab nb cb) (.slice ob mb db)) 25)
                   replace BW := Lib.hid (Below.step BW.out hbb0)
                   replace BX := Lib.hid (BX.out.below hbb0 BX.out.lt)
                   replace BP := Lib.hid (BP.out.below hbb0 BP.out.lt)
                   replace BYa := Lib.hid (BYa.out.below hbb0 BYa.out.lt)
                   replace AX := Lib.hid (AX.out.below hbb0)
                   replace AA := Lib.hid (AA.out.below hbb0)
                   replace AB := Lib.hid (AB.out.below hbb0)
                   have BYb := Lib.hid (resbox v1a b.inh (.slice ab nb cb) (.slice ob mb db))
                   clear hbb0
                   generalize v1a.alloc (.cells (resC b.inh (.slice ab nb cb) (.slice ob mb db)) 25) = v1ab at *
                   generalize v1a.heap.size = gYb at *)
                | (go_at_call 9
                   refine (LX.out _ AX.out).mono ?_
                   rintro r v2 ⟨rfl, hb2⟩
                   replace BW := Lib.hid (Below.step BW.out hb2)
                   replace BX := Lib.hid (BX.out.below hb2 BX.out.lt)
                   replace BP := Lib.hid (BP.out.below hb2 BP.out.lt)
                   replace BYa := Lib.hid (BYa.out.below hb2 BYa.out.lt)
                   replace BYb := Lib.hid (BYb.out.below hb2 BYb.out.lt)
                   replace AX := Lib.hid (AX.out.below hb2)
                   replace AA := Lib.hid (AA.out.below hb2)
                   replace AB := Lib.hid (AB.out.below hb2)
                   clear LX
                   clear hb2)
                | (refine load_res_any (by rfl) (.tmp 8) rfl gYa rfl BYa.out ?_)
                | (go_at_call 9
                   refine (LA.out _ AA.out).mono ?_
                   rintro r v3 ⟨rfl, hb3⟩
                   replace BW := Lib.hid (Below.step BW.out hb3)
                   replace BX := Lib.hid (BX.out.below hb3 BX.out.lt)
                   replace BP := Lib.hid (BP.out.below hb3 BP.out.lt)
                   replace BYa := Lib.hid (BYa.out.below hb3 BYa.out.lt)
                   replace BYb := Lib.hid (BYb.out.below hb3 BYb.out.lt)
                   replace AX := Lib.hid (AX.out.below hb3)
                   replace AA := Lib.hid (AA.out.below hb3)
                   replace AB := Lib.hid (AB.out.below hb3)
                   clear LA
                   clear hb3)
                | (refine load_res_any (by rfl) (.tmp 9) rfl gYb rfl BYb.out ?_)
                | (go_at_call 9
                   refine (LB.out _ AB.out).mono ?_
                   rintro r v4 ⟨rfl, hb4⟩
                   replace BW := Lib.hid (Below.step BW.out hb4)
                   replace BX := Lib.hid (BX.out.below hb4 BX.out.lt)
                   replace BP := Lib.hid (BP.out.below hb4 BP.out.lt)
                   replace BYa := Lib.hid (BYa.out.below hb4 BYa.out.lt)
                   replace BYb := Lib.hid (BYb.out.below hb4 BYb.out.lt)
                   replace AX := Lib.hid (AX.out.below hb4)
                   replace AA := Lib.hid (AA.out.below hb4)
                   replace AB := Lib.hid (AB.out.below hb4)
                   clear LB
                   clear hb4)
                | (go_at_call 19
                   refine (P1.out _ AX.out AA.out).mono ?_
                   rintro r v5 ⟨u5, rfl, hat5, hb5⟩
                   replace BW := Lib.hid (Below.step BW.out hb5)
                   replace BX := Lib.hid (BX.out.below hb5 BX.out.lt)
                   replace BP := Lib.hid (BP.out.below hb5 BP.out.lt)
                   replace BYa := Lib.hid (BYa.out.below hb5 BYa.out.lt)
                   replace BYb := Lib.hid (BYb.out.below hb5 BYb.out.lt)
                   replace AX := Lib.hid (AX.out.below hb5)
                   replace AA := Lib.hid (AA.out.below hb5)
                   replace AB := Lib.hid (AB.out.below hb5)
                   have Ac := Lib.hid hat5
                   obtain ⟨p5, m5, c5, o5, k5, d5, rfl, _, _⟩ := hat5
                   clear hb5 P1)
                | (with_reducible refine allocRes_at ?_)
                | ((with_reducible refine storeRes_new 13 46 v5 q1.1.inh p5 m5 c5 o5 k5 d5 ?_ ?_ ?_ ?_); (· rfl); (· rfl); (· rfl)
                   have hb5a := boxR_below v5 (.cells (resC q1.1.inh (.slice p5 m5 c5) (.slice o5 k5 d5)) 25)
                   replace BW := Lib.hid (Below.step BW.out hb5a)
                   replace BX := Lib.hid (BX.out.below hb5a BX.out.lt)
                   replace BP := Lib.hid (BP.out.below hb5a BP.out.lt)
                   replace BYa := Lib.hid (BYa.out.below hb5a BYa.out.lt)
                   replace BYb := Lib.hid (BYb.out.below hb5a BYb.out.lt)
                   replace AX := Lib.hid (AX.out.below hb5a)
                   replace AA := Lib.hid (AA.out.below hb5a)
                   replace AB := Lib.hid (AB.out.below hb5a)
                   replace Ac := Lib.hid (Ac.out.below hb5a)
                   have Bc := Lib.hid (resbox v5 q1.1.inh (.slice p5 m5 c5) (.slice o5 k5 d5))
                   clear hb5a
                   generalize v5.alloc (.cells (resC q1.1.inh (.slice p5 m5 c5) (.slice o5 k5 d5)) 25) = v5b at *
                   generalize v5.heap.size = gc at *)
                | (go_at_call 19
                   refine (P2.out _ AA.out AB.out).mono ?_
                   rintro r v6 ⟨u6, rfl, hat6, hb6⟩
                   replace BW := Lib.hid (Below.step BW.out hb6)
                   replace BX := Lib.hid (BX.out.below hb6 BX.out.lt)
                   replace BP := Lib.hid (BP.out.below hb6 BP.out.lt)
                   replace BYa := Lib.hid (BYa.out.below hb6 BYa.out.lt)
                   replace BYb := Lib.hid (BYb.out.below hb6 BYb.out.lt)
                   replace Bc := Lib.hid (Bc.out.below hb6 Bc.out.lt)
                   replace AX := Lib.hid (AX.out.below hb6)
                   replace AA := Lib.hid (AA.out.below hb6)
                   replace AB := Lib.hid (AB.out.below hb6)
                   replace Ac := Lib.hid (Ac.out.below hb6)
                   have Ae := Lib.hid hat6
                   obtain ⟨p6, m6, c6, o6, k6, d6, rfl, _, _⟩ := hat6
                   clear hb6 P2)
                | (with_reducible refine allocRes_at ?_)
                | ((with_reducible refine storeRes_new 15 55 v6 q2.1.inh p6 m6 c6 o6 k6 d6 ?_ ?_ ?_ ?_); (· rfl); (· rfl); (· rfl)
                   have hb6a := boxR_below v6 (.cells (resC q2.1.inh (.slice p6 m6 c6) (.slice o6 k6 d6)) 25)
                   replace BW := Lib.hid (Below.step BW.out hb6a)
                   replace BX := Lib.hid (BX.out.below hb6a BX.out.lt)
                   replace BP := Lib.hid (BP.out.below hb6a BP.out.lt)
                   replace BYa := Lib.hid (BYa.out.below hb6a BYa.out.lt)
                   replace BYb := Lib.hid (BYb.out.below hb6a BYb.out.lt)
                   replace Bc := Lib.hid (Bc.out.below hb6a Bc.out.lt)
                   replace AX := Lib.hid (AX.out.below hb6a)
                   replace AA := Lib.hid (AA.out.below hb6a)
                   replace AB := Lib.hid (AB.out.below hb6a)
                   replace Ac := Lib.hid (Ac.out.below hb6a)
                   replace Ae := Lib.hid (Ae.out.below hb6a)
                   have Be := Lib.hid (resbox v6 q2.1.inh (.slice p6 m6 c6) (.slice o6 k6 d6))
                   clear hb6a
                   generalize v6.alloc (.cells (resC q2.1.inh (.slice p6 m6 c6) (.slice o6 k6 d6)) 25) = v6b at *
                   generalize v6.heap.size = ge at *)
                | (refine load_res_any (by rfl) (.tmp 13) rfl gc rfl Bc.out ?_)
                | (go_at_call 19
                   refine (P3.out _ _ Ac.out AB.out).mono ?_
                   rintro r v7 ⟨u7, rfl, hat7, hb7⟩
                   replace BW := Lib.hid (Below.step BW.out hb7)
                   replace BX := Lib.hid (BX.out.below hb7 BX.out.lt)
                   replace BP := Lib.hid (BP.out.below hb7 BP.out.lt)
                   replace BYa := Lib.hid (BYa.out.below hb7 BYa.out.lt)
                   replace BYb := Lib.hid (BYb.out.below hb7 BYb.out.lt)
                   replace Bc := Lib.hid (Bc.out.below hb7 Bc.out.lt)
                   replace Be := Lib.hid (Be.out.below hb7 Be.out.lt)
                   replace AX := Lib.hid (AX.out.below hb7)
                   replace AA := Lib.hid (AA.out.below hb7)
                   replace AB := Lib.hid (AB.out.below hb7)
                   replace Ac := Lib.hid (Ac.out.below hb7)
                   replace Ae := Lib.hid (Ae.out.below hb7)
                   have Af := Lib.hid hat7
                   obtain ⟨p7, m7, c7, o7, k7, d7, rfl, _, _⟩ := hat7
                   clear hb7 P3)
                | (with_reducible refine allocRes_at ?_)
                | ((with_reducible refine storeRes_new 17 61 v7 q3.1.inh p7 m7 c7 o7 k7 d7 ?_ ?_ ?_ ?_); (· rfl); (· rfl); (· rfl)
                   have hb7a := boxR_below v7 (.cells (resC q3.1.inh (.slice p7 m7 c7) (.slice o7 k7 d7)) 25)
                   replace BW := Lib.hid (Below.step BW.out hb7a)
                   replace BX := Lib.hid (BX.out.below hb7a BX.out.lt)
                   replace BP := Lib.hid (BP.out.below hb7a BP.out.lt)
                   replace BYa := Lib.hid (BYa.out.below hb7a BYa.out.lt)
                   replace BYb := Lib.hid (BYb.out.below hb7a BYb.out.lt)
                   replace Bc := Lib.hid (Bc.out.below hb7a Bc.out.lt)
                   replace Be := Lib.hid (Be.out.below hb7a Be.out.lt)
                   replace AX := Lib.hid (AX.out.below hb7a)
                   replace AA := Lib.hid (AA.out.below hb7a)
                   replace AB := Lib.hid (AB.out.below hb7a)
                   replace Ac := Lib.hid (Ac.out.below hb7a)
                   replace Ae := Lib.hid (Ae.out.below hb7a)
                   replace Af := Lib.hid (Af.out.below hb7a)
                   have Bf := Lib.hid (resbox v7 q3.1.inh (.slice p7 m7 c7) (.slice o7 k7 d7))
                   clear hb7a
                   generalize v7.alloc (.cells (resC q3.1.inh (.slice p7 m7 c7) (.slice o7 k7 d7)) 25) = v7b at *
                   generalize v7.heap.size = gf at *)
                | (refine load_res_any (by rfl) (.tmp 17) rfl gf rfl Bf.out ?_)
                | (go_at_call 16
                   refine (SM.out _ _ _ Af.out Ac.out).mono ?_
                   rintro r v8 ⟨rfl, hb8⟩
                   replace BW := Lib.hid (Below.step BW.out hb8)
                   replace BX := Lib.hid (BX.out.below hb8 BX.out.lt)
                   replace BP := Lib.hid (BP.out.below hb8 BP.out.lt)
                   replace BYa := Lib.hid (BYa.out.below hb8 BYa.out.lt)
                   replace BYb := Lib.hid (BYb.out.below hb8 BYb.out.lt)
                   replace Bc := Lib.hid (Bc.out.below hb8 Bc.out.lt)
                   replace Be := Lib.hid (Be.out.below hb8 Be.out.lt)
                   replace Bf := Lib.hid (Bf.out.below hb8 Bf.out.lt)
                   replace AX := Lib.hid (AX.out.below hb8)
                   replace AA := Lib.hid (AA.out.below hb8)
                   replace AB := Lib.hid (AB.out.below hb8)
                   replace Ac := Lib.hid (Ac.out.below hb8)
                   replace Ae := Lib.hid (Ae.out.below hb8)
                   replace Af := Lib.hid (Af.out.below hb8)
                   clear SM
                   clear hb8)
                | (go_at_call 21
                   refine (HX.out _ _ Ac.out).mono ?_
                   rintro r v9 ⟨rfl, hb9⟩
                   replace BW := Lib.hid (Below.step BW.out hb9)
                   replace BX := Lib.hid (BX.out.below hb9 BX.out.lt)
                   replace BP := Lib.hid (BP.out.below hb9 BP.out.lt)
                   replace BYa := Lib.hid (BYa.out.below hb9 BYa.out.lt)
                   replace BYb := Lib.hid (BYb.out.below hb9 BYb.out.lt)
                   replace Bc := Lib.hid (Bc.out.below hb9 Bc.out.lt)
                   replace Be := Lib.hid (Be.out.below hb9 Be.out.lt)
                   replace Bf := Lib.hid (Bf.out.below hb9 Bf.out.lt)
                   replace AX := Lib.hid (AX.out.below hb9)
                   replace AA := Lib.hid (AA.out.below hb9)
                   replace AB := Lib.hid (AB.out.below hb9)
                   replace Ac := Lib.hid (Ac.out.below hb9)
                   replace Ae := Lib.hid (Ae.out.below hb9)
                   replace Af := Lib.hid (Af.out.below hb9)
                   clear HX
                   clear hb9)
                | (go_at_call 21
                   refine (HA.out _ AA.out).mono ?_
                   rintro r v10 ⟨rfl, hb10⟩
                   replace BW := Lib.hid (Below.step BW.out hb10)
                   replace BX := Lib.hid (BX.out.below hb10 BX.out.lt)
                   replace BP := Lib.hid (BP.out.below hb10 BP.out.lt)
                   replace BYa := Lib.hid (BYa.out.below hb10 BYa.out.lt)
                   replace BYb := Lib.hid (BYb.out.below hb10 BYb.out.lt)
                   replace Bc := Lib.hid (Bc.out.below hb10 Bc.out.lt)
                   replace Be := Lib.hid (Be.out.below hb10 Be.out.lt)
                   replace Bf := Lib.hid (Bf.out.below hb10 Bf.out.lt)
                   replace AX := Lib.hid (AX.out.below hb10)
                   replace AA := Lib.hid (AA.out.below hb10)
                   replace AB := Lib.hid (AB.out.below hb10)
                   replace Ac := Lib.hid (Ac.out.below hb10)
                   replace Ae := Lib.hid (Ae.out.below hb10)
                   replace Af := Lib.hid (Af.out.below hb10)
                   have z13 : v10.cell? ⟨gc, 0, none⟩ = some (.bool false) := (Blk.cell Bc.out 0).trans (congrArg (fun x => some (Value.bool x)) I1.out)
                   clear HA
                   clear hb10))
              go_ret
              exact ⟨rfl, BW.out⟩
        · have t1 : (q1.2 != 0) = true := by simpa using e1
          clear F1 F2 F3 e1
          go_wp2_with (first
            | (refine load_res_any (by rfl) (.tmp 3) rfl g rfl BX.out ?_)
            | (refine wpList_load_rowG (by rfl) 43 (.tmp 5) rfl (g + 1 + 1) rfl 43 PC (0, 0) _ BP.out Tryz.underlying43 rfl SP.out ?_)
            | (go_at_call 8
               refine (CU.out _ BW.out).mono ?_
               rintro r v1 ⟨rfl, hb1⟩
               replace BW := Lib.hid (Below.step BW.out hb1)
               replace BX := Lib.hid (BX.out.below hb1 BX.out.lt)
               replace BP := Lib.hid (BP.out.below hb1 BP.out.lt)
               replace AX := Lib.hid (AX.out.below hb1)
               replace AA := Lib.hid (AA.out.below hb1)
               replace AB := Lib.hid (AB.out.below hb1)
               have Ra := Lib.hid (range_below B2.out.1 hb1 GL.out)
               have Rb := Lib.hid (range_below B2.out.2 hb1 GL.out)
               have GL2 := Lib.hid (Nat.lt_of_lt_of_le GL.out hb1.size)
               clear CU B2 GL
               clear hb1)
            | (refine load_res_mid rfl (.tmp 21) rfl (g + 1) 0 rfl a.inh (.slice aa na ca) (.slice oa ma da) Ra.out ?_)
            | (with_reducible refine allocRes_at ?_)
            | ((with_reducible refine storeRes_new 8 22 v1 a.inh aa na ca oa ma da ?_ ?_ ?_ ?_); (· rfl); (· rfl); (· rfl)
               have hba0 := boxR_below v1 (.cells (resC a.inh (.slice aa na ca) (.slice oa ma da)) 25)
               replace BW := Lib.hid (Below.step BW.out hba0)
               replace BX := Lib.hid (BX.out.below hba0 BX.out.lt)
               replace BP := Lib.hid (BP.out.below hba0 BP.out.lt)
               replace AX := Lib.hid (AX.out.below hba0)
               replace AA := Lib.hid (AA.out.below hba0)
               replace AB := Lib.hid (AB.out.below hba0)
               have Rb2 := Lib.hid (range_below Rb.out hba0 GL2.out)
               replace Rb := Rb2
               clear Rb2
               have BYa := Lib.hid (resbox v1 a.inh (.slice aa na ca) (.slice oa ma da))
               clear hba0
               generalize v1.alloc (.cells (resC a.inh (.slice aa na ca) (.slice oa ma da)) 25) = v1a at *
               generalize v1.heap.size = gYa at *)
            | (refine load_res_mid rfl (.tmp 23) rfl (g + 1) 3 rfl b.inh (.slice ab nb cb) (.slice ob mb db) Rb.out ?_)
            | (with_reducible refine allocRes_at ?_)
            | ((with_reducible refine storeRes_new 9 24 v1a b.inh ab nb cb ob mb db ?_ ?_ ?_ ?_); (· rfl); (· rfl); (· rfl)
               have hbb0 := boxR_below v1a (.cells (resC b.inh (.slice ab nb cb) (.slice ob mb db)) 25)
               replace BW := Lib.hid (Below.step BW.out hbb0)
               replace BX := Lib.hid (BX.out.below hbb0 BX.out.lt)
               replace BP := Lib.hid (BP.out.below hbb0 BP.out.lt)
               replace BYa := Lib.hid (BYa.out.below hbb0 BYa.out.lt)
               replace AX := Lib.hid (AX.out.below hbb0)
               replace AA := Lib.hid (AA.out.below hbb0)
               replace AB := Lib.hid (AB.out.below hbb0)
               have BYb := Lib.hid (resbox v1a b.inh (.slice ab nb cb) (.slice ob mb db))
               clear hbb0
               generalize v1a.alloc (.cells (resC b.inh (.slice ab nb cb) (.slice ob mb db)) 25) = v1ab at *
               generalize v1a.heap.size = gYb at *)
            | (go_at_call 9
               refine (LX.out _ AX.out).mono ?_
               rintro r v2 ⟨rfl, hb2⟩
               replace BW := Lib.hid (Below.step BW.out hb2)
               replace BX := Lib.hid (BX.out.below hb2 BX.out.lt)
               replace BP := Lib.hid (BP.out.below hb2 BP.out.lt)
               replace BYa := Lib.hid (BYa.out.below hb2 BYa.out.lt)
               replace BYb := Lib.hid (BYb.out.below hb2 BYb.out.lt)
               replace AX := Lib.hid (AX.out.below hb2)
               replace AA := Lib.hid (AA.out.below hb2)
               replace AB := Lib.hid (AB.out.below hb2)
               clear LX
               clear hb2)
            | (refine load_res_any (by rfl) (.tmp 8) rfl gYa rfl BYa.out ?_)
            | (go_at_call 9
               refine (LA.out _ AA.out).mono ?_
               rintro r v3 ⟨rfl, hb3⟩
               replace BW := Lib.hid (Below.step BW.out hb3)
               replace BX := Lib.hid (BX.out.below hb3 BX.out.lt)
               replace BP := Lib.hid (BP.out.below hb3 BP.out.lt)
               replace BYa := Lib.hid (BYa.out.below hb3 BYa.out.lt)
               replace BYb := Lib.hid (BYb.out.below hb3 BYb.out.lt)
               replace AX := Lib.hid (AX.out.below hb3)
               replace AA := Lib.hid (AA.out.below hb3)
               replace AB := Lib.hid (AB.out.below hb3)
               clear LA
               clear hb3)
            | (refine load_res_any (by rfl) (.tmp 9) rfl gYb rfl BYb.out ?_)
            | (go_at_call 9
               refine (LB.out _ AB.out).mono ?_
               rintro r v4 ⟨rfl, hb4⟩
               replace BW := Lib.hid (Below.step BW.out hb4)
               replace BX := Lib.hid (BX.out.below hb4 BX.out.lt)
               replace BP := Lib.hid (BP.out.below hb4 BP.out.lt)
               replace BYa := Lib.hid (BYa.out.below hb4 BYa.out.lt)
               replace BYb := Lib.hid (BYb.out.below hb4 BYb.out.lt)
               replace AX := Lib.hid (AX.out.below hb4)
               replace AA := Lib.hid (AA.out.below hb4)
               replace AB := Lib.hid (AB.out.below hb4)
               clear LB
               clear hb4)
            | (go_at_call 19
               refine (P1.out _ AX.out AA.out).mono ?_
               rintro r v5 ⟨u5, rfl, hat5, hb5⟩
               replace BW := Lib.hid (Below.step BW.out hb5)
               replace BX := Lib.hid (BX.out.below hb5 BX.out.lt)
               replace BP := Lib.hid (BP.out.below hb5 BP.out.lt)
               replace BYa := Lib.hid (BYa.out.below hb5 BYa.out.lt)
               replace BYb := Lib.hid (BYb.out.below hb5 BYb.out.lt)
               replace AX := Lib.hid (AX.out.below hb5)
               replace AA := Lib.hid (AA.out.below hb5)
               replace AB := Lib.hid (AB.out.below hb5)
               have Ac := Lib.hid hat5
               obtain ⟨p5, m5, c5, o5, k5, d5, rfl, _, _⟩ := hat5
               clear hb5 P1)
            | (with_reducible refine allocRes_at ?_)
            | ((with_reducible refine storeRes_new 13 46 v5 q1.1.inh p5 m5 c5 o5 k5 d5 ?_ ?_ ?_ ?_); (· rfl); (· rfl); (· rfl)
               have hb5a := boxR_below v5 (.cells (resC q1.1.inh (.slice p5 m5 c5) (.slice o5 k5 d5)) 25)
               replace BW := Lib.hid (Below.step BW.out hb5a)
               replace BX := Lib.hid (BX.out.below hb5a BX.out.lt)
               replace BP := Lib.hid (BP.out.below hb5a BP.out.lt)
               replace BYa := Lib.hid (BYa.out.below hb5a BYa.out.lt)
               replace BYb := Lib.hid (BYb.out.below hb5a BYb.out.lt)
               replace AX := Lib.hid (AX.out.below hb5a)
               replace AA := Lib.hid (AA.out.below hb5a)
               replace AB := Lib.hid (AB.out.below hb5a)
               replace Ac := Lib.hid (Ac.out.below hb5a)
               have Bc := Lib.hid (resbox v5 q1.1.inh (.slice p5 m5 c5) (.slice o5 k5 d5))
               clear hb5a
               generalize v5.alloc (.cells (resC q1.1.inh (.slice p5 m5 c5) (.slice o5 k5 d5)) 25) = v5b at *
               generalize v5.heap.size = gc at *))
          go_ret
          exact ⟨rfl, BW.out⟩
end Go.Proofs.YtlmndmfebgaidaaGreatDoor
