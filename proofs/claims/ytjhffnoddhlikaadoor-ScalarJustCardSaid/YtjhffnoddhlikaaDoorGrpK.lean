/-
  Merged texts (stage 5): Just.
-/
import Derived.Test.YtjhffnoddhlikaaDoorGrpJ
import Derived.Test.YtjhffnoddhlikaaDoorGrpI
import Derived.Test.YtjhffnoddhlikaaDoorGrpH
import Derived.Test.YtjhffnoddhlikaaDoorGrpE
import Derived.Deep.DeepCutAuto
import Derived.Deep.Cut
namespace Go.Proofs.YtjhffnoddhlikaaDoor
open Go.RowKit
set_option linter.unusedVariables false

set_option maxHeartbeats 16000000 in
set_option maxRecDepth 100000 in
theorem just_walk (hUp : UpSaid) (hInt : IntSaid) (hUint : UintSaid) (hOid : OidSaid) (hArcs : ArcsSaid) (hBits : BitsSaid) (hOf : OfSaid) (hText : TextSaid) (hWords : WordsSaid) (hTime : TimeSaid) (hWhen : WhenSaid)
    (v : Value) (t : T) (w : World) (hin : t.In w v) (hcap : Capped v) :
    Calls Tryd.prog 8 #[v] w fun e w' => e = .returned (.bool true) ∧ Below w.heap.size w w' := by
  obtain ⟨A, n, c, K, m, d, rfl, hw, hrt, hn, hc, hm, hm', hks⟩ := hin.open
  have BX := Lib.hid (Box.start hin)
  have UP := Lib.hid hUp
  have TX := Lib.hid hText
  have WO := Lib.hid hWords
  have TI := Lib.hid hTime
  have WN := Lib.hid hWhen
  have IN := Lib.hid hInt
  have UN := Lib.hid hUint
  have OI := Lib.hid hOid
  have AC := Lib.hid hArcs
  have BI := Lib.hid hBits
  have OF := Lib.hid hOf
  have CP := Lib.hid hcap
  have hby := hrt.2.1
  clear hks hc hin hm hm' hw hn hrt hUp hText hWords hTime hWhen hInt hUint hOid hArcs hBits hOf hcap
  go_enter Tryd.func8, Tryd.ntmps8
  go_wp2_with fail
  refine (UP.out _).mono ?_
  rintro e w1 ⟨rfl, hb⟩
  have B1 := Lib.hid (BX.out.go hb)
  clear hb BX UP
  obtain ⟨g0, g1, g2⟩ := B1.out.cells
  go_wp2_with fail
  refine (light_any t _ _ B1.out.has).mono ?_
  rintro e w2 ⟨rfl, hb⟩
  have B2 := Lib.hid (B1.out.go hb)
  clear hb B1 g0 g1 g2
  rcases Bool.eq_false_or_eq_true (lightT t) with hl | hl
  rotate_left
  · rw [hl]
    clear hl
    go_wp2_with fail
    go_ret
    exact ⟨rfl, B2.out.below⟩
  have hwt : t.body.length ≤ 30000 := by have := (light_wt hl).1; have := body_wt t; omega
  rw [hl]
  clear hl
  obtain ⟨g0, g1, g2⟩ := B2.out.cells
  -- Uint
  go_wp2_with fail
  refine (UN.out t _ _ B2.out.has CP.out hwt).mono ?_
  rintro e w3 ⟨rfl, hb3⟩
  have B3 := Lib.hid (B2.out.go hb3)
  have ur := uint_range hby
  have UJ : Hid ((uintZ t).2 = 0 → intT (uintZ t).1 = t) := fun h => uint_just (Prod.ext rfl h)
  clear hb3 B2 g0 g1 g2 UN
  generalize (uintZ t).1 = x at *
  generalize (uintZ t).2 = er at *
  go_wp2_with fail
  obtain ⟨l0, l1, l2⟩ := B3.out.laters
  have CI := Lib.hid (fun W => IN.out x W ur.1 ur.2)
  have CS := Lib.hid (fun W (hW : Ext w3 W) u (y : T) (hy : y.In W u) => same_any y t u _ W hy (T.In.below hW t B3.out.has))
  refine wp_region_ord Ext Ext.refl (fun _ _ _ => Ext.trans) ((0, false) :: (2, false) :: (1, true) :: (3, true) :: (4, false) :: []) (by kernel_rfl) (by kernel_rfl) rfl (by kernel_rfl) (fun _ _ _ _ _ h => h) ?_
  repeat (refine ord_take _ rfl (by rfl) (fun W hW => by go_simp; first | done | rfl) ?_; simp only [Act.put, List.setIfInBounds_toArray, List.set_cons_zero, List.set_cons_succ])
  clear l0 l1 l2
  refine ord_sole rfl (by rfl) (fun K1 hK1 => ?_)
  go_simp
  refine (CI.out _).mono ?_
  rintro e w4 ⟨A4, n4, c4, K4, m4, d4, rfl, hin4, hb4⟩
  have E4 : Hid (Ext w3 w4) := Ext.of_drew hb4
  have H4 := Lib.hid hin4
  refine hK1 _ _ hb4 ?_
  clear hK1 K1 CI hb4 hin4
  refine ord_sole rfl (by rfl) (fun K1 hK1 => ?_)
  go_simp
  refine (CS.out _ E4.out _ _ H4.out).mono ?_
  rintro e w5 ⟨rfl, hb5⟩
  have E5 : Hid (Ext w3 w5) := Ext.trans E4.out hb5
  refine hK1 _ _ hb5 ?_
  clear hK1 K1 CS hb5 H4 E4
  have B5 := Lib.hid (B3.out.go E5.out)
  clear B3 E5
  have US : Hid (er = 0 → sameT (intT x) t = true) := fun h => by rw [UJ.out h]; exact same_refl _
  clear UJ
  generalize sameT (intT x) t = s1 at *
  repeat (refine ord_take _ rfl (by rfl) (fun W hW => by go_simp; first | done | rfl) ?_; simp only [Act.put, List.setIfInBounds_toArray, List.set_cons_zero, List.set_cons_succ])
  refine ord_end ?_
  have hs1 : (er == 0 && !s1) = false := by
    by_cases h : er = 0
    · rw [US.out h]; simp
    · simp [h]
  obtain ⟨g0, g1, g2⟩ := B5.out.cells
  go_upto_region 7 with (fail)
  go_cut [45] (fun s45 wx => s45 = .bool false ∧ wx = w5)
  case first =>
    by_cases he : er = 0
    · have h1 : s1 = true := US.out he
      subst he h1
      go_wp2_with fail
      go_meet
      exact ⟨rfl, rfl⟩
    · have t0 : (er == 0) = false := by simpa using he
      go_wp2_with fail
      go_meet
      exact ⟨rfl, rfl⟩
  case rest =>
    obtain ⟨rfl, rfl⟩ := hcut
    clear hs1 US
    -- Arcs
    go_wp2_with fail
    refine (AC.out t _ _ B5.out.has hwt).mono ?_
    rintro e w6 ⟨a6, c6, rfl, hr6, hn6, hc6, hb6⟩
    have B6 := Lib.hid (B5.out.go hb6)
    have R6 := Lib.hid hr6
    have N6 := Lib.hid hn6
    have AJ : Hid ((arcsR t).2 = 0 → oidZ (arcsR t).1 = (t, 0)) := fun h => arcs_just (Prod.ext rfl h)
    have hl6 := arcs_short t
    clear hb6 hr6 hn6 B5 g0 g1 g2 AC
    generalize (arcsR t).1 = l6 at *
    generalize (arcsR t).2 = er6 at *
    go_wp2_with fail
    refine (OI.out a6 l6.length c6 l6 _ R6.out hc6 (by omega) N6.out).mono ?_
    rintro e w7 ⟨A7, n7, c7, K7, m7, d7, rfl, hin7, hb7⟩
    have P7 := Lib.hid (Box.start hin7)
    have B7 := Lib.hid ((B6.out.go hb7).go P7.out.below)
    clear hb7 hin7 B6 R6 OI
    obtain ⟨p0, p1, p2⟩ := P7.out.cells
    obtain ⟨g0, g1, g2⟩ := B7.out.cells
    go_wp2_with fail
    refine (same_any (oidZ l6).1 t _ _ _ P7.out.has B7.out.has).mono ?_
    rintro e w8 ⟨rfl, hb8⟩
    have B8 := Lib.hid (B7.out.go hb8)
    have US : Hid (er6 = 0 → (oidZ l6).2 = 0 ∧ sameT (oidZ l6).1 t = true) := fun h => by rw [AJ.out h]; exact ⟨rfl, same_refl _⟩
    clear hb8 B7 P7 p0 p1 p2 g0 g1 g2 AJ
    generalize sameT (oidZ l6).1 t = s8 at *
    generalize (oidZ l6).2 = e8 at *
    obtain ⟨g0, g1, g2⟩ := B8.out.cells
    go_upto_region 12 with (fail)
    go_cut [68] (fun sb wx => sb = .bool false ∧ wx = w8)
    case first =>
      by_cases he : er6 = 0
      · obtain ⟨h1, h2⟩ := US.out he
        subst he h1 h2
        go_wp2_with fail
        go_meet
        exact ⟨rfl, rfl⟩
      · have t0 : (er6 == 0) = false := by simpa using he
        go_wp2_with fail
        go_meet
        exact ⟨rfl, rfl⟩
    case rest =>
    obtain ⟨rfl, rfl⟩ := hcut
    clear US
    -- Of
    go_wp2_with fail
    refine (OF.out t _ _ B8.out.has CP.out hwt).mono ?_
    rintro e w9 ⟨a9, c9, rfl, hr9, hn9, hc9, hb9⟩
    have B9 := Lib.hid (B8.out.go hb9)
    have R9 := Lib.hid hr9
    have N9 := Lib.hid hn9
    have OJ : Hid ((ofZ t).2.2 = 0 → bitsZ (ofZ t).1 (ofZ t).2.1 = (t, 0)) := fun h => of_just (Prod.ext rfl (Prod.ext rfl h))
    have hl9 := of_short t
    have hm9 := of_many hby hwt
    clear hb9 hr9 hn9 B8 g0 g1 g2 OF
    generalize (ofZ t).1 = l9 at *
    generalize (ofZ t).2.1 = m9 at *
    generalize (ofZ t).2.2 = er9 at *
    have WF9 : Hid ((Lit.int .i64 m9).wf = true) := by
      have := wf_wrap .i64 m9
      rw [IntWalk.i64_in _ (by omega)] at this
      exact Lib.hid this
    go_wp2_with fail
    refine (BI.out a9 l9.length c9 l9 m9 _ R9.out hc9 (by omega) N9.out WF9.out).mono ?_
    rintro e w10 ⟨A10, n10, c10, K10, m10, d10, rfl, hin10, hb10⟩
    have P10 := Lib.hid (Box.start hin10)
    have B10 := Lib.hid ((B9.out.go hb10).go P10.out.below)
    clear hb10 hin10 B9 R9 BI WF9
    obtain ⟨p0, p1, p2⟩ := P10.out.cells
    obtain ⟨g0, g1, g2⟩ := B10.out.cells
    go_wp2_with fail
    refine (same_any (bitsZ l9 m9).1 t _ _ _ P10.out.has B10.out.has).mono ?_
    rintro e w11 ⟨rfl, hb11⟩
    have B11 := Lib.hid (B10.out.go hb11)
    have US : Hid (er9 = 0 → (bitsZ l9 m9).2 = 0 ∧ sameT (bitsZ l9 m9).1 t = true) := fun h => by rw [OJ.out h]; exact ⟨rfl, same_refl _⟩
    clear hb11 B10 P10 p0 p1 p2 g0 g1 g2 OJ
    generalize sameT (bitsZ l9 m9).1 t = s11 at *
    generalize (bitsZ l9 m9).2 = e11 at *
    obtain ⟨g0, g1, g2⟩ := B11.out.cells
    go_upto_region 17 with (fail)
    go_cut [93] (fun sb wx => sb = .bool false ∧ wx = w11)
    case first =>
      by_cases he : er9 = 0
      · obtain ⟨h1, h2⟩ := US.out he
        subst he h1 h2
        go_wp2_with fail
        go_meet
        exact ⟨rfl, rfl⟩
      · have t0 : (er9 == 0) = false := by simpa using he
        go_wp2_with fail
        go_meet
        exact ⟨rfl, rfl⟩
    case rest =>
    obtain ⟨rfl, rfl⟩ := hcut
    clear US
    -- Words
    go_wp2_with fail
    refine (WO.out t _ _ B11.out.has hwt).mono ?_
    rintro e w12 ⟨rfl, hb12⟩
    have B12 := Lib.hid (B11.out.go hb12)
    have WJ : Hid ((wordsZ t).2 = 0 → textZ (wordsZ t).1 = (t, 0)) := fun h => words_just (Prod.ext rfl h)
    have hl12 := words_size t
    clear hb12 B11 g0 g1 g2 WO
    generalize (wordsZ t).1 = S12 at *
    generalize (wordsZ t).2 = er12 at *
    go_wp2_with fail
    refine (TX.out S12 _ (by omega)).mono ?_
    rintro e w13 ⟨A13, n13, c13, K13, m13, d13, rfl, hin13, hb13⟩
    have P13 := Lib.hid (Box.start hin13)
    have B13 := Lib.hid ((B12.out.go hb13).go P13.out.below)
    clear hb13 hin13 B12 TX
    obtain ⟨p0, p1, p2⟩ := P13.out.cells
    obtain ⟨g0, g1, g2⟩ := B13.out.cells
    go_wp2_with fail
    refine (same_any (textZ S12).1 t _ _ _ P13.out.has B13.out.has).mono ?_
    rintro e w14 ⟨rfl, hb14⟩
    have B14 := Lib.hid (B13.out.go hb14)
    have US : Hid (er12 = 0 → (textZ S12).2 = 0 ∧ sameT (textZ S12).1 t = true) := fun h => by rw [WJ.out h]; exact ⟨rfl, same_refl _⟩
    clear hb14 B13 P13 p0 p1 p2 g0 g1 g2 WJ
    generalize sameT (textZ S12).1 t = s14 at *
    generalize (textZ S12).2 = e14 at *
    obtain ⟨g0, g1, g2⟩ := B14.out.cells
    go_upto_region 22 with (fail)
    go_cut [116] (fun sb wx => sb = .bool false ∧ wx = w14)
    case first =>
      by_cases he : er12 = 0
      · obtain ⟨h1, h2⟩ := US.out he
        subst he h1 h2
        go_wp2_with fail
        go_meet
        exact ⟨rfl, rfl⟩
      · have t0 : (er12 == 0) = false := by simpa using he
        go_wp2_with fail
        go_meet
        exact ⟨rfl, rfl⟩
    case rest =>
    obtain ⟨rfl, rfl⟩ := hcut
    clear US
    -- When
    go_wp2_with fail
    refine (WN.out t _ _ B14.out.has hwt).mono ?_
    rintro e w15 ⟨⟨sec, er15⟩, hR, rfl, hb15⟩
    have B15 := Lib.hid (B14.out.go hb15)
    have hr15 := when_range hR
    have HR := Lib.hid hR
    clear hb15 hR B14 g0 g1 g2 WN
    simp only at hr15
    have WF15 : Hid ((Lit.int .i64 sec).wf = true) := by
      have := wf_wrap .i64 sec
      rw [IntWalk.i64_in _ (by omega)] at this
      exact Lib.hid this
    go_wp2_with fail
    refine (TI.out sec _ WF15.out).mono ?_
    rintro e w16 ⟨S, ok, hT, A16, n16, c16, K16, m16, d16, rfl, hin16, hb16⟩
    have P16 := Lib.hid (Box.start hin16)
    have B16 := Lib.hid ((B15.out.go hb16).go P16.out.below)
    have US : Hid (er15 = 0 → (timeZ S ok).2 = 0 ∧ sameT (timeZ S ok).1 t = true) := fun h => by
      have h2 := HR.out
      rw [h] at h2
      obtain ⟨S', ok', h3, h4⟩ := when_just h2
      obtain ⟨rfl, rfl⟩ := hT.eq h3
      rw [h4]
      exact ⟨rfl, same_refl _⟩
    clear hb16 hin16 hT B15 TI WF15 HR
    generalize timeZ S ok = X at *
    obtain ⟨p0, p1, p2⟩ := P16.out.cells
    obtain ⟨g0, g1, g2⟩ := B16.out.cells
    go_wp2_with fail
    refine (same_any X.1 t _ _ _ P16.out.has B16.out.has).mono ?_
    rintro e w17 ⟨rfl, hb17⟩
    have B17 := Lib.hid (B16.out.go hb17)
    clear hb17 B16 P16 p0 p1 p2 g0 g1 g2
    generalize sameT X.1 t = s17 at *
    generalize X.2 = e17 at *
    by_cases he : er15 = 0
    · obtain ⟨h1, h2⟩ := US.out he
      subst he h1 h2
      go_wp2_with fail
      go_ret
      exact ⟨rfl, B17.out.below⟩
    · have t0 : (er15 != 0) = true := by simpa using he
      go_wp2_with fail
      go_ret
      exact ⟨rfl, B17.out.below⟩

end Go.Proofs.YtjhffnoddhlikaaDoor
