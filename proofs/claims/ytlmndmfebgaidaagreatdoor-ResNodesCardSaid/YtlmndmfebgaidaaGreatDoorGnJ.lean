/-
  Merged texts: StF.
-/
import Derived.Test.YtlmndmfebgaidaaGreatDoorGnI
import Derived.Deep.CutRange
namespace Go.Proofs.YtlmndmfebgaidaaGreatDoor
open Go.RowKit
set_option linter.unusedVariables false
set_option maxHeartbeats 4000000 in
set_option maxRecDepth 100000 in
theorem rjoin_any (a : Option Addr) (n c : Nat) (L : List SpanZ) (w : World) (hr : SpRow w a n L) (hA : a = none → n = 0 ∧ c = 0) (hn : n ≤ 40000) :
    Calls Tryz.prog 43 #[.slice a n c] w (GivesSp (joinS L) w) := by
  have RL := Lib.hid hr
  have HL := Lib.hid hr.1
  have HN := Lib.hid hn
  have CA := Lib.hid (fun (s t : SpanZ) W (h : SixS s) (k : SixS t) => rahead_any s t W h k)
  have CN := Lib.hid (fun (v : Bool) (A : List Int) W (h : Sixteen A) => rnext_any v A W h)
  have CC := Lib.hid (fun (A B : List Int) W (h : Sixteen A) (k : Sixteen B) => rcmpaddr_any A B W h k)
  have JS : Hid (joinS L = joinAll (sortS [] L)) := Lib.hid (join_sorted L).symm
  rw [JS.out]
  have S0 : Hid (sortS [] (L.drop 0) = sortS [] L) := Lib.hid rfl
  clear hr hn JS
  generalize sortS [] L = S at *
  go_enter Tryz.func43, Tryz.ntmps43
  go_wp2_with fail
  go_loopg [3, 4] n (fun gk rV iV wr => ∃ (i : Nat) (R : List SpanZ), iV = .int .i64 (i : Int) ∧ i + gk = n ∧ R.length ≤ i ∧ sortS R (L.drop i) = S ∧ SpOut w wr rV R)
  case atStart => exact ⟨0, [], rfl, by omega, Nat.le_refl _, S0.out, SpOut.start w⟩
  case round =>
    obtain ⟨i, R, rfl, hi, hR, hs, ho⟩ := hrel
    have O5 := Lib.hid ho
    have S5 := Lib.hid hs
    clear ho hs
    rcases gk with _ | g
    · obtain rfl : i = n := by omega
      have t0 : decide ((i : Int) < (i : Int)) = false := decide_eq_false (by omega)
      have t2 : decide (i < i) = false := decide_eq_false (by omega)
      have RS : Hid (R = S) := Lib.hid (by have := S5.out; rwa [List.drop_of_length_le (by rw [HL.out]; exact Nat.le_refl _)] at this)
      obtain ⟨W1, hW1⟩ : ∃ W1, W1 = wr := ⟨_, rfl⟩
      subst hW1
      obtain ⟨aR, cR, rfl, hrow, _⟩ := O5.out.row
      have RW := Lib.hid hrow
      have R6 := Lib.hid O5.out.2.2
      have B1 := Lib.hid O5.out.2.1
      have LRN : Hid (R.length ≤ 40000) := Lib.hid (by have := HN.out; omega)
      have M0 : Hid (MergeAt R 0 []) := Lib.hid (.inl ⟨rfl, rfl⟩)
      clear hrow O5 S5 RL CA S0
      obtain ⟨m, hm⟩ : ∃ m, R.length = m := ⟨_, rfl⟩
      have HM := Lib.hid hm
      rw [hm] at RW LRN hR
      rw [hm]
      clear hm
      go_wp2_with fail
      go_loopw [6, 7] (fun oV kV wy => ∃ (k : Nat) (O : List SpanZ), kV = .int .i64 (k : Int) ∧ k ≤ m ∧ O.length ≤ k ∧ MergeAt R k O ∧ SpOut W1 wy oV O) (fun _ kV _ => ((m : Int) - intOf kV).toNat)
      case atStart => exact ⟨0, [], rfl, Nat.zero_le _, Nat.le_refl _, M0.out, SpOut.start W1⟩
      case round =>
        obtain ⟨k, O, rfl, hk, hok, hat, ho⟩ := hrel
        have M5 := Lib.hid hat
        have O5 := Lib.hid ho
        clear hat ho M0
        by_cases hlt : k < m
        · have t3 : decide ((k : Int) < (m : Int)) = true := decide_eq_true (by omega)
          have t4 : decide (k < m) = true := decide_eq_true hlt
          obtain ⟨bR, oR, rfl, _⟩ := RW.out.form (by omega)
          have kl : k < R.length := by rw [HM.out]; exact hlt
          have j0 : (0 : Int) ≤ (k : Int) := by omega
          have j1 : (k : Int) < (m : Int) := by omega
          have kI : IntKind.i64.wrap ((k : Int) + 1) = (k : Int) + 1 := IntWalk.i64_in _ (by have := LRN.out; omega)
          have q6 := R6.out _ (List.getElem_mem kl)
          have SX := Lib.hid q6
          have RG := Lib.hid (fun W (h : Below W1.heap.size W1 W) => (RW.out.below h).range k kl)
          have RV := Lib.hid (fun W (h : Below W1.heap.size W1 W) => (RW.out.below h).v k kl)
          have RLo := Lib.hid (fun W (h : Below W1.heap.size W1 W) => (RW.out.below h).lo k kl)
          have RHi := Lib.hid (fun W (h : Below W1.heap.size W1 W) => (RW.out.below h).hi k kl)
          have LQ : Hid ((Tryz.prog.info? 62).map (·.size) = some (scL R[k]).length) := Lib.hid (by rw [scL_len q6, Tryz.sizeS q6, scells_size q6])
          have BQ := Lib.hid (built_one R[k] q6)
          have LK := Lib.hid hok
          have LM : Hid (O.length + 1 ≤ 100000) := Lib.hid (by have := LRN.out; omega)
          have MF : Hid (k = 0 → MergeAt R (k + 1) ([] ++ [R[k]])) := Lib.hid (fun h => by subst h; exact merge_first kl)
          have MS := Lib.hid (fun e (he : O.length = e + 1) => merge_step M5.out kl he)
          have MZ := Lib.hid (fun h : O = [] => merge_zero (S := R) (k := k) (by rw [← h]; exact M5.out))
          clear q6 M5 hok
          generalize R[k] = q at *
          have EQ : Hid ((scL q).toArray = scells q) := Lib.hid rfl
          rcases Nat.eq_zero_or_pos O.length with h0 | hpos
          · obtain rfl : O = [] := List.eq_nil_of_length_eq_zero h0
            have MN := Lib.hid (MF.out (MZ.out rfl))
            obtain ⟨AO, cO, hV, _, _⟩ := O5.out.row
            have hV : _ = Value.slice AO 0 cO := hV
            subst hV
            clear MF MS MZ h0 RV RLo RHi CN CC
            go_upto_region 15 with fail
            refine wp_region_ord Ext Ext.refl (fun _ _ _ => Ext.trans) ((0, false) :: (1, false) :: (2, false) :: (3, false) :: (4, false) :: (5, false) :: (6, false) :: (7, false) :: (8, false) :: (9, false) :: (10, false) :: (11, false) :: (12, false) :: (13, false) :: (14, false) :: []) (by kernel_rfl) (by kernel_rfl) rfl (by kernel_rfl) (fun _ _ _ _ _ h => h) ?_
            have OX := Lib.hid (show SpOut W1 wr.drew (.slice AO 0 cO) [] from O5.out.below (drewN_below _ 1))
            clear O5
            generalize wr.drew = w7 at *
            repeat (first
              | (refine ord_skip rfl (by rfl) ?_; simp only [Act.put, List.setIfInBounds_toArray, List.set_cons_zero, List.set_cons_succ])
              | (refine ord_take _ rfl (by rfl) (fun W hW => by go_simp; first | done | rfl) ?_; simp only [Act.put, List.setIfInBounds_toArray, List.set_cons_zero, List.set_cons_succ]))
            refine ord_end ?_
            have OX2 := Lib.hid (show SpOut W1 w7 (.slice AO 0 cO) [] from OX.out)
            have RGA := Lib.hid (RG.out _ OX.out.2.1)
            go_wp2_with (first
              | ((with_reducible refine load_span_at 129 bR (oR + k * 33) (scL q) ?_ RGA.out LQ.out ?_); (· rfl); rw [EQ.out])
              | ((with_reducible refine build_span_at 130 (scells q) ?_ BQ.out ?_); (· rfl))
              | (at_builtin; go_must (refine sp_append (W0 := W1) (L := []) (zs := [q]) rfl _ _ rfl rfl (OX2.out.alloc _) rfl (sp_one w7 SX.out) (fun e => by cases e) LM.out ?_; intro V8 w8 ho8; have O8 := Lib.hid ho8; clear ho8)))
            go_roundw
            case rel => exact ⟨k + 1, [] ++ [q], by go_num, by omega, by rw [List.length_append]; have h1 := LK.out; show _ + 1 ≤ k + 1; omega, MN.out, O8.out⟩
            case measure => simp only [intOf]; omega
          · obtain ⟨e, he⟩ : ∃ e, O.length = e + 1 := ⟨O.length - 1, by omega⟩
            have MT := Lib.hid (MS.out e he)
            obtain ⟨gO, cO, hV, hg0⟩ : ∃ g cap, _ = Value.slice (some ⟨g, 0, none⟩) O.length cap ∧ W1.heap.size ≤ g := by
              rcases O5.out.form with ⟨_, h⟩ | ⟨g, cap, h1, h2, _⟩
              · rw [h] at hpos
                exact absurd hpos (by simp)
              · exact ⟨g, cap, h1, h2⟩
            subst hV
            have E1 : e < O.length := by omega
            have c6 := O5.out.2.2 _ (List.getElem_mem E1)
            have C6 := Lib.hid c6
            have OV := Lib.hid (fun W (h : SpOut W1 W (.slice (some ⟨gO, 0, none⟩) O.length cO) O) => h.v0 e E1)
            have OH := Lib.hid (fun W (h : SpOut W1 W (.slice (some ⟨gO, 0, none⟩) O.length cO) O) => h.hi0 e E1)
            have SE : Hid (∀ W, Hid (SpOut W1 W (.slice (some ⟨gO, 0, none⟩) O.length cO) O) → Hid (SpOut W1 (W.setCells gO (e * 33 + 17) (acells q.hi)) (.slice (some ⟨gO, 0, none⟩) O.length cO) (O.set e ⟨(O[e]'E1).v, (O[e]'E1).lo, q.hi⟩)) ∧ Hid (W.there gO (e * 33 + 17) (acells q.hi).toArray.size)) := Lib.hid (fun W h => ⟨Lib.hid (h.out.setHi rfl hg0 e E1 SX.out.2), Lib.hid (h.out.there rfl _ _ (by rw [List.size_toArray, acells_len SX.out.2.1]; omega))⟩)
            clear c6 MF MS MZ hpos
            obtain ⟨c, hc⟩ : ∃ c, O[e]'E1 = c := ⟨_, rfl⟩
            rw [hc] at C6 OV OH
            simp only [hc] at MT SE
            clear hc
            obtain ⟨l, hl⟩ : ∃ l, O.length = l := ⟨_, rfl⟩
            rw [hl] at OV OH SE O5 LM LK E1 he
            rw [hl]
            have HLn := Lib.hid hl
            have q1 : IntKind.i64.wrap ((l : Int) - 1) = (e : Int) := by
              rw [show (l : Int) - 1 = (e : Int) by omega]
              exact IntWalk.i64_in _ (by have := LM.out; omega)
            have x0 : (0 : Int) ≤ (e : Int) := by omega
            have x1 : (e : Int) < (l : Int) := by omega
            have LE : Hid (l = e + 1) := Lib.hid he
            clear he hl E1
            obtain ⟨cv, clo, chi⟩ := c
            obtain ⟨qv, qlo, qhi⟩ := q
            have TN := Lib.hid (touch_next (c := ⟨cv, clo, chi⟩) (q := ⟨qv, qlo, qhi⟩) SX.out.1)
            dsimp only at *
            rw [TN.out] at MT
            clear TN
            have SH := Lib.hid (Tryz.sizeA C6.out.2.1)
            have SQ := Lib.hid (Tryz.sizeA SX.out.1.1)
            have SQH := Lib.hid (Tryz.sizeA SX.out.2.1)
            have SQ2 : Hid ((Tryz.prog.info? 41).map (·.size) = some (acells qhi).toArray.size) := SQH
            have AQ1 := Lib.hid (bytes_one qhi)
            go_upto_region 15 with fail
            by_cases hv : cv = qv
            · subst hv
              have tv : (cv == cv) = true := beq_self_eq_true cv
              rw [tv, Bool.true_and] at MT
              obtain ⟨mt1, mt2, mt3⟩ := MT.out
              have MA := Lib.hid mt1
              have MW2 := Lib.hid (fun h => (⟨mt2 h, mt3 h⟩ : _ ∧ _))
              clear mt1 mt2 mt3 MT
              refine wp_region_ord Ext Ext.refl (fun _ _ _ => Ext.trans) ((0, false) :: (1, false) :: (2, false) :: (3, false) :: (4, false) :: (5, false) :: (6, false) :: (7, false) :: (8, false) :: (9, false) :: (10, false) :: (11, false) :: (12, false) :: (13, false) :: (14, false) :: []) (by kernel_rfl) (by kernel_rfl) rfl (by kernel_rfl) (fun _ _ _ _ _ h => h) ?_
              have OX := Lib.hid (show SpOut W1 wr.drew (.slice (some ⟨gO, 0, none⟩) l cO) O from O5.out.below (drewN_below _ 1))
              clear O5
              generalize wr.drew = w7 at *
              repeat (first
                | (refine ord_skip rfl (by rfl) ?_; simp only [Act.put, List.setIfInBounds_toArray, List.set_cons_zero, List.set_cons_succ])
                | (refine ord_take _ rfl (by rfl) (fun W hW => yields_bool (.tmp 70) rfl gO (e * 33) _ rfl (OV.out W (OX.out.below hW))) ?_; simp only [Act.put, List.setIfInBounds_toArray, List.set_cons_zero, List.set_cons_succ])
                | (refine ord_take _ rfl (by rfl) (fun W hW => yields_bool (.tmp 75) rfl bR (oR + k * 33) _ rfl (RV.out W (Below.step OX.out.2.1 hW))) ?_; simp only [Act.put, List.setIfInBounds_toArray, List.set_cons_zero, List.set_cons_succ])
                | (refine ord_take _ rfl (by rfl) (fun W hW => by go_simp; first | done | rfl) ?_; simp only [Act.put, List.setIfInBounds_toArray, List.set_cons_zero, List.set_cons_succ]))
              refine ord_end ?_
              clear tv
              have CN7 := Lib.hid (fun W => CN.out cv chi W C6.out.2)
              have N6 : Hid (Sixteen (nextA cv chi)) := Lib.hid (next_ok _ _)
              have CC2 := Lib.hid (fun W => CC.out qlo (nextA cv chi) W SX.out.1 N6.out)
              have CC3 := Lib.hid (fun W => CC.out qhi chi W SX.out.2 C6.out.2)
              have SN := Lib.hid (Tryz.sizeA N6.out.1)
              have SN2 : Hid ((Tryz.prog.info? 41).map (·.size) = some (acells (nextA cv chi)).toArray.size) := SN
              have D2 : Hid (0 < cmpN (aN qhi) (aN chi) ↔ aN chi < aN qhi) := Lib.hid (by have := cmpN_gt (aN qhi) (aN chi); rw [decide_eq_decide] at this; exact this)
              clear CN CC SN
              generalize nextA cv chi = N at *
              generalize okN cv chi = ok at *
              generalize cmpN (aN qlo) (aN N) = d1 at *
              generalize cmpN (aN qhi) (aN chi) = d2 at *
              go_upto_region 16 with fail
              go_cut [9, 10] from 55 to 132 (fun s9 s10 wx => ∃ g9, s9 = .pointer (some ⟨g9, 0, none⟩) ∧ s10 = .bool ok ∧ Blk wx g9 41 (acells N).toArray ∧ SpOut W1 wx (.slice (some ⟨gO, 0, none⟩) l cO) O)
              case first =>
                refine wp_region_plan (ExtB w7.drew.heap.size) (ExtB.refl _) ExtB.trans (.take 0 (.take 1 (.take 2 (.take 3 (.take 4 (.take 5 (.take 6 (.take 7 (.take 8 (.take 9 (.fork 10 (.take 11 (.take 12 (.take 13 (.sole 14 (.sole 15 (.take 16 .fin)))))) 14 (.sole 10 (.take 11 (.take 12 (.take 13 (.sole 15 (.take 16 .fin))))))))))))))))) (by kernel_rfl) (by kernel_rfl) rfl (by kernel_rfl) (fun _ _ _ _ _ h => h) ?_
                have OZ := Lib.hid (show SpOut W1 w7.drew _ _ from OX.out.below (drewN_below _ 1))
                clear OX
                have B7 : Hid (Below w7.drew.heap.size w7.drew w7.drew) := Lib.hid (Below.refl _ _)
                generalize w7.drew = w8 at *
                repeat' (first
                  | (refine plan_take _ rfl (by rfl) (fun W hW => yields_bool (.tmp 83) rfl gO (e * 33) _ rfl (OV.out W (OZ.out.below (B7.out.trans hW)))) ?_; simp only [Act.put, List.setIfInBounds_toArray, List.set_cons_zero, List.set_cons_succ])
                  | (refine plan_take _ rfl (by rfl) (fun W hW => yields_part 41 (.tmp 88) rfl gO (e * 33 + 17) (acells chi) _ rfl (OH.out W (OZ.out.below (B7.out.trans hW))) Tryz.underlying41 rfl SH.out) ?_; simp only [Act.put, List.setIfInBounds_toArray, List.set_cons_zero, List.set_cons_succ])
                  | (refine plan_take _ rfl (by rfl) (fun W hW => by go_simp; first | done | rfl) ?_; simp only [Act.put, List.setIfInBounds_toArray, List.set_cons_zero, List.set_cons_succ])
                  | (refine plan_fork ?_ ?_)
                  | ((first | refine plan_sole (sole_take rfl (by rfl) (fun K1 hK1 => ?_)) | refine sole_take rfl (by rfl) (fun K1 hK1 => ?_))
                     refine op_alloc_ar rfl ?_
                     intro gz w9 hn9 hz9 hb9
                     have NZ : Hid (w8.heap.size ≤ gz) := Lib.hid (Nat.le_trans B7.out.size hn9)
                     refine hK1 _ _ (hb9.mono B7.out.size) ?_
                     clear hK1 K1
                     have AZ := Lib.hid hz9
                     replace B7 := Lib.hid (Below.step B7.out hb9)
                     clear hb9 hz9 hn9
                     simp only [Act.put, List.setIfInBounds_toArray, List.set_cons_zero, List.set_cons_succ])
                  | ((first | refine plan_sole (sole_take rfl (by rfl) (fun K1 hK1 => ?_)) | refine sole_take rfl (by rfl) (fun K1 hK1 => ?_))
                     refine op_store_ar (.tmp 9) (.tmp 91) rfl rfl _ N N6.out rfl rfl AZ.out ?_
                     refine hK1 _ _ (below_setRow (Below.refl _ _) NZ.out _) ?_
                     clear hK1 K1
                     have ZZ := Lib.hid (setRow_heap _ _ _ (acells N).toArray 41 _ AZ.out)
                     replace B7 := Lib.hid (below_setRow B7.out NZ.out (acells N).toArray)
                     clear AZ)
                  | ((first | refine plan_sole (sole_take rfl (by rfl) (fun K1 hK1 => ?_)) | refine sole_take rfl (by rfl) (fun K1 hK1 => ?_))
                     go_simp
                     with_reducible refine (CN7.out _).mono ?_
                     rintro r w9 ⟨rfl, hb9⟩
                     refine hK1 _ _ (hb9.mono B7.out.size) ?_
                     clear hK1 K1
                     try (replace AZ := Lib.hid (AZ.out.below hb9 AZ.out.lt))
                     replace B7 := Lib.hid (Below.step B7.out hb9)
                     clear hb9)
                  | refine plan_end ?_)
                all_goals (try dsimp only [Exit.then]; go_step; go_meet; exact ⟨gz, rfl, rfl, ZZ.out, OZ.out.below B7.out⟩)
              case rest =>
                obtain ⟨g9, rfl, rfl, hz, ho⟩ := hcut
                have Z8 := Lib.hid hz
                have O8 := Lib.hid ho
                clear hz ho CN7 OX
                cases ok with
                | false =>
                  have mw := MW2.out (by simp)
                  have MW : Hid ((0 < d2 → MergeAt R (k + 1) (O.set e ⟨cv, clo, qhi⟩)) ∧ (¬ 0 < d2 → MergeAt R (k + 1) O)) := Lib.hid ⟨fun h => mw.1 (D2.out.1 h), fun h => mw.2 (fun h' => h (D2.out.2 h'))⟩
                  clear mw MW2 MA CC2
                  go_upto_region 17 with fail
                  refine wp_region_ord Ext Ext.refl (fun _ _ _ => Ext.trans) ((0, false) :: (1, false) :: (2, false) :: (3, false) :: (4, false) :: (5, false) :: (6, false) :: (7, false) :: (8, false) :: (9, true) :: (10, false) :: (11, false) :: []) (by kernel_rfl) (by kernel_rfl) rfl (by kernel_rfl) (fun _ _ _ _ _ h => h) ?_
                  have OX : Hid (SpOut W1 wc.drew (.slice (some ⟨gO, 0, none⟩) l cO) O) := Lib.hid (O8.out.below (drewN_below wc 1))
                  have Z9 : Hid (Blk wc.drew g9 41 (acells N).toArray) := Z8
                  clear O8 Z8
                  generalize wc.drew = w9 at *
                  repeat (first
                    | (refine ord_skip rfl (by rfl) ?_; simp only [Act.put, List.setIfInBounds_toArray, List.set_cons_zero, List.set_cons_succ])
                    | (refine ord_take _ rfl (by rfl) (fun W hW => yields_part 41 (.tmp 99) rfl bR (oR + k * 33 + 1) (acells qlo) _ rfl (RLo.out W (Below.step OX.out.2.1 hW)) Tryz.underlying41 rfl SQ.out) ?_; simp only [Act.put, List.setIfInBounds_toArray, List.set_cons_zero, List.set_cons_succ])
                    | (refine ord_take _ rfl (by rfl) (fun W hW => yields_row 41 (.tmp 9) rfl g9 41 (acells N).toArray _ rfl (Blk.below Z9.out hW Z9.out.lt) Tryz.underlying41 rfl SN2.out) ?_; simp only [Act.put, List.setIfInBounds_toArray, List.set_cons_zero, List.set_cons_succ])
                    | (refine ord_take _ rfl (by rfl) (fun W hW => by go_simp; first | done | rfl) ?_; simp only [Act.put, List.setIfInBounds_toArray, List.set_cons_zero, List.set_cons_succ]))
                  refine ord_end ?_
                  go_upto_region 18 with fail
                  refine wp_region_ord Ext Ext.refl (fun _ _ _ => Ext.trans) ((0, false) :: (1, false) :: (2, false) :: (3, false) :: (4, false) :: (5, false) :: (6, false) :: (7, false) :: (8, false) :: (9, false) :: (10, true) :: (11, false) :: []) (by kernel_rfl) (by kernel_rfl) rfl (by kernel_rfl) (fun _ _ _ _ _ h => h) ?_
                  have OW : Hid (SpOut W1 w9.drew (.slice (some ⟨gO, 0, none⟩) l cO) O) := Lib.hid (OX.out.below (drewN_below w9 1))
                  clear OX
                  have OX := OW
                  clear OW
                  generalize w9.drew = w10 at *
                  repeat (first
                    | (refine ord_skip rfl (by rfl) ?_; simp only [Act.put, List.setIfInBounds_toArray, List.set_cons_zero, List.set_cons_succ])
                    | (refine ord_take _ rfl (by rfl) (fun W hW => yields_part 41 (.tmp 108) rfl bR (oR + k * 33 + 17) (acells qhi) _ rfl (RHi.out W (Below.step OX.out.2.1 hW)) Tryz.underlying41 rfl SQH.out) ?_; simp only [Act.put, List.setIfInBounds_toArray, List.set_cons_zero, List.set_cons_succ])
                    | (refine ord_take _ rfl (by rfl) (fun W hW => yields_part 41 (.tmp 113) rfl gO (e * 33 + 17) (acells chi) _ rfl (OH.out W (OX.out.below hW)) Tryz.underlying41 rfl SH.out) ?_; simp only [Act.put, List.setIfInBounds_toArray, List.set_cons_zero, List.set_cons_succ])
                    | (refine ord_take _ rfl (by rfl) (fun W hW => by go_simp; first | done | rfl) ?_; simp only [Act.put, List.setIfInBounds_toArray, List.set_cons_zero, List.set_cons_succ])
                    | (refine ord_sole rfl (by rfl) (fun K1 hK1 => ?_)
                       go_simp
                       first
                         | refine (CC3.out _).mono ?_
                       rintro r w5 ⟨rfl, hb5⟩
                       refine hK1 _ _ hb5 ?_
                       clear hK1 K1
                       replace OX := Lib.hid (OX.out.below hb5)
                       clear hb5))
                  refine ord_end ?_
                  by_cases hd : 0 < d2
                  · have td : decide (0 < d2) = true := decide_eq_true hd
                    have MN := Lib.hid (MW.out.1 hd)
                    obtain ⟨S9, T9⟩ := SE.out _ OX
                    have RHA := Lib.hid (RHi.out _ OX.out.2.1)
                    go_wp2_with (first
                      | ((with_reducible refine load_bytes_at 122 bR (oR + k * 33 + 17) (acells qhi) ?_ RHA.out SQH.out ?_); (· rfl))
                      | ((with_reducible refine store_bytes_at 125 123 gO (e * 33 + 17) (acells qhi).toArray ?_ ?_ T9.out SQ2.out AQ1.out ?_); (· rfl); (· rfl)))
                    go_roundw
                    case rel => exact ⟨k + 1, _, by go_num, by omega, by rw [List.length_set]; have := LK.out; have := HLn.out; omega, MN.out, S9.out⟩
                    case measure => simp only [intOf]; omega
                  · have td : decide (0 < d2) = false := decide_eq_false hd
                    have MN := Lib.hid (MW.out.2 hd)
                    go_wp2_with fail
                    go_roundw
                    case rel => exact ⟨k + 1, O, by go_num, by omega, by have := LK.out; have := HLn.out; omega, MN.out, OX.out⟩
                    case measure => simp only [intOf]; omega
                | true =>
                  by_cases h1 : d1 ≤ 0
                  · have t5 : decide (d1 ≤ 0) = true := decide_eq_true h1
                    have mw := MW2.out (by rw [t5]; simp)
                    have MW : Hid ((0 < d2 → MergeAt R (k + 1) (O.set e ⟨cv, clo, qhi⟩)) ∧ (¬ 0 < d2 → MergeAt R (k + 1) O)) := Lib.hid ⟨fun h => mw.1 (D2.out.1 h), fun h => mw.2 (fun h' => h (D2.out.2 h'))⟩
                    clear mw MW2 MA
                    go_upto_region 17 with fail
                    refine wp_region_ord Ext Ext.refl (fun _ _ _ => Ext.trans) ((0, false) :: (1, false) :: (2, false) :: (3, false) :: (4, false) :: (5, false) :: (6, false) :: (7, false) :: (8, false) :: (9, true) :: (10, false) :: (11, false) :: []) (by kernel_rfl) (by kernel_rfl) rfl (by kernel_rfl) (fun _ _ _ _ _ h => h) ?_
                    have OX : Hid (SpOut W1 wc.drew (.slice (some ⟨gO, 0, none⟩) l cO) O) := Lib.hid (O8.out.below (drewN_below wc 1))
                    have Z9 : Hid (Blk wc.drew g9 41 (acells N).toArray) := Z8
                    clear O8 Z8
                    generalize wc.drew = w9 at *
                    repeat (first
                      | (refine ord_skip rfl (by rfl) ?_; simp only [Act.put, List.setIfInBounds_toArray, List.set_cons_zero, List.set_cons_succ])
                      | (refine ord_take _ rfl (by rfl) (fun W hW => yields_part 41 (.tmp 99) rfl bR (oR + k * 33 + 1) (acells qlo) _ rfl (RLo.out W (Below.step OX.out.2.1 hW)) Tryz.underlying41 rfl SQ.out) ?_; simp only [Act.put, List.setIfInBounds_toArray, List.set_cons_zero, List.set_cons_succ])
                      | (refine ord_take _ rfl (by rfl) (fun W hW => yields_row 41 (.tmp 9) rfl g9 41 (acells N).toArray _ rfl (Blk.below Z9.out hW Z9.out.lt) Tryz.underlying41 rfl SN2.out) ?_; simp only [Act.put, List.setIfInBounds_toArray, List.set_cons_zero, List.set_cons_succ])
                      | (refine ord_take _ rfl (by rfl) (fun W hW => by go_simp; first | done | rfl) ?_; simp only [Act.put, List.setIfInBounds_toArray, List.set_cons_zero, List.set_cons_succ])
                      | (refine ord_sole rfl (by rfl) (fun K1 hK1 => ?_)
                         go_simp
                         first
                           | refine (CC2.out _).mono ?_
                         rintro r w5 ⟨rfl, hb5⟩
                         refine hK1 _ _ hb5 ?_
                         clear hK1 K1
                         replace Z9 := Lib.hid (Z9.out.below hb5 Z9.out.lt)
                         replace OX := Lib.hid (OX.out.below hb5)
                         clear hb5))
                    refine ord_end ?_
                    go_upto_region 18 with fail
                    refine wp_region_ord Ext Ext.refl (fun _ _ _ => Ext.trans) ((0, false) :: (1, false) :: (2, false) :: (3, false) :: (4, false) :: (5, false) :: (6, false) :: (7, false) :: (8, false) :: (9, false) :: (10, true) :: (11, false) :: []) (by kernel_rfl) (by kernel_rfl) rfl (by kernel_rfl) (fun _ _ _ _ _ h => h) ?_
                    have OW : Hid (SpOut W1 w5.drew (.slice (some ⟨gO, 0, none⟩) l cO) O) := Lib.hid (OX.out.below (drewN_below w5 1))
                    clear OX
                    have OX := OW
                    clear OW
                    generalize w5.drew = w10 at *
                    repeat (first
                      | (refine ord_skip rfl (by rfl) ?_; simp only [Act.put, List.setIfInBounds_toArray, List.set_cons_zero, List.set_cons_succ])
                      | (refine ord_take _ rfl (by rfl) (fun W hW => yields_part 41 (.tmp 108) rfl bR (oR + k * 33 + 17) (acells qhi) _ rfl (RHi.out W (Below.step OX.out.2.1 hW)) Tryz.underlying41 rfl SQH.out) ?_; simp only [Act.put, List.setIfInBounds_toArray, List.set_cons_zero, List.set_cons_succ])
                      | (refine ord_take _ rfl (by rfl) (fun W hW => yields_part 41 (.tmp 113) rfl gO (e * 33 + 17) (acells chi) _ rfl (OH.out W (OX.out.below hW)) Tryz.underlying41 rfl SH.out) ?_; simp only [Act.put, List.setIfInBounds_toArray, List.set_cons_zero, List.set_cons_succ])
                      | (refine ord_take _ rfl (by rfl) (fun W hW => by go_simp; first | done | rfl) ?_; simp only [Act.put, List.setIfInBounds_toArray, List.set_cons_zero, List.set_cons_succ])
                      | (refine ord_sole rfl (by rfl) (fun K1 hK1 => ?_)
                         go_simp
                         first
                           | refine (CC3.out _).mono ?_
                         rintro r w5 ⟨rfl, hb5⟩
                         refine hK1 _ _ hb5 ?_
                         clear hK1 K1
                         replace OX := Lib.hid (OX.out.below hb5)
                         clear hb5))
                    refine ord_end ?_
                    by_cases hd : 0 < d2
                    · have td : decide (0 < d2) = true := decide_eq_true hd
                      have MN := Lib.hid (MW.out.1 hd)
                      obtain ⟨S9, T9⟩ := SE.out _ OX
                      have RHA := Lib.hid (RHi.out _ OX.out.2.1)
                      go_wp2_with (first
                        | ((with_reducible refine load_bytes_at 122 bR (oR + k * 33 + 17) (acells qhi) ?_ RHA.out SQH.out ?_); (· rfl))
                        | ((with_reducible refine store_bytes_at 125 123 gO (e * 33 + 17) (acells qhi).toArray ?_ ?_ T9.out SQ2.out AQ1.out ?_); (· rfl); (· rfl)))
                      go_roundw
                      case rel => exact ⟨k + 1, _, by go_num, by omega, by rw [List.length_set]; have := LK.out; have := HLn.out; omega, MN.out, S9.out⟩
                      case measure => simp only [intOf]; omega
                    · have td : decide (0 < d2) = false := decide_eq_false hd
                      have MN := Lib.hid (MW.out.2 hd)
                      go_wp2_with fail
                      go_roundw
                      case rel => exact ⟨k + 1, O, by go_num, by omega, by have := LK.out; have := HLn.out; omega, MN.out, OX.out⟩
                      case measure => simp only [intOf]; omega
                  · have t5 : decide (d1 ≤ 0) = false := decide_eq_false h1
                    have MN := Lib.hid (MA.out (by rw [t5]; rfl))
                    clear MW2 MA CC3
                    go_upto_region 17 with fail
                    refine wp_region_ord Ext Ext.refl (fun _ _ _ => Ext.trans) ((0, false) :: (1, false) :: (2, false) :: (3, false) :: (4, false) :: (5, false) :: (6, false) :: (7, false) :: (8, false) :: (9, true) :: (10, false) :: (11, false) :: []) (by kernel_rfl) (by kernel_rfl) rfl (by kernel_rfl) (fun _ _ _ _ _ h => h) ?_
                    have OX : Hid (SpOut W1 wc.drew (.slice (some ⟨gO, 0, none⟩) l cO) O) := Lib.hid (O8.out.below (drewN_below wc 1))
                    have Z9 : Hid (Blk wc.drew g9 41 (acells N).toArray) := Z8
                    clear O8 Z8
                    generalize wc.drew = w9 at *
                    repeat (first
                      | (refine ord_skip rfl (by rfl) ?_; simp only [Act.put, List.setIfInBounds_toArray, List.set_cons_zero, List.set_cons_succ])
                      | (refine ord_take _ rfl (by rfl) (fun W hW => yields_part 41 (.tmp 99) rfl bR (oR + k * 33 + 1) (acells qlo) _ rfl (RLo.out W (Below.step OX.out.2.1 hW)) Tryz.underlying41 rfl SQ.out) ?_; simp only [Act.put, List.setIfInBounds_toArray, List.set_cons_zero, List.set_cons_succ])
                      | (refine ord_take _ rfl (by rfl) (fun W hW => yields_row 41 (.tmp 9) rfl g9 41 (acells N).toArray _ rfl (Blk.below Z9.out hW Z9.out.lt) Tryz.underlying41 rfl SN2.out) ?_; simp only [Act.put, List.setIfInBounds_toArray, List.set_cons_zero, List.set_cons_succ])
                      | (refine ord_take _ rfl (by rfl) (fun W hW => by go_simp; first | done | rfl) ?_; simp only [Act.put, List.setIfInBounds_toArray, List.set_cons_zero, List.set_cons_succ])
                      | (refine ord_sole rfl (by rfl) (fun K1 hK1 => ?_)
                         go_simp
                         first
                           | refine (CC2.out _).mono ?_
                         rintro r w5 ⟨rfl, hb5⟩
                         refine hK1 _ _ hb5 ?_
                         clear hK1 K1
                         replace Z9 := Lib.hid (Z9.out.below hb5 Z9.out.lt)
                         replace OX := Lib.hid (OX.out.below hb5)
                         clear hb5))
                    refine ord_end ?_
                    have OX2 := Lib.hid (show SpOut W1 w5 (.slice (some ⟨gO, 0, none⟩) l cO) O from OX.out)
                    have RGA := Lib.hid (RG.out _ OX.out.2.1)
                    go_wp2_with (first
                      | ((with_reducible refine load_span_at 129 bR (oR + k * 33) (scL ⟨cv, qlo, qhi⟩) ?_ RGA.out LQ.out ?_); (· rfl); rw [EQ.out])
                      | ((with_reducible refine build_span_at 130 (scells ⟨cv, qlo, qhi⟩) ?_ BQ.out ?_); (· rfl))
                      | (at_builtin; go_must (refine sp_append (W0 := W1) (L := O) (zs := [⟨cv, qlo, qhi⟩]) rfl _ _ rfl rfl (OX2.out.alloc _) rfl (sp_one w5 SX.out) (fun e => by cases e) (by rw [HLn.out]; exact LM.out) ?_; intro V8 w8 ho8; have O8 := Lib.hid ho8; clear ho8)))
                    go_roundw
                    case rel => exact ⟨k + 1, O ++ [⟨cv, qlo, qhi⟩], by go_num, by omega, by rw [List.length_append]; have h1 := LK.out; have h2 := HLn.out; show _ + 1 ≤ k + 1; omega, MN.out, O8.out⟩
                    case measure => simp only [intOf]; omega
            · have tv : (cv == qv) = false := by simpa using hv
              rw [tv, Bool.false_and] at MT
              have MN := Lib.hid (MT.out.1 rfl)
              clear MT hv CN CC
              refine wp_region_ord Ext Ext.refl (fun _ _ _ => Ext.trans) ((0, false) :: (1, false) :: (2, false) :: (3, false) :: (4, false) :: (5, false) :: (6, false) :: (7, false) :: (8, false) :: (9, false) :: (10, false) :: (11, false) :: (12, false) :: (13, false) :: (14, false) :: []) (by kernel_rfl) (by kernel_rfl) rfl (by kernel_rfl) (fun _ _ _ _ _ h => h) ?_
              have OX := Lib.hid (show SpOut W1 wr.drew (.slice (some ⟨gO, 0, none⟩) l cO) O from O5.out.below (drewN_below _ 1))
              clear O5
              generalize wr.drew = w7 at *
              repeat (first
                | (refine ord_skip rfl (by rfl) ?_; simp only [Act.put, List.setIfInBounds_toArray, List.set_cons_zero, List.set_cons_succ])
                | (refine ord_take _ rfl (by rfl) (fun W hW => yields_bool (.tmp 70) rfl gO (e * 33) _ rfl (OV.out W (OX.out.below hW))) ?_; simp only [Act.put, List.setIfInBounds_toArray, List.set_cons_zero, List.set_cons_succ])
                | (refine ord_take _ rfl (by rfl) (fun W hW => yields_bool (.tmp 75) rfl bR (oR + k * 33) _ rfl (RV.out W (Below.step OX.out.2.1 hW))) ?_; simp only [Act.put, List.setIfInBounds_toArray, List.set_cons_zero, List.set_cons_succ])
                | (refine ord_take _ rfl (by rfl) (fun W hW => by go_simp; first | done | rfl) ?_; simp only [Act.put, List.setIfInBounds_toArray, List.set_cons_zero, List.set_cons_succ]))
              refine ord_end ?_
              have OX2 := Lib.hid (show SpOut W1 w7 (.slice (some ⟨gO, 0, none⟩) l cO) O from OX.out)
              have RGA := Lib.hid (RG.out _ OX.out.2.1)
              go_wp2_with (first
                | ((with_reducible refine load_span_at 129 bR (oR + k * 33) (scL ⟨qv, qlo, qhi⟩) ?_ RGA.out LQ.out ?_); (· rfl); rw [EQ.out])
                | ((with_reducible refine build_span_at 130 (scells ⟨qv, qlo, qhi⟩) ?_ BQ.out ?_); (· rfl))
                | (at_builtin; go_must (refine sp_append (W0 := W1) (L := O) (zs := [⟨qv, qlo, qhi⟩]) rfl _ _ rfl rfl (OX2.out.alloc _) rfl (sp_one w7 SX.out) (fun e => by cases e) (by rw [HLn.out]; exact LM.out) ?_; intro V8 w8 ho8; have O8 := Lib.hid ho8; clear ho8)))
              go_roundw
              case rel => exact ⟨k + 1, O ++ [⟨qv, qlo, qhi⟩], by go_num, by omega, by rw [List.length_append]; have h1 := LK.out; have h2 := HLn.out; show _ + 1 ≤ k + 1; omega, MN.out, O8.out⟩
              case measure => simp only [intOf]; omega
        · have t3 : decide ((k : Int) < (m : Int)) = false := decide_eq_false (by omega)
          have t4 : decide (k < m) = false := decide_eq_false hlt
          obtain rfl : k = m := by omega
          have JE := Lib.hid (merge_end (S := R) (O := O) (by rw [HM.out]; exact M5.out))
          have O9 := Lib.hid (O5.out.wider B1.out)
          rw [JE.out, RS.out] at O9
          clear JE M5 O5 RW
          go_wp2_with fail
          go_ret
          exact ⟨_, rfl, O9.out⟩
    · obtain ⟨bL, oL, rfl, _⟩ := RL.out.form (by omega)
      have hlt : i < n := by omega
      have kl : i < L.length := by rw [HL.out]; omega
      have t0 : decide ((i : Int) < (n : Int)) = true := decide_eq_true (by omega)
      have i0 : (0 : Int) ≤ (i : Int) := by omega
      have i1 : (i : Int) < (n : Int) := by omega
      have kI : IntKind.i64.wrap ((i : Int) + 1) = (i : Int) + 1 := IntWalk.i64_in _ (by have := HN.out; omega)
      have s6 := RL.out.2.1 _ (List.getElem_mem kl)
      have SX := Lib.hid s6
      have SS : Hid (sortS (if rightZ (L[i]).v (L[i]).lo (L[i]).hi = true then insS (L[i]) R else R) (L.drop (i + 1)) = S) := Lib.hid (by rw [← sort_step kl]; exact S5.out)
      have RG := Lib.hid (fun W (h : Below w.heap.size w W) => (RL.out.below h).range i kl)
      have CK : Hid (∀ W, Calls Tryz.prog 70 #[.agg (scells L[i])] W fun e w' => e = .returned (.bool (rightZ (L[i]).v (L[i]).lo (L[i]).hi)) ∧ Below W.heap.size W w') := Lib.hid (fun W => rsright_any L[i] W s6)
      have LP : Hid ((Tryz.prog.info? 62).map (·.size) = some (scL L[i]).length) := Lib.hid (by rw [scL_len s6, Tryz.sizeS s6, scells_size s6])
      clear s6 S5
      generalize hp : L[i] = p at *
      clear hp
      have EP : Hid ((scL p).toArray = scells p) := Lib.hid rfl
      have RG5 := Lib.hid (RG.out _ O5.out.2.1)
      obtain ⟨aR, cR, rfl, hrow, hnil⟩ := O5.out.row
      have RF := Lib.hid (fun W (h : SpOut w W (.slice aR R.length cR) R) => (show SpRow W aR R.length R ∧ (aR = none → R.length = 0 ∧ cR = 0) ∧ R.length ≤ cR from by
        obtain ⟨a', c', e, h1, h2⟩ := h.row2
        obtain ⟨a'', c'', e2, h3, h4⟩ := h.row
        injection e with e1 _ e3
        subst e1 e3
        injection e2 with e1 _ e3
        subst e1 e3
        exact ⟨h1, fun h0 => by obtain ⟨x, y⟩ := h4 h0; rw [x]; exact ⟨rfl, y⟩, h2⟩))
      clear hrow hnil
      obtain ⟨m, hm⟩ : ∃ m, R.length = m := ⟨_, rfl⟩
      have HM := Lib.hid hm
      rw [hm] at O5 RF hR
      rw [hm]
      clear hm
      generalize hrz : rightZ p.v p.lo p.hi = rz at *
      clear hrz
      cases rz with
      | false =>
        rw [if_neg (by simp)] at SS
        go_wp2_with (first
          | ((with_reducible refine load_span_at 19 bL (oL + i * 33) (scL p) ?_ RG5.out LP.out ?_); (· rfl); rw [EP.out])
          | (go_at_call 70
             with_reducible refine (CK.out _).mono ?_
             rintro r w5 ⟨rfl, hb5⟩
             have O6 := Lib.hid (O5.out.below hb5)
             clear hb5 O5 RG5))
        go_roundg g
        case measure => omega
        case rel => exact ⟨i + 1, R, by go_num, by omega, by rw [HM.out]; omega, SS.out, O6.out⟩
      | true =>
        rw [if_pos rfl] at SS
        go_upto_region 7 with (first
          | ((with_reducible refine load_span_at 19 bL (oL + i * 33) (scL p) ?_ RG5.out LP.out ?_); (· rfl); rw [EP.out])
          | (go_at_call 70
             with_reducible refine (CK.out _).mono ?_
             rintro r w5 ⟨rfl, hb5⟩
             have O6 := Lib.hid (O5.out.below hb5)
             clear hb5 O5 RG5))
        clear CK
        generalize hFP : scells p = FP at *
        have EPF := Lib.hid hFP
        clear hFP
        go_loopg [5] m (fun fk kV wx => ∃ k : Nat, kV = .int .i64 (k : Int) ∧ k + fk = m ∧ (∀ j q, j < k → R[j]? = some q → aheadS q p = true) ∧ SpOut w wx (.slice aR m cR) R)
        case atStart => exact ⟨0, rfl, by omega, fun j q h _ => by omega, O6.out⟩
        case round =>
          obtain ⟨k, rfl, hkm', hah, hox⟩ := hrel
          have hkm : k ≤ m := by omega
          have AH := Lib.hid hah
          have OY := Lib.hid hox
          clear hah hox O6
          rcases gk with _ | f
          · have hke : k = m := by omega
            have t1 : decide ((k : Int) < (m : Int)) = false := decide_eq_false (by omega)
            have t2 : decide (k < m) = false := decide_eq_false (by omega)
            have SPL : Hid (insS p R = R.take k ++ p :: R.drop k) := Lib.hid (ins_split R p k AH.out (by rw [HM.out]; exact hkm) (fun q hq => by rw [List.getElem?_eq_none (by rw [HM.out]; omega)] at hq; cases hq))
            clear AH hke hkm'
            go_upto_region 7 with fail
            refine wp_region_ord Ext Ext.refl (fun _ _ _ => Ext.trans) ((0, false) :: (1, false) :: (2, false) :: (3, false) :: (4, false) :: (5, false) :: (6, false) :: (7, false) :: (8, false) :: (9, false) :: (10, false) :: (11, false) :: (12, false) :: (13, true) :: (14, false) :: []) (by kernel_rfl) (by kernel_rfl) rfl (by kernel_rfl) (fun _ _ _ _ _ h => h) ?_
            have OZ := Lib.hid (show SpOut w wr.drew _ _ from OY.out.below (drewN_below _ 1))
            clear OY
            have OY := OZ
            clear OZ
            generalize wr.drew = w7 at *
            repeat (first
              | (refine ord_skip rfl (by rfl) ?_; simp only [Act.put, List.setIfInBounds_toArray, List.set_cons_zero, List.set_cons_succ])
              | (refine ord_take _ rfl (by rfl) (fun W hW => by go_simp; first | done | rfl) ?_; simp only [Act.put, List.setIfInBounds_toArray, List.set_cons_zero, List.set_cons_succ]))
            refine ord_end ?_
            go_upto_region 9 with fail
            have NL : Hid ((insS p R).length ≤ i + 1) := Lib.hid (by rw [SPL.out]; have := HM.out; simp only [List.length_append, List.length_take, List.length_cons, List.length_drop]; omega)
            have S5 := Lib.hid (SS.out)
            clear SS
            try clear CA
            have OX := Lib.hid (show SpOut w w7.drew _ _ from OY.out.below (drewN_below _ 1))
            clear OY
            obtain ⟨h1, h2, h3⟩ := (show SpRow w7.drew aR m R ∧ (aR = none → m = 0 ∧ cR = 0) ∧ m ≤ cR from RF.out _ OX.out)
            obtain ⟨u1, u2⟩ := upto_row h1 h2 k hkm h3
            obtain ⟨f1, f2⟩ := from_row h1 h2 k hkm h3
            have U1 := Lib.hid (fun W (h : Below w7.drew.heap.size w7.drew W) => u1.below h)
            have U2 := Lib.hid u2
            have F1 := Lib.hid (fun W (h : Below w7.drew.heap.size w7.drew W) => f1.below h)
            have F2 := Lib.hid f2
            have KC : Hid (k ≤ cR) := Lib.hid (by omega)
            have KM : Hid (k ≤ m) := Lib.hid hkm
            have PG := Lib.hid (fun W (h : Below w7.drew.heap.size w7.drew W) => RG.out W (Below.step OX.out.2.1 h))
            have LN : Hid (R.length ≤ 40000) := Lib.hid (by have := HN.out; have := HM.out; omega)
            clear h1 h2 h3 u1 u2 f1 f2 RG
            obtain ⟨A1, hA1⟩ : ∃ A1, uptoA aR cR = A1 := ⟨_, rfl⟩
            obtain ⟨A2, hA2⟩ : ∃ A2, fromA aR cR k = A2 := ⟨_, rfl⟩
            have EA1 := Lib.hid hA1
            have EA2 := Lib.hid hA2
            rw [hA1] at U1 U2
            rw [hA2] at F1 F2
            clear hA1 hA2
            have IS := Lib.hid (SPL.out)
            clear SPL
            refine wp_region_plan (ExtB w7.drew.heap.size) (ExtB.refl _) ExtB.trans (.take 1 (.take 2 (.take 3 (.take 5 (.take 6 (.take 7 (.take 8 (.take 11 (.take 12 (.take 13 (.fork 0 (.fork 4 (.sole 9 (.sole 10 (.sole 14 (.take 15 .fin)))) 9 (.sole 4 (.sole 10 (.sole 14 (.take 15 .fin))))) 9 (.sole 0 (.sole 4 (.sole 10 (.sole 14 (.take 15 .fin)))))))))))))))) (by kernel_rfl) (by kernel_rfl) rfl (by kernel_rfl) (fun _ _ _ _ _ h => h) ?_
            have B9 : Hid (Below w7.drew.heap.size w7.drew w7.drew) := Lib.hid (Below.refl _ _)
            generalize w7.drew = W9 at *
            repeat' (first
            | (refine plan_take (.slice A1 k cR) rfl (by rfl) (fun W hW => by rw [← EA1.out]; exact yields_upto (.tmp 41) (.tmp 42) rfl aR m cR k rfl rfl KC.out) ?_; simp only [Act.put, List.setIfInBounds_toArray, List.set_cons_zero, List.set_cons_succ])
            | (refine plan_take (.slice A2 (m - k) (cR - k)) rfl (by rfl) (fun W hW => by rw [← EA2.out]; exact yields_from (.tmp 51) (.tmp 52) rfl aR m cR k rfl rfl KM.out) ?_; simp only [Act.put, List.setIfInBounds_toArray, List.set_cons_zero, List.set_cons_succ])
            | (refine plan_take (.agg FP) rfl (by rfl) (fun W hW => by rw [← EP.out]; exact yields_part 62 (.tmp 47) rfl bL (oL + i * 33) (scL p) _ rfl (PG.out W (B9.out.trans hW)) Tryz.underlying62 rfl LP.out) ?_; simp only [Act.put, List.setIfInBounds_toArray, List.set_cons_zero, List.set_cons_succ])
            | (refine plan_take _ rfl (by rfl) (fun W hW => by go_simp; first | done | rfl) ?_; simp only [Act.put, List.setIfInBounds_toArray, List.set_cons_zero, List.set_cons_succ])
            | (refine plan_fork ?_ ?_)
            | ((first | refine plan_sole (sole_take rfl (by rfl) (fun K1 hK1 => ?_)) | refine sole_take rfl (by rfl) (fun K1 hK1 => ?_))
               refine op_sp_build0 rfl B9.out ?_
               intro g0 w7 ho7 hb7 hge7 hlt7
               refine hK1 _ _ (hb7.mono B9.out.size) ?_
               clear hK1 K1
               try (have NE : Hid (g0 ≠ g9) := Lib.hid (by have := L9.out; omega))
               try (replace P9 := Lib.hid (P9.out.below hb7))
               try (replace L9 := Lib.hid (Nat.lt_of_lt_of_le L9.out hb7.size))
               have O9 := Lib.hid ho7
               have L0 := Lib.hid hlt7
               replace B9 := Lib.hid (Below.step B9.out hb7)
               clear ho7 hb7 hge7 hlt7
               simp only [Act.put, List.setIfInBounds_toArray, List.set_cons_zero, List.set_cons_succ])
            | ((first | refine plan_sole (sole_take rfl (by rfl) (fun K1 hK1 => ?_)) | refine sole_take rfl (by rfl) (fun K1 hK1 => ?_))
               refine op_sp_build1 p SX.out _ rfl (by rw [EPF.out]; kernel_rfl) ?_
               intro g9 w7 ho7 hb7 hge7 hlt7
               refine hK1 _ _ (hb7.mono B9.out.size) ?_
               clear hK1 K1
               try (have NE : Hid (g0 ≠ g9) := Lib.hid (by have := L0.out; omega))
               try (replace O9 := Lib.hid (O9.out.below hb7))
               try (replace O4 := Lib.hid (O4.out.below hb7))
               have P9 := Lib.hid ho7
               have L9 := Lib.hid hlt7
               replace B9 := Lib.hid (Below.step B9.out hb7)
               clear ho7 hb7 hge7 hlt7
               simp only [Act.put, List.setIfInBounds_toArray, List.set_cons_zero, List.set_cons_succ])
            | ((first | refine plan_sole (sole_take rfl (by rfl) (fun K1 hK1 => ?_)) | refine sole_take rfl (by rfl) (fun K1 hK1 => ?_))
               refine op_sp_append (.tmp 40) (.tmp 43) rfl rfl O9.out rfl (U1.out _ B9.out) U2.out (by have := LN.out; have := KM.out; have := HM.out; simp only [List.length_nil]; omega) ?_
               intro V4 w7 ho7 hb7 hk7
               refine hK1 _ _ hb7 ?_
               clear hK1 K1
               try (replace P9 := Lib.hid (P9.out.kept (hk7 g9 L9.out (fun e => NE.out (Option.some.inj e))) (Nat.lt_of_lt_of_le L9.out hb7.size)))
               try (replace L9 := Lib.hid (Nat.lt_of_lt_of_le L9.out hb7.size))
               have O4 := Lib.hid ho7
               replace B9 := Lib.hid ho7.2.1
               clear ho7 hb7 hk7 O9 U1 U2
               simp only [Act.put, List.setIfInBounds_toArray, List.set_cons_zero, List.set_cons_succ])
            | ((first | refine plan_sole (sole_take rfl (by rfl) (fun K1 hK1 => ?_)) | refine sole_take rfl (by rfl) (fun K1 hK1 => ?_))
               refine op_sp_append (.tmp 44) (.tmp 49) rfl rfl O4.out rfl P9.out (fun e => by cases e) (by have := LN.out; simp only [List.length_append, List.length_take, List.length_nil]; omega) ?_
               intro V5 w7 ho7 hb7 hk7
               refine hK1 _ _ hb7 ?_
               clear hK1 K1
               have O10 := Lib.hid ho7
               replace B9 := Lib.hid ho7.2.1
               clear ho7 hb7 hk7 O4 P9
               simp only [Act.put, List.setIfInBounds_toArray, List.set_cons_zero, List.set_cons_succ])
            | ((first | refine plan_sole (sole_take rfl (by rfl) (fun K1 hK1 => ?_)) | refine sole_take rfl (by rfl) (fun K1 hK1 => ?_))
               refine op_sp_append (.tmp 50) (.tmp 53) rfl rfl O10.out rfl (F1.out _ B9.out) F2.out (by have := LN.out; have := HM.out; simp only [List.length_append, List.length_take, List.length_nil, List.length_cons]; omega) ?_
               intro V6 w7 ho7 hb7 hk7
               refine hK1 _ _ hb7 ?_
               clear hK1 K1
               have O14 := Lib.hid ho7
               clear ho7 hb7 hk7 O10 F1 F2 B9
               simp only [Act.put, List.setIfInBounds_toArray, List.set_cons_zero, List.set_cons_succ])
            | refine plan_end ?_)
            all_goals
              have e9 := O14.out.wider OX.out.2.1
              rw [List.nil_append, List.append_assoc, List.singleton_append, ← IS.out] at e9
              have O5 := Lib.hid e9
              clear e9 O14 OX PG RF
              try dsimp only [Exit.then]
              go_wp2_with fail
              go_roundg g
              case measure => omega
              case rel => exact ⟨i + 1, insS p R, by go_num, by omega, NL.out, S5.out, O5.out⟩
          · have hlt7 : k < m := by omega
            have k7 : k < R.length := by rw [HM.out]; exact hlt7
            obtain ⟨h1, _, _⟩ := RF.out _ OY.out
            obtain ⟨bR, oR, rfl, _⟩ := h1.form (by omega)
            clear h1
            have t1 : decide ((k : Int) < (m : Int)) = true := decide_eq_true (by omega)
            have t2 : decide (k < m) = true := decide_eq_true (by omega)
            have x0 : (0 : Int) ≤ (k : Int) := by omega
            have x1 : (k : Int) < (m : Int) := by omega
            have xI : IntKind.i64.wrap ((k : Int) + 1) = (k : Int) + 1 := IntWalk.i64_in _ (by have := HN.out; omega)
            have q6 := OY.out.2.2 _ (List.getElem_mem k7)
            have QG := Lib.hid (fun W (h : SpOut w W (.slice (some ⟨bR, oR, none⟩) m cR) R) => (RF.out W h).1.range k k7)
            have LQ : Hid ((Tryz.prog.info? 62).map (·.size) = some (scL R[k]).length) := Lib.hid (by rw [scL_len q6, Tryz.sizeS q6, scells_size q6])
            have CA7 : Hid (∀ W, Calls Tryz.prog 71 #[.agg (scL R[k]).toArray, .agg FP] W fun e w' => e = .returned (.bool (aheadS R[k] p)) ∧ Below W.heap.size W w') := Lib.hid (fun W => by rw [← EP.out]; exact CA.out R[k] p W q6 SX.out)
            have GE : Hid (R[k]? = some R[k]) := Lib.hid (List.getElem?_eq_getElem k7)
            clear CA q6
            generalize R[k] = q at *
            obtain ⟨ah, hahq⟩ : ∃ ah, aheadS q p = ah := ⟨_, rfl⟩
            have AQ := Lib.hid hahq
            rw [hahq] at CA7
            clear hahq
            generalize hFQ : (scL q).toArray = FQ at *
            have EQ := Lib.hid hFQ
            clear hFQ
            go_upto_region 7 with fail
            refine wp_region_ord Ext Ext.refl (fun _ _ _ => Ext.trans) ((0, false) :: (1, false) :: (2, false) :: (3, false) :: (4, false) :: (5, false) :: (6, false) :: (7, false) :: (8, false) :: (9, false) :: (10, false) :: (11, false) :: (12, false) :: (13, true) :: (14, false) :: []) (by kernel_rfl) (by kernel_rfl) rfl (by kernel_rfl) (fun _ _ _ _ _ h => h) ?_
            have OZ := Lib.hid (show SpOut w wr.drew _ _ from OY.out.below (drewN_below _ 1))
            clear OY
            have OY := OZ
            clear OZ
            generalize wr.drew = w7 at *
            repeat (first
              | (refine ord_skip rfl (by rfl) ?_; simp only [Act.put, List.setIfInBounds_toArray, List.set_cons_zero, List.set_cons_succ])
              | (refine ord_take (.agg FQ) rfl (by rfl) (fun W hW => by rw [← EQ.out]; exact yields_part 62 (.tmp 30) rfl bR (oR + k * 33) (scL q) _ rfl (QG.out W (OY.out.below hW)) Tryz.underlying62 rfl LQ.out) ?_; simp only [Act.put, List.setIfInBounds_toArray, List.set_cons_zero, List.set_cons_succ])
              | (refine ord_take (.agg FP) rfl (by rfl) (fun W hW => by rw [← EP.out]; exact yields_part 62 (.tmp 34) rfl bL (oL + i * 33) (scL p) _ rfl (RG.out W (Below.step OY.out.2.1 hW)) Tryz.underlying62 rfl LP.out) ?_; simp only [Act.put, List.setIfInBounds_toArray, List.set_cons_zero, List.set_cons_succ])
              | (refine ord_take _ rfl (by rfl) (fun W hW => by go_simp; first | done | rfl) ?_; simp only [Act.put, List.setIfInBounds_toArray, List.set_cons_zero, List.set_cons_succ])
              | (refine ord_sole rfl (by rfl) (fun K1 hK1 => ?_)
                 go_simp
                 first
                   | refine (CA7.out _).mono ?_
                 rintro r w5 ⟨rfl, hb5⟩
                 refine hK1 _ _ hb5 ?_
                 clear hK1 K1
                 replace OY := Lib.hid (OY.out.below hb5)
                 clear hb5))
            refine ord_end ?_
            clear CA7
            clear QG LQ
            cases ah with
            | true =>
              have AH2 : Hid (∀ j q, j < k + 1 → R[j]? = some q → aheadS q p = true) := Lib.hid (fun j x hj hx => by
                rcases Nat.lt_or_ge j k with h | h
                · exact AH.out j x h hx
                · obtain rfl : j = k := by omega
                  rw [GE.out] at hx
                  injection hx with hx
                  subst hx
                  exact AQ.out)
              clear AH
              go_wp2_with fail
              go_roundg f
              case measure => omega
              case rel => exact ⟨k + 1, by go_num, by omega, AH2.out, OY.out⟩
            | false =>
              have SPL : Hid (insS p R = R.take k ++ p :: R.drop k) := Lib.hid (ins_split R p k AH.out (by rw [HM.out]; exact hkm) (fun x hx => by rw [GE.out] at hx; injection hx with hx; subst hx; exact AQ.out))
              obtain ⟨aR, haR⟩ : ∃ aR : Option Addr, some ⟨bR, oR, none⟩ = aR := ⟨_, rfl⟩
              rw [haR] at OY RF
              rw [haR]
              clear AH haR
              go_upto_region 9 with fail
              have NL : Hid ((insS p R).length ≤ i + 1) := Lib.hid (by rw [SPL.out]; have := HM.out; simp only [List.length_append, List.length_take, List.length_cons, List.length_drop]; omega)
              have S5 := Lib.hid (SS.out)
              clear SS
              try clear CA
              have OX := Lib.hid (show SpOut w w5.drew _ _ from OY.out.below (drewN_below _ 1))
              clear OY
              obtain ⟨h1, h2, h3⟩ := (show SpRow w5.drew aR m R ∧ (aR = none → m = 0 ∧ cR = 0) ∧ m ≤ cR from RF.out _ OX.out)
              obtain ⟨u1, u2⟩ := upto_row h1 h2 k hkm h3
              obtain ⟨f1, f2⟩ := from_row h1 h2 k hkm h3
              have U1 := Lib.hid (fun W (h : Below w5.drew.heap.size w5.drew W) => u1.below h)
              have U2 := Lib.hid u2
              have F1 := Lib.hid (fun W (h : Below w5.drew.heap.size w5.drew W) => f1.below h)
              have F2 := Lib.hid f2
              have KC : Hid (k ≤ cR) := Lib.hid (by omega)
              have KM : Hid (k ≤ m) := Lib.hid hkm
              have PG := Lib.hid (fun W (h : Below w5.drew.heap.size w5.drew W) => RG.out W (Below.step OX.out.2.1 h))
              have LN : Hid (R.length ≤ 40000) := Lib.hid (by have := HN.out; have := HM.out; omega)
              clear h1 h2 h3 u1 u2 f1 f2 RG
              obtain ⟨A1, hA1⟩ : ∃ A1, uptoA aR cR = A1 := ⟨_, rfl⟩
              obtain ⟨A2, hA2⟩ : ∃ A2, fromA aR cR k = A2 := ⟨_, rfl⟩
              have EA1 := Lib.hid hA1
              have EA2 := Lib.hid hA2
              rw [hA1] at U1 U2
              rw [hA2] at F1 F2
              clear hA1 hA2
              have IS := Lib.hid (SPL.out)
              clear SPL
              refine wp_region_plan (ExtB w5.drew.heap.size) (ExtB.refl _) ExtB.trans (.take 1 (.take 2 (.take 3 (.take 5 (.take 6 (.take 7 (.take 8 (.take 11 (.take 12 (.take 13 (.fork 0 (.fork 4 (.sole 9 (.sole 10 (.sole 14 (.take 15 .fin)))) 9 (.sole 4 (.sole 10 (.sole 14 (.take 15 .fin))))) 9 (.sole 0 (.sole 4 (.sole 10 (.sole 14 (.take 15 .fin)))))))))))))))) (by kernel_rfl) (by kernel_rfl) rfl (by kernel_rfl) (fun _ _ _ _ _ h => h) ?_
              have B9 : Hid (Below w5.drew.heap.size w5.drew w5.drew) := Lib.hid (Below.refl _ _)
              generalize w5.drew = W9 at *
              repeat' (first
              | (refine plan_take (.slice A1 k cR) rfl (by rfl) (fun W hW => by rw [← EA1.out]; exact yields_upto (.tmp 41) (.tmp 42) rfl aR m cR k rfl rfl KC.out) ?_; simp only [Act.put, List.setIfInBounds_toArray, List.set_cons_zero, List.set_cons_succ])
              | (refine plan_take (.slice A2 (m - k) (cR - k)) rfl (by rfl) (fun W hW => by rw [← EA2.out]; exact yields_from (.tmp 51) (.tmp 52) rfl aR m cR k rfl rfl KM.out) ?_; simp only [Act.put, List.setIfInBounds_toArray, List.set_cons_zero, List.set_cons_succ])
              | (refine plan_take (.agg FP) rfl (by rfl) (fun W hW => by rw [← EP.out]; exact yields_part 62 (.tmp 47) rfl bL (oL + i * 33) (scL p) _ rfl (PG.out W (B9.out.trans hW)) Tryz.underlying62 rfl LP.out) ?_; simp only [Act.put, List.setIfInBounds_toArray, List.set_cons_zero, List.set_cons_succ])
              | (refine plan_take _ rfl (by rfl) (fun W hW => by go_simp; first | done | rfl) ?_; simp only [Act.put, List.setIfInBounds_toArray, List.set_cons_zero, List.set_cons_succ])
              | (refine plan_fork ?_ ?_)
              | ((first | refine plan_sole (sole_take rfl (by rfl) (fun K1 hK1 => ?_)) | refine sole_take rfl (by rfl) (fun K1 hK1 => ?_))
                 refine op_sp_build0 rfl B9.out ?_
                 intro g0 w7 ho7 hb7 hge7 hlt7
                 refine hK1 _ _ (hb7.mono B9.out.size) ?_
                 clear hK1 K1
                 try (have NE : Hid (g0 ≠ g9) := Lib.hid (by have := L9.out; omega))
                 try (replace P9 := Lib.hid (P9.out.below hb7))
                 try (replace L9 := Lib.hid (Nat.lt_of_lt_of_le L9.out hb7.size))
                 have O9 := Lib.hid ho7
                 have L0 := Lib.hid hlt7
                 replace B9 := Lib.hid (Below.step B9.out hb7)
                 clear ho7 hb7 hge7 hlt7
                 simp only [Act.put, List.setIfInBounds_toArray, List.set_cons_zero, List.set_cons_succ])
              | ((first | refine plan_sole (sole_take rfl (by rfl) (fun K1 hK1 => ?_)) | refine sole_take rfl (by rfl) (fun K1 hK1 => ?_))
                 refine op_sp_build1 p SX.out _ rfl (by rw [EPF.out]; kernel_rfl) ?_
                 intro g9 w7 ho7 hb7 hge7 hlt7
                 refine hK1 _ _ (hb7.mono B9.out.size) ?_
                 clear hK1 K1
                 try (have NE : Hid (g0 ≠ g9) := Lib.hid (by have := L0.out; omega))
                 try (replace O9 := Lib.hid (O9.out.below hb7))
                 try (replace O4 := Lib.hid (O4.out.below hb7))
                 have P9 := Lib.hid ho7
                 have L9 := Lib.hid hlt7
                 replace B9 := Lib.hid (Below.step B9.out hb7)
                 clear ho7 hb7 hge7 hlt7
                 simp only [Act.put, List.setIfInBounds_toArray, List.set_cons_zero, List.set_cons_succ])
              | ((first | refine plan_sole (sole_take rfl (by rfl) (fun K1 hK1 => ?_)) | refine sole_take rfl (by rfl) (fun K1 hK1 => ?_))
                 refine op_sp_append (.tmp 40) (.tmp 43) rfl rfl O9.out rfl (U1.out _ B9.out) U2.out (by have := LN.out; have := KM.out; have := HM.out; simp only [List.length_nil]; omega) ?_
                 intro V4 w7 ho7 hb7 hk7
                 refine hK1 _ _ hb7 ?_
                 clear hK1 K1
                 try (replace P9 := Lib.hid (P9.out.kept (hk7 g9 L9.out (fun e => NE.out (Option.some.inj e))) (Nat.lt_of_lt_of_le L9.out hb7.size)))
                 try (replace L9 := Lib.hid (Nat.lt_of_lt_of_le L9.out hb7.size))
                 have O4 := Lib.hid ho7
                 replace B9 := Lib.hid ho7.2.1
                 clear ho7 hb7 hk7 O9 U1 U2
                 simp only [Act.put, List.setIfInBounds_toArray, List.set_cons_zero, List.set_cons_succ])
              | ((first | refine plan_sole (sole_take rfl (by rfl) (fun K1 hK1 => ?_)) | refine sole_take rfl (by rfl) (fun K1 hK1 => ?_))
                 refine op_sp_append (.tmp 44) (.tmp 49) rfl rfl O4.out rfl P9.out (fun e => by cases e) (by have := LN.out; simp only [List.length_append, List.length_take, List.length_nil]; omega) ?_
                 intro V5 w7 ho7 hb7 hk7
                 refine hK1 _ _ hb7 ?_
                 clear hK1 K1
                 have O10 := Lib.hid ho7
                 replace B9 := Lib.hid ho7.2.1
                 clear ho7 hb7 hk7 O4 P9
                 simp only [Act.put, List.setIfInBounds_toArray, List.set_cons_zero, List.set_cons_succ])
              | ((first | refine plan_sole (sole_take rfl (by rfl) (fun K1 hK1 => ?_)) | refine sole_take rfl (by rfl) (fun K1 hK1 => ?_))
                 refine op_sp_append (.tmp 50) (.tmp 53) rfl rfl O10.out rfl (F1.out _ B9.out) F2.out (by have := LN.out; have := HM.out; simp only [List.length_append, List.length_take, List.length_nil, List.length_cons]; omega) ?_
                 intro V6 w7 ho7 hb7 hk7
                 refine hK1 _ _ hb7 ?_
                 clear hK1 K1
                 have O14 := Lib.hid ho7
                 clear ho7 hb7 hk7 O10 F1 F2 B9
                 simp only [Act.put, List.setIfInBounds_toArray, List.set_cons_zero, List.set_cons_succ])
              | refine plan_end ?_)
              all_goals
                have e9 := O14.out.wider OX.out.2.1
                rw [List.nil_append, List.append_assoc, List.singleton_append, ← IS.out] at e9
                have O5 := Lib.hid e9
                clear e9 O14 OX PG RF
                try dsimp only [Exit.then]
                go_wp2_with fail
                go_roundg g
                case measure => omega
                case rel => exact ⟨i + 1, insS p R, by go_num, by omega, NL.out, S5.out, O5.out⟩
end Go.Proofs.YtlmndmfebgaidaaGreatDoor
