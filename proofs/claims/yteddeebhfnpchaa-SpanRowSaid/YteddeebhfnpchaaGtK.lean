/-
  Merged texts: StD.
-/
import Derived.Test.YteddeebhfnpchaaGtJ
import Derived.Test.YteddeebhfnpchaaGtG
import Derived.Deep.CutRange
namespace Go.Proofs.Yteddeebhfnpchaa
open Go.RowKit
set_option linter.unusedVariables false

set_option maxHeartbeats 4000000 in
set_option maxRecDepth 100000 in
theorem row_any (a : Option Addr) (n c : Nat) (L : List SpanZ) (w : World) (ha : SpArg w a n c L) :
    Calls Try.prog 4 #[.slice a n c] w fun e w' => e = .returned (.bool true) ∧ Below w.heap.size w w' := by
  have UP := Lib.hid (awake_any w)
  have RA := Lib.hid ha
  have sa := ha.spans
  have LJ := Lib.hid (joinS_len L)
  have LL := Lib.hid ha.1.1
  have JO := Lib.hid (join_ok sa)
  have JA := Lib.hid (fun J (h : joinS L = J) => (show ∀ e (h : e + 1 < J.length), (J[e].v = true → J[e + 1].v = true) ∧ (J[e].v = J[e + 1].v → okN J[e].v J[e].hi = true ∧ cmpN (aN (nextA J[e].v J[e].hi)) (aN J[e + 1].lo) < 0) from by subst h; exact joined_at sa))
  have JT : Hid (joinS (joinS L) = joinS L) := Lib.hid (join_twice sa)
  have I1 : Hid (inS L (joinS L) = true) := Lib.hid ((inS_is sa (spans_ok (join_ok sa))).2 (fun x hx => (in_joinS sa).2 hx))
  have I2 : Hid (inS (joinS L) L = true) := Lib.hid ((inS_is (spans_ok (join_ok sa)) sa).2 (fun x hx => (in_joinS sa).1 hx))
  have ES : Hid (eqLS (joinS L) (joinS L) = true) := Lib.hid (eqLS_self _)
  have CW := Lib.hid (fun (a b : Option Addr) (n m ca cb : Nat) (X Y : List SpanZ) (W : World) (h : SpArg W a n ca X) (hn : n ≤ 40000) (g : SpArg W b m cb Y) (hm : m ≤ 40000) => within_any a b n ca m cb X Y W h.1 h.2 hn g.1 g.2 hm)
  have CJ := Lib.hid (fun (a : Option Addr) (n ca : Nat) (X : List SpanZ) (W : World) (h : SpArg W a n ca X) (hn : n ≤ 40000) => join_any a n ca X W h.1 h.2 (by omega))
  have CS := Lib.hid (fun (a b : Option Addr) (n m ca cb : Nat) (X Y : List SpanZ) (W : World) (h : SpArg W a n ca X) (hn : n ≤ 40000) (g : SpArg W b m cb Y) (hm : m ≤ 40000) => same_any a b n ca m cb X Y W h.1 (by omega) g.1 (by omega))
  have CR := Lib.hid (fun (s : SpanZ) W (h : SixS s) => sright_any s W h)
  have CN := Lib.hid (fun (v : Bool) (A : List Int) W (h : Sixteen A) => rnext_any v A W h)
  have CC := Lib.hid (fun (A B : List Int) W (h : Sixteen A) (k : Sixteen B) => rcmpaddr_any A B W h k)
  have B0 : Hid (Below w.heap.size w w) := Lib.hid (Below.refl _ _)
  clear ha sa
  go_enter Try.func4, Try.ntmps4
  by_cases h40 : n > 40
  · have t1 : decide ((40 : Int) < (n : Int)) = true := decide_eq_true (by omega)
    go_wp2_with (go_at_call 7; refine UP.out.mono ?_; rintro r w1 ⟨rfl, hb1⟩)
    go_ret
    exact ⟨rfl, hb1⟩
  have t1 : decide ((40 : Int) < (n : Int)) = false := decide_eq_false (by omega)
  have QA : Hid (n ≤ 40000) := Lib.hid (by omega)
  have QJ : Hid ((joinS L).length ≤ 40000) := Lib.hid (by have := LJ.out; have := LL.out; omega)
  clear LJ LL
  generalize hJ : joinS L = J at *
  have EJ := Lib.hid hJ
  clear hJ
  replace JA := Lib.hid (JA.out J rfl)
  go_wp2_with (first
    | (go_at_call 7
       refine UP.out.mono ?_
       rintro r w1 ⟨rfl, hb1⟩
       have RA1 := Lib.hid (RA.out.below hb1)
       have B1 := Lib.hid (Below.step B0.out hb1)
       clear hb1 UP B0 RA)
    | (go_at_call 9
       refine (CJ.out _ _ _ _ _ RA1.out QA.out).mono ?_
       rw [EJ.out]
       rintro r w2 ⟨V2, rfl, ho2⟩
       obtain ⟨aJ, cJ, rfl, hr2⟩ := ho2.arg
       have RJ2 := Lib.hid hr2
       have RA2 := Lib.hid (RA1.out.below ho2.2.1)
       have B2 := Lib.hid (Below.step B1.out ho2.2.1)
       clear ho2 hr2 RA1 B1))
  obtain ⟨m, hm⟩ : ∃ m, J.length = m := ⟨_, rfl⟩
  have HM := Lib.hid hm
  rw [hm] at RJ2 QJ
  rw [hm]
  clear hm
  go_loopw [5] (fun iV wr => ∃ k : Nat, iV = .int .i64 (k : Int) ∧ k ≤ m ∧ Below w2.heap.size w2 wr) (fun iV _ => ((m : Int) - intOf iV).toNat)
  case atStart => exact ⟨0, rfl, Nat.zero_le _, Below.refl _ _⟩
  case round =>
    obtain ⟨k, rfl, hk, hb⟩ := hrel
    have B5 := Lib.hid hb
    clear hb
    by_cases hlt : k < m
    · have t0 : decide ((k : Int) < (m : Int)) = true := decide_eq_true (by omega)
      obtain ⟨bJ, oJ, rfl, _⟩ := RJ2.out.1.form (by omega)
      have kl : k < J.length := by rw [HM.out]; exact hlt
      have i0 : (0 : Int) ≤ (k : Int) := by omega
      have i1 : (k : Int) < (m : Int) := by omega
      have kI : IntKind.i64.wrap ((k : Int) + 1) = (k : Int) + 1 := IntWalk.i64_in _ (by have := QJ.out; omega)
      have qk := JO.out _ (List.getElem_mem kl)
      have RG := Lib.hid (fun W (h : Below w2.heap.size w2 W) => (RJ2.out.1.below h).range k kl)
      have RV := Lib.hid (fun W (h : Below w2.heap.size w2 W) => (RJ2.out.1.below h).v k kl)
      have RL := Lib.hid (fun W (h : Below w2.heap.size w2 W) => (RJ2.out.1.below h).lo k kl)
      have J6 := Lib.hid (fun e (he : k = e + 1) => (show ((J[e]'(by omega)).v = true → J[k].v = true) ∧ ((J[e]'(by omega)).v = J[k].v → okN (J[e]'(by omega)).v (J[e]'(by omega)).hi = true ∧ cmpN (aN (nextA (J[e]'(by omega)).v (J[e]'(by omega)).hi)) (aN J[k].lo) < 0) from by subst he; exact JA.out e (by omega)))
      have q6 : SixS J[k] := ⟨qk.1, qk.2.1⟩
      have QR : Hid (rightZ J[k].v J[k].lo J[k].hi = true) := Lib.hid qk.2.2
      have CK : Hid (∀ W, Calls Try.prog 15 #[.agg (scells J[k])] W fun e w' => e = .returned (.bool true) ∧ Below W.heap.size W w') := Lib.hid (fun W => by rw [← QR.out]; exact CR.out J[k] W q6)
      have EK : Hid ((scL J[k]).toArray = scells J[k]) := Lib.hid rfl
      have LQ : Hid ((Try.prog.info? 30).map (·.size) = some (scL J[k]).length) := Lib.hid (by rw [scL_len q6, Try.sizeS q6, scells_size q6])
      have SL := Lib.hid (Try.sizeA q6.1.1)
      have Q6 := Lib.hid q6
      have PE := Lib.hid (fun e (he : e < k) => JO.out (J[e]'(by omega)) (List.getElem_mem _))
      have PV := Lib.hid (fun e (he : e < k) W (h : Below w2.heap.size w2 W) => (RJ2.out.1.below h).v e (by omega))
      have PH := Lib.hid (fun e (he : e < k) W (h : Below w2.heap.size w2 W) => (RJ2.out.1.below h).hi e (by omega))
      clear qk q6 QR CR JA
      generalize hq : J[k] = q at *
      clear hq
      rcases k with _ | e
      · clear J6 PE PV PH
        generalize scL q = FQ at *
        generalize scells q = GQ at *
        have RG5 : Hid (wr.rangeAt bJ oJ FQ) := Lib.hid (by have := RG.out _ B5.out; rwa [Nat.zero_mul, Nat.add_zero] at this)
        go_upto_region 8 with fail
        go_upto_region 10 with (first
          | ((with_reducible refine load_span_at 24 bJ oJ FQ ?_ RG5.out LQ.out ?_); (· rfl); rw [EK.out])
          | (go_at_call 15
             with_reducible refine (CK.out _).mono ?_
             rintro r w5 ⟨rfl, hb5⟩
             have B6 := Lib.hid (Below.step B5.out hb5)
             clear hb5 B5 RG5))
        have B7 : Hid (Below w2.heap.size w2 w5.drew) := Lib.hid B6.out.drew
        clear B6
        have B6 := B7
        clear B7
        refine wp_region_ord Ext Ext.refl (fun _ _ _ => Ext.trans) ((0, false) :: (1, false) :: (2, false) :: (3, false) :: (4, false) :: (5, false) :: (6, false) :: (7, false) :: (8, false) :: (9, false) :: (10, false) :: (11, false) :: (12, false) :: (13, false) :: (14, false) :: (15, false) :: []) (by kernel_rfl) (by kernel_rfl) rfl (by kernel_rfl) (fun _ _ _ _ _ h => h) ?_
        generalize w5.drew = w6 at *
        repeat (first
          | (refine ord_skip rfl (by rfl) ?_; simp only [Act.put, List.setIfInBounds_toArray, List.set_cons_zero, List.set_cons_succ])
          | (refine ord_take _ rfl (by rfl) (fun W hW => by go_simp; first | done | rfl) ?_; simp only [Act.put, List.setIfInBounds_toArray, List.set_cons_zero, List.set_cons_succ]))
        refine ord_end ?_
        go_wp2_with fail
        go_roundw
        case rel => exact ⟨1, by go_num, by omega, B6.out⟩
        case measure => simp only [intOf]; omega
      · have J7 := Lib.hid (J6.out e rfl)
        have pe := PE.out e (by omega)
        have PV7 := Lib.hid (PV.out e (by omega))
        have PH7 := Lib.hid (PH.out e (by omega))
        have p6 : SixS (J[e]'(by omega)) := ⟨pe.1, pe.2.1⟩
        have P6 := Lib.hid p6
        have SH := Lib.hid (Try.sizeA p6.2.1)
        clear pe p6 J6 PE PV PH JO
        generalize J[e]'_ = p at *
        have j7 := J7.out
        clear J7
        obtain ⟨k, hk1⟩ : ∃ k, e + 1 = k := ⟨_, rfl⟩
        have HK := Lib.hid hk1
        rw [hk1] at RG RV RL kI i0 i1 t0 kl hlt hk
        rw [hk1]
        have q1 : IntKind.i64.wrap ((k : Int) - 1) = (e : Int) := by
          rw [show (k : Int) - 1 = (e : Int) by omega]
          exact IntWalk.i64_in _ (by have := QJ.out; omega)
        have x0 : (0 : Int) ≤ (e : Int) := by omega
        have x1 : (e : Int) < (m : Int) := by omega
        have k0 : decide ((0 : Int) < (k : Int)) = true := decide_eq_true (by omega)
        have k1 : decide (0 < k) = true := decide_eq_true (by omega)
        clear hk1
        obtain ⟨pv, plo, phi⟩ := p
        obtain ⟨qv, qlo, qhi⟩ := q
        dsimp only at *
        have JV := Lib.hid j7.1
        have JN := Lib.hid j7.2
        clear j7
        have pv5 := PV7.out _ B5.out
        rcases (show (pv = qv) ∨ (pv = false ∧ qv = true) from by
          cases hpv : pv
          · cases qv
            · exact .inl rfl
            · exact .inr ⟨rfl, rfl⟩
          · exact .inl (JV.out hpv).symm) with rfl | ⟨rfl, rfl⟩
        · obtain ⟨jo, jc⟩ := JN.out rfl
          have CN7 := Lib.hid (fun W => CN.out pv phi W P6.out.2)
          rw [jo] at CN7
          have N6 : Hid (Sixteen (nextA pv phi)) := Lib.hid (next_ok _ _)
          have CC7 := Lib.hid (fun W => CC.out (nextA pv phi) qlo W N6.out Q6.out.1)
          have jc2 : decide ((0 : Int) ≤ cmpN (aN (nextA pv phi)) (aN qlo)) = false := decide_eq_false (by omega)
          have SN := Lib.hid (Try.sizeA N6.out.1)
          have SN2 : Hid ((Try.prog.info? 28).map (·.size) = some (acells (nextA pv phi)).toArray.size) := SN
          clear jo jc JV JN CN CC
          generalize cmpN (aN (nextA pv phi)) (aN qlo) = cc at *
          generalize nextA pv phi = N at *
          clear pv5
          have RB := Lib.hid (fun W (h : Below w2.heap.size w2 W) => (⟨RV.out W h, PV7.out W h⟩ : _ ∧ _))
          generalize scL ⟨pv, qlo, qhi⟩ = FQ at *
          generalize scells ⟨pv, qlo, qhi⟩ = GQ at *
          cases pv
          all_goals
           have RG5 := Lib.hid (RG.out _ B5.out)
           go_upto_region 8 with fail
           go_upto_region 10 with (first
            | ((with_reducible refine load_span_at 24 bJ (oJ + k * 33) FQ ?_ RG5.out LQ.out ?_); (· rfl); rw [EK.out])
            | (go_at_call 15
               with_reducible refine (CK.out _).mono ?_
               rintro r w5 ⟨rfl, hb5⟩
               have B6 := Lib.hid (Below.step B5.out hb5)
               have rv5 := RV.out _ B6.out
               have pv6 := PV7.out _ B6.out
               clear hb5 B5))
           next =>
            clear rv5 pv6
            have B7 : Hid (Below w2.heap.size w2 w5.drew) := Lib.hid B6.out.drew
            clear B6
            have B6 := B7
            clear B7
            refine wp_region_ord Ext Ext.refl (fun _ _ _ => Ext.trans) ((0, false) :: (1, false) :: (2, false) :: (3, false) :: (4, false) :: (5, false) :: (6, false) :: (7, false) :: (8, false) :: (9, false) :: (10, false) :: (11, false) :: (12, false) :: (13, false) :: (14, false) :: (15, false) :: []) (by kernel_rfl) (by kernel_rfl) rfl (by kernel_rfl) (fun _ _ _ _ _ h => h) ?_
            generalize w5.drew = w6 at *
            repeat (first
              | (refine ord_skip rfl (by rfl) ?_; simp only [Act.put, List.setIfInBounds_toArray, List.set_cons_zero, List.set_cons_succ])
              | (refine ord_take _ rfl (by rfl) (fun W hW => yields_bool (.tmp 55) rfl bJ (oJ + e * 33) _ rfl (PV7.out W (B6.out.trans (hW.mono B6.out.size)))) ?_; simp only [Act.put, List.setIfInBounds_toArray, List.set_cons_zero, List.set_cons_succ])
              | (refine ord_take _ rfl (by rfl) (fun W hW => yields_bool (.tmp 60) rfl bJ (oJ + k * 33) _ rfl (RV.out W (B6.out.trans (hW.mono B6.out.size)))) ?_; simp only [Act.put, List.setIfInBounds_toArray, List.set_cons_zero, List.set_cons_succ])
              | (refine ord_take _ rfl (by rfl) (fun W hW => by go_simp; first | done | rfl) ?_; simp only [Act.put, List.setIfInBounds_toArray, List.set_cons_zero, List.set_cons_succ]))
            refine ord_end ?_
            go_upto_region 11 with fail
            go_cut [6, 7] from 16 to 90 (fun s6 s7 wx => ∃ g6, s6 = .pointer (some ⟨g6, 0, none⟩) ∧ s7 = .bool true ∧ Blk wx g6 28 (acells N).toArray ∧ Below w2.heap.size w2 wx)
            case first =>
              refine wp_region_plan (ExtB w2.heap.size) (ExtB.refl _) ExtB.trans (.take 0 (.take 1 (.take 2 (.take 3 (.take 4 (.take 5 (.take 6 (.take 7 (.take 8 (.take 9 (.take 10 (.fork 11 (.take 12 (.take 13 (.take 14 (.sole 15 (.sole 16 (.take 17 .fin)))))) 15 (.sole 11 (.take 12 (.take 13 (.take 14 (.sole 16 (.take 17 .fin)))))))))))))))))) (by kernel_rfl) (by kernel_rfl) rfl (by kernel_rfl) (fun _ _ _ _ _ h => h) ?_
              have B7 := Lib.hid B6.out.drew
              clear B6
              repeat' (first
                | (refine plan_take _ rfl (by rfl) (fun W hW => yields_bool (.tmp 68) rfl bJ (oJ + k * 33) _ rfl (RV.out W (B7.out.trans hW))) ?_; simp only [Act.put, List.setIfInBounds_toArray, List.set_cons_zero, List.set_cons_succ])
                | (refine plan_take _ rfl (by rfl) (fun W hW => yields_part 28 (.tmp 74) rfl bJ (oJ + e * 33 + 17) (acells phi) _ rfl (PH7.out W (B7.out.trans hW)) Try.underlying28 rfl SH.out) ?_; simp only [Act.put, List.setIfInBounds_toArray, List.set_cons_zero, List.set_cons_succ])
                | (refine plan_take _ rfl (by rfl) (fun W hW => by go_simp; first | done | rfl) ?_; simp only [Act.put, List.setIfInBounds_toArray, List.set_cons_zero, List.set_cons_succ])
                | (refine plan_fork ?_ ?_)
                | (first | refine plan_sole (sole_take rfl (by rfl) (fun K1 hK1 => ?_)) | refine sole_take rfl (by rfl) (fun K1 hK1 => ?_)
                   refine op_alloc_ar rfl ?_
                   intro gz w7 hn7 hz7 hb7
                   have NZ : Hid (w2.heap.size ≤ gz) := Lib.hid (Nat.le_trans B7.out.size hn7)
                   refine hK1 _ _ (hb7.mono B7.out.size) ?_
                   clear hK1 K1
                   have AZ := Lib.hid hz7
                   replace B7 := Lib.hid (Below.step B7.out hb7)
                   clear hb7 hz7 hn7
                   simp only [Act.put, List.setIfInBounds_toArray, List.set_cons_zero, List.set_cons_succ])
                | (first | refine plan_sole (sole_take rfl (by rfl) (fun K1 hK1 => ?_)) | refine sole_take rfl (by rfl) (fun K1 hK1 => ?_)
                   refine op_store_ar (.tmp 6) (.tmp 77) rfl rfl _ N N6.out rfl rfl AZ.out ?_
                   refine hK1 _ _ (below_setRow (Below.refl _ _) NZ.out _) ?_
                   clear hK1 K1
                   have ZZ := Lib.hid (setRow_heap _ _ _ (acells N).toArray 28 _ AZ.out)
                   replace B7 := Lib.hid (below_setRow B7.out NZ.out (acells N).toArray)
                   clear AZ)
                | (first | refine plan_sole (sole_take rfl (by rfl) (fun K1 hK1 => ?_)) | refine sole_take rfl (by rfl) (fun K1 hK1 => ?_)
                   go_simp
                   with_reducible refine (CN7.out _).mono ?_
                   rintro r w7 ⟨rfl, hb7⟩
                   refine hK1 _ _ (hb7.mono B7.out.size) ?_
                   clear hK1 K1
                   try (replace AZ := Lib.hid (AZ.out.below hb7 AZ.out.lt))
                   replace B7 := Lib.hid (Below.step B7.out hb7)
                   clear hb7)
                | refine plan_end ?_)
              all_goals (dsimp only [Exit.then]; go_step; go_meet; exact ⟨gz, rfl, rfl, ZZ.out, B7.out⟩)
            case rest =>
              obtain ⟨g6, rfl, rfl, hz, hb⟩ := hcut
              have Z8 := Lib.hid hz
              have B8 := Lib.hid hb
              clear hz hb B6 CN7
              go_upto_region 12 with fail
              have Z9 : Hid (Blk wc.drew g6 28 (acells N).toArray) := Z8
              have B6 := Lib.hid B8.out.drew
              clear Z8 B8
              refine wp_region_ord Ext Ext.refl (fun _ _ _ => Ext.trans) ((0, false) :: (1, false) :: (2, false) :: (3, false) :: (4, false) :: (5, false) :: (6, false) :: (7, false) :: (8, false) :: (9, true) :: (10, false) :: (11, false) :: []) (by kernel_rfl) (by kernel_rfl) rfl (by kernel_rfl) (fun _ _ _ _ _ h => h) ?_
              generalize wc.drew = w9 at *
              repeat (first
                | (refine ord_skip rfl (by rfl) ?_; simp only [Act.put, List.setIfInBounds_toArray, List.set_cons_zero, List.set_cons_succ])
                | (refine ord_take _ rfl (by rfl) (fun W hW => yields_row 28 (.tmp 6) rfl g6 28 (acells N).toArray _ rfl (Blk.below Z9.out hW Z9.out.lt) Try.underlying28 rfl SN2.out) ?_; simp only [Act.put, List.setIfInBounds_toArray, List.set_cons_zero, List.set_cons_succ])
                | (refine ord_take _ rfl (by rfl) (fun W hW => yields_part 28 (.tmp 86) rfl bJ (oJ + k * 33 + 1) (acells qlo) _ rfl (RL.out W (B6.out.trans (hW.mono B6.out.size))) Try.underlying28 rfl SL.out) ?_; simp only [Act.put, List.setIfInBounds_toArray, List.set_cons_zero, List.set_cons_succ])
                | (refine ord_take _ rfl (by rfl) (fun W hW => by go_simp; first | done | rfl) ?_; simp only [Act.put, List.setIfInBounds_toArray, List.set_cons_zero, List.set_cons_succ])
                | (refine ord_sole rfl (by rfl) (fun K1 hK1 => ?_)
                   go_simp
                   first
                     | refine (CC7.out _).mono ?_
                   rintro r w5 ⟨rfl, hb5⟩
                   refine hK1 _ _ hb5 ?_
                   clear hK1 K1
                   replace Z9 := Lib.hid (Z9.out.below hb5 Z9.out.lt)
                   replace B6 := Lib.hid (Below.step B6.out hb5)
                   clear hb5))
              refine ord_end ?_
              go_wp2_with fail
              go_roundw
              case rel => exact ⟨k + 1, by go_num, by omega, B6.out⟩
              case measure => simp only [intOf]; omega
        · clear JV JN CN CC pv5
          have RG5 := Lib.hid (RG.out _ B5.out)
          generalize scL ⟨true, qlo, qhi⟩ = FQ at *
          generalize scells ⟨true, qlo, qhi⟩ = GQ at *
          go_upto_region 8 with fail
          go_upto_region 10 with (first
            | ((with_reducible refine load_span_at 24 bJ (oJ + k * 33) FQ ?_ RG5.out LQ.out ?_); (· rfl); rw [EK.out])
            | (go_at_call 15
               with_reducible refine (CK.out _).mono ?_
               rintro r w5 ⟨rfl, hb5⟩
               have B6 := Lib.hid (Below.step B5.out hb5)
               have rv5 := RV.out _ B6.out
               have pv6 := PV7.out _ B6.out
               clear hb5 B5 RG5))
          clear rv5 pv6
          have B7 : Hid (Below w2.heap.size w2 w5.drew) := Lib.hid B6.out.drew
          clear B6
          have B6 := B7
          clear B7
          refine wp_region_ord Ext Ext.refl (fun _ _ _ => Ext.trans) ((0, false) :: (1, false) :: (2, false) :: (3, false) :: (4, false) :: (5, false) :: (6, false) :: (7, false) :: (8, false) :: (9, false) :: (10, false) :: (11, false) :: (12, false) :: (13, false) :: (14, false) :: (15, false) :: []) (by kernel_rfl) (by kernel_rfl) rfl (by kernel_rfl) (fun _ _ _ _ _ h => h) ?_
          generalize w5.drew = w6 at *
          repeat (first
            | (refine ord_skip rfl (by rfl) ?_; simp only [Act.put, List.setIfInBounds_toArray, List.set_cons_zero, List.set_cons_succ])
            | (refine ord_take _ rfl (by rfl) (fun W hW => yields_bool (.tmp 55) rfl bJ (oJ + e * 33) _ rfl (PV7.out W (B6.out.trans (hW.mono B6.out.size)))) ?_; simp only [Act.put, List.setIfInBounds_toArray, List.set_cons_zero, List.set_cons_succ])
            | (refine ord_take _ rfl (by rfl) (fun W hW => yields_bool (.tmp 60) rfl bJ (oJ + k * 33) _ rfl (RV.out W (B6.out.trans (hW.mono B6.out.size)))) ?_; simp only [Act.put, List.setIfInBounds_toArray, List.set_cons_zero, List.set_cons_succ])
            | (refine ord_take _ rfl (by rfl) (fun W hW => by go_simp; first | done | rfl) ?_; simp only [Act.put, List.setIfInBounds_toArray, List.set_cons_zero, List.set_cons_succ]))
          refine ord_end ?_
          go_wp2_with fail
          go_roundw
          case rel => exact ⟨k + 1, by go_num, by omega, B6.out⟩
          case measure => simp only [intOf]; omega
    · have t0 : decide ((k : Int) < (m : Int)) = false := decide_eq_false (by omega)
      have t2 : decide (k < m) = false := decide_eq_false (by omega)
      have RJ5 := Lib.hid (RJ2.out.below B5.out)
      have RA5 := Lib.hid (RA2.out.below B5.out)
      have B6 := Lib.hid (Below.step B2.out B5.out)
      have QX : Hid (J.length ≤ 40000) := Lib.hid (by rw [HM.out]; exact QJ.out)
      have C1 := Lib.hid (fun W (h : SpArg W a n c L) (g : SpArg W aJ m cJ J) => (CW.out _ _ _ _ _ _ _ _ _ h QA.out g QJ.out))
      have C2 := Lib.hid (fun W (h : SpArg W aJ m cJ J) (g : SpArg W a n c L) => (CW.out _ _ _ _ _ _ _ _ _ h QJ.out g QA.out))
      rw [I1.out] at C1
      rw [I2.out] at C2
      clear CW I1 I2 CR CN CC JO JA RJ2 RA2 B2 B5 hk hlt
      go_upto_region 15 with (first
        | (go_at_call 9
           refine (CJ.out _ _ _ _ _ RJ5.out QJ.out).mono ?_
           rw [JT.out]
           rintro r w7 ⟨V7, rfl, ho7⟩
           obtain ⟨aT, cT, rfl, hr7⟩ := ho7.arg
           have RT7 := Lib.hid hr7
           have RJ7 := Lib.hid (RJ5.out.below ho7.2.1)
           have RA7 := Lib.hid (RA5.out.below ho7.2.1)
           have B7 := Lib.hid (Below.step B6.out ho7.2.1)
           clear ho7 hr7 RJ5 RA5 B6)
        | (go_at_call 8
           refine (CS.out _ _ _ _ _ _ _ _ _ RT7.out QX.out RJ7.out QJ.out).mono ?_
           rw [ES.out]
           rintro r w8 ⟨rfl, hb8⟩
           have RJ8 := Lib.hid (RJ7.out.below hb8)
           have RA8 := Lib.hid (RA7.out.below hb8)
           have B8 := Lib.hid (Below.step B7.out hb8)
           clear hb8 RJ7 RA7 RT7 B7))
      go_wp2_with (first
        | (go_at_call 13
           refine (C1.out _ RA8.out RJ8.out).mono ?_
           rintro r w9 ⟨rfl, hb9⟩
           have RJ9 := Lib.hid (RJ8.out.below hb9)
           have RA9 := Lib.hid (RA8.out.below hb9)
           have B9 := Lib.hid (Below.step B8.out hb9)
           clear hb9 RJ8 RA8 B8)
        | (go_at_call 13
           refine (C2.out _ RJ9.out RA9.out).mono ?_
           rintro r w10 ⟨rfl, hb10⟩
           have B10 := Lib.hid (Below.step B9.out hb10)
           clear hb10 B9))
      go_ret
      exact ⟨rfl, B10.out⟩

end Go.Proofs.Yteddeebhfnpchaa
