/-
  Merged texts: StG, StH, AnT, AnJ, AnM, AnW.
-/
import Derived.Test.YtlmndmfebgaidaaGreatDoorGnJ
import Derived.Test.YtlmndmfebgaidaaGreatDoorGnG
import Derived.Lib.MinMax
namespace Go.Proofs.YtlmndmfebgaidaaGreatDoor
open Go.RowKit
set_option linter.unusedVariables false
theorem alloc_span_at {ops : Array Oper} {rest : List Oper} {a : Act} {w : World} {Q : Exit → Act → World → Prop} {dst : Option Tmp} {t' : TypeId} {pos : String} {aft : Array Edge}
    (h : wpList Tryz.prog ops Q rest (a.put dst (.pointer (some ⟨w.heap.size, 0, none⟩))) (w.alloc (.cells (scells zeroS) 62))) :
    wpList Tryz.prog ops Q ({ dst := dst, op := .alloc 62, type := t', pos := pos, after := aft, guard := none } :: rest) a w :=
  Great.wpList_allocTo rfl dst rfl _ _ (alloc_span_run rfl) h
theorem store_span_at {ops : Array Oper} {rest : List Oper} {a : Act} {w : World} {Q : Exit → Act → World → Prop} {t' : TypeId} {pos : String} {aft : Array Edge} (k j : Nat) (g : Nat) (s t : SpanZ) (hs : SixS s) (ht : SixS t) (hx : a.eval (.tmp k) = .pointer (some ⟨g, 0, none⟩)) (hy : a.eval (.tmp j) = .agg (scells t))
    (hb : SBlk w g s) (h : wpList Tryz.prog ops Q rest a (w.setRow g (scells t))) :
    wpList Tryz.prog ops Q ({ dst := none, op := .store 62 (.tmp k) (.tmp j), type := t', pos := pos, after := aft, guard := none } :: rest) a w :=
  wpList_store_rowTo rfl 62 (.tmp k) (.tmp j) rfl rfl g (scells t) hx hy 62 (scells s) hb (Tryz.sizeS ht) (by rw [scells_size hs, scells_size ht]) (scells_one t) h
def rowS (p : SpanZ) (b : List SpanZ) : List SpanZ := (b.filter fun q => rightZ p.v p.lo p.hi && rightZ q.v q.lo q.hi && (p.v == q.v)).map (cutS p)
end Go.Proofs.YtlmndmfebgaidaaGreatDoor
namespace Go.Proofs.YtlmndmfebgaidaaGreatDoor
open Go.RowKit
set_option linter.unusedVariables false
end Go.Proofs.YtlmndmfebgaidaaGreatDoor
namespace Go.Proofs.YtlmndmfebgaidaaGreatDoor
open Go.RowKit
set_option linter.unusedVariables false
theorem yields_u32 {o : Oper} {a : Act} {W : World} (x : Operand) (ho : o.op = .load 52 x) (g off : Nat) (v : Value) (hx : a.eval x = .pointer (some ⟨g, off, none⟩)) (hc : W.cell? ⟨g, off, none⟩ = some v) : (execOp a.eval o).run Tryz.prog W = .ok (.value v) W := by
  have u3 : Tryz.prog.underlying 52 = some (.int .u32) := Tryz.underlying52
  unfold execOp
  simp only [ho, hx]
  go_simp
theorem load_range_at {ops : Array Oper} {rest : List Oper} {a : Act} {w : World} {Q : Exit → Act → World → Prop} {dst : Option Tmp} {t' : TypeId} {pos : String} {aft : Array Edge} (k : Nat) (b o : Nat) (s : Nat × Nat) (hx : a.eval (.tmp k) = .pointer (some ⟨b, o, none⟩)) (hc : w.rangeAt b o (rcL s))
    (h : wpList Tryz.prog ops Q rest (a.put dst (.agg (rcells s))) w) :
    wpList Tryz.prog ops Q ({ dst := dst, op := .load 54 (.tmp k), type := t', pos := pos, after := aft, guard := none } :: rest) a w :=
  wpList_load_mid rfl 54 (.tmp k) rfl b o hx (rcL s) _ hc Tryz.underlying54 rfl (by kernel_rfl) h
theorem build_range_at {ops : Array Oper} {rest : List Oper} {a : Act} {w : World} {Q : Exit → Act → World → Prop} {dst : Option Tmp} {t' : TypeId} {pos : String} {aft : Array Edge} (k j : Nat) (s : Nat × Nat) (hx : a.eval (.tmp k) = .int .u32 (s.1 : Int)) (hy : a.eval (.tmp j) = .int .u32 (s.2 : Int))
    (h : wpList Tryz.prog ops Q rest (a.put dst (.agg (rcells s))) w) :
    wpList Tryz.prog ops Q ({ dst := dst, op := .build 54 #[(0, .tmp k), (1, .tmp j)], type := t', pos := pos, after := aft, guard := none } :: rest) a w := by
  refine wpList_buildTo rfl 54 _ rfl dst rfl (rcells s) ?_ h
  simp only [List.map_toArray, List.map_cons, List.map_nil, hx, hy]
  exact rbuilt _ _
theorem slice_range_at {ops : Array Oper} {rest : List Oper} {a : Act} {w : World} {Q : Exit → Act → World → Prop} {dst : Option Tmp} {t' : TypeId} {pos : String} {aft : Array Edge} (k : Nat) (s : Nat × Nat) (hx : a.eval (.tmp k) = .agg (rcells s))
    (h : wpList Tryz.prog ops Q rest (a.put dst (.slice (some ⟨w.heap.size, 0, none⟩) 1 1)) (w.alloc (.cells (rcells s) 54))) :
    wpList Tryz.prog ops Q ({ dst := dst, op := .buildSlice 23 1 #[(0, .tmp k)], type := t', pos := pos, after := aft, guard := none } :: rest) a w := by
  refine Great.wpList_buildSliceTo rfl 23 54 1 _ rfl w.heap.size rfl dst rfl Tryz.underlying23 (rcells s) ?_ h
  simp only [List.map_toArray, List.map_cons, List.map_nil, hx]
  exact rbuilt_one s
end Go.Proofs.YtlmndmfebgaidaaGreatDoor
namespace Go.Proofs.YtlmndmfebgaidaaGreatDoor
open Go.RowKit
set_option linter.unusedVariables false
theorem u64_same {x : Nat} (h : x < 18446744073709551616) : IntKind.u64.wrap (x : Int) = (x : Int) := by
  simp [IntKind.wrap, IntKind.bits, IntKind.signed]
  omega
theorem u32_same {x : Nat} (h : x < 4294967296) : IntKind.u32.wrap (x : Int) = (x : Int) := by
  simp [IntKind.wrap, IntKind.bits, IntKind.signed]
  omega
def PassAt (L : List (Nat × Nat)) (h0 hi i : Nat) (more : Bool) (top : Nat) : Prop := h0 ≤ hi ∧ hi ≤ top ∧ (more = true → h0 < hi) ∧ (more = false → hi = h0 ∧ ∀ q ∈ L.take i, q.1 ≤ q.2 → q.1 ≤ h0 + 1 → ¬ h0 < q.2)
theorem pass_start (L : List (Nat × Nat)) {h0 top : Nat} (h : h0 ≤ top) : PassAt L h0 h0 0 false top := ⟨Nat.le_refl _, h, fun e => (by cases e), fun _ => ⟨rfl, fun q hq => by simp at hq⟩⟩
theorem pass_no {L : List (Nat × Nat)} {h0 hi i top : Nat} {more : Bool} (h : PassAt L h0 hi i more top) (hl : i < L.length) (hn : ¬ ((L[i]).1 ≤ (L[i]).2 ∧ (L[i]).1 ≤ hi + 1 ∧ hi < (L[i]).2)) : PassAt L h0 hi (i + 1) more top := by
  refine ⟨h.1, h.2.1, h.2.2.1, fun e => ?_⟩
  obtain ⟨e1, e2⟩ := h.2.2.2 e
  subst e1
  refine ⟨rfl, fun q hq k1 k2 k3 => ?_⟩
  rw [List.take_succ_eq_append_getElem hl] at hq
  rcases List.mem_append.1 hq with hq | hq
  · exact e2 q hq k1 k2 k3
  · rw [List.mem_singleton.1 hq] at k1 k2 k3
    exact hn ⟨k1, k2, k3⟩
theorem pass_yes {L : List (Nat × Nat)} {h0 hi i top : Nat} {more : Bool} (h : PassAt L h0 hi i more top) {x : Nat} (h1 : hi < x) (h2 : x ≤ top) : PassAt L h0 x (i + 1) true top :=
  ⟨Nat.le_trans h.1 (by omega), h2, fun _ => Nat.lt_of_le_of_lt h.1 h1, fun e => by cases e⟩
set_option maxHeartbeats 4000000 in
set_option maxRecDepth 100000 in
theorem rjoinR_any (a : Option Addr) (n c : Nat) (L : List (Nat × Nat)) (w : World) (hr : RgArg w a n c L) (hn : n ≤ 10000) :
    Calls Tryz.prog 44 #[.slice a n c] w (GivesRg (joinZ L) w) := by
  have RL := Lib.hid hr.1
  have HL := Lib.hid hr.1.1
  have HN := Lib.hid hn
  have HU := Lib.hid hr.under
  have R0 := Lib.hid (rest_start L)
  have JL := Lib.hid (join_len' L)
  have JE := Lib.hid (fun s0 D (h : RestAt L s0 D []) => rest_none h)
  have JZ := Lib.hid (fun s0 D r (h : RestAt L s0 D r) => (show joinZ L = D ++ r from h.1))
  clear hr hn
  generalize joinZ L = J at *
  go_enter Tryz.func44, Tryz.ntmps44
  go_wp2_with fail
  go_loopg [3, 4] J.length (fun gk oV sV wr => ∃ (s0 : Nat) (D r : List (Nat × Nat)), sV = .int .u64 (s0 : Int) ∧ s0 ≤ 4294967296 ∧ RestAt L s0 D r ∧ r.length = gk ∧ RgOut w wr oV D)
  case atStart => exact ⟨0, [], J, rfl, by omega, R0.out, rfl, RgOut.start w⟩
  case round =>
    obtain ⟨s0, D, r, rfl, hs0, hrest, hrl, ho⟩ := hrel
    subst hrl
    have A5 := Lib.hid hrest
    have O5 := Lib.hid ho
    have S5 := Lib.hid hs0
    have DL : Hid (D.length + r.length ≤ 10000) := Lib.hid (by have := congrArg List.length (JZ.out _ _ _ hrest); rw [List.length_append] at this; have := JL.out; have := HL.out; have := HN.out; omega)
    clear hrest ho R0 hs0
    obtain ⟨aO, cO, hV, _, _⟩ := O5.out.row
    subst hV
    obtain ⟨dl, hdl⟩ : ∃ dl, D.length = dl := ⟨_, rfl⟩
    rw [hdl] at O5 DL
    rw [hdl]
    have HD := Lib.hid hdl
    clear hdl
    obtain ⟨v, hv⟩ : ∃ v, leastL s0 4294967296 (L.drop 0) = v := ⟨_, rfl⟩
    have LV := Lib.hid hv
    have LV2 : Hid (leastL s0 4294967296 L = v) := Lib.hid hv
    clear hv
    go_upto_region 5 with fail
    go_loopg [5, 6] n (fun fk mV iV wx => ∃ (i m0 : Nat), iV = .int .i64 (i : Int) ∧ mV = .int .u64 (m0 : Int) ∧ i + fk = n ∧ m0 ≤ 4294967296 ∧ leastL s0 m0 (L.drop i) = v ∧ RgOut w wx (.slice aO dl cO) D)
    case atStart => exact ⟨0, 4294967296, rfl, rfl, by omega, Nat.le_refl _, LV.out, O5.out⟩
    case round =>
      obtain ⟨i, m0, rfl, rfl, hi, hm0, hlv, ho⟩ := hrel
      have OY := Lib.hid ho
      have LE := Lib.hid hlv
      have M5 := Lib.hid hm0
      clear ho hlv hm0 LV O5
      rcases gk with _ | f
      · have t0 : decide ((i : Int) < (n : Int)) = false := decide_eq_false (by omega)
        have t0' : decide (i < n) = false := decide_eq_false (by omega)
        have ev : m0 = v := by
          have := LE.out
          rwa [List.drop_of_length_le (by rw [HL.out]; omega)] at this
        subst ev
        clear LE hi
        rcases r with _ | ⟨p, r⟩
        · have e : m0 = 4294967296 := by rw [← LV2.out]; exact rest_end HU.out A5.out
          subst e
          have ED := Lib.hid (JE.out _ _ A5.out)
          clear A5 LV2 JE
          go_wp2_with fail
          go_ret
          have O9 := OY.out
          rw [ED.out] at O9
          exact ⟨_, rfl, O9⟩
        · obtain ⟨e, b1, b2, hv, hs⟩ := rest_head HU.out A5.out
          rw [LV2.out] at e
          subst e
          have V1 := Lib.hid b1
          have V2 := Lib.hid b2
          have V3 := Lib.hid hv
          have ne : ((p.1 : Int) == 4294967296) = false := by
            rw [beq_eq_false_iff_ne]
            omega
          have ne' : (p.1 == 4294967296) = false := by
            rw [beq_eq_false_iff_ne]
            omega
          clear LV2 M5 hs
          go_upto_region 13 with fail
          clear ne ne' b1 b2 hv
          go_loopg [7, 8] (p.2 + 1 - p.1) (fun fk hV bV wx => ∃ (hi : Nat) (more : Bool), hV = .int .u64 (hi : Int) ∧ bV = .bool more ∧ p.1 ≤ hi ∧ hi ≤ p.2 ∧ (more = true → p.2 + 1 ≤ hi + fk) ∧ (more = false → hi = p.2) ∧ RgOut w wx (.slice aO dl cO) D)
          case atStart => exact ⟨p.1, true, rfl, rfl, Nat.le_refl _, V3.out, fun _ => by omega, fun e => (by cases e), OY.out⟩
          case round =>
            obtain ⟨hi, more, rfl, rfl, hl, hh, hm1, hm2, ho⟩ := hrel
            have OZ := Lib.hid ho
            have K1 := Lib.hid hl
            have K2 := Lib.hid hh
            have KM := Lib.hid hm1
            have KE := Lib.hid hm2
            clear ho hl hh hm1 hm2 OY
            cases more with
            | false =>
              obtain rfl : hi = p.2 := KE.out rfl
              have AN := Lib.hid (rest_next A5.out)
              have OKP : Hid (OkR p) := Lib.hid ⟨V1.out, V2.out⟩
              have LM : Hid (D.length + 1 ≤ 100000) := Lib.hid (by rw [HD.out]; have := DL.out; omega)
              have V4 : Hid (p.2 + 1 ≤ 4294967296) := Lib.hid (by have := V2.out; omega)
              have w1 : IntKind.u32.wrap (p.1 : Int) = (p.1 : Int) := u32_same V1.out
              have w2 : IntKind.u32.wrap (p.2 : Int) = (p.2 : Int) := u32_same V2.out
              have w3 : IntKind.u64.wrap ((p.2 : Int) + 1) = (p.2 : Int) + 1 := by have := u64_same (x := p.2 + 1) (by have := V2.out; omega); rwa [Int.natCast_add] at this
              clear A5 KM KE K1 K2 V1 V2 V3
              go_wp2_with (first
                | ((with_reducible refine build_range_at 98 100 p ?_ ?_ ?_); (· rfl); (· rfl))
                | ((with_reducible refine slice_range_at 101 p ?_ ?_); (· rfl))
                | (at_builtin; go_must (refine rg_append (W0 := w) (L := D) (zs := [p]) rfl _ _ rfl rfl (OZ.out.below (boxR_below _ _)) rfl (rg_one wr OKP.out) (fun e => by cases e) LM.out ?_; intro V8 w8 ho8; have O8 := Lib.hid ho8; clear ho8)))
              go_roundg r.length
              case measure => simp only [List.length_cons]; omega
              case rel => exact ⟨p.2 + 1, D ++ [p], r, by go_num, V4.out, AN.out, rfl, O8.out⟩
            | true =>
              rcases gk with _ | f
              · exfalso
                have := KM.out rfl
                have := K2.out
                omega
              · have RG := Lib.hid (fun (hi : Nat) (q : Nat × Nat) (h1 : p.1 ≤ hi) (h2 : hi ≤ p.2) (hq : q ∈ L) (k1 : q.1 ≤ hi + 1) (k2 : hi < q.2) => rest_grow A5.out h1 h2 hq k1 k2)
                have RS := Lib.hid (fun (hn : ∀ q ∈ L, q.1 ≤ q.2 → q.1 ≤ hi + 1 → ¬ hi < q.2) => rest_stop A5.out K1.out K2.out hn)
                have PS := Lib.hid (pass_start L K2.out)
                clear KE
                go_upto_region 16 with fail
                go_loopg [7, 8, 9] n (fun ek hV bV iV wy => ∃ (i hi' : Nat) (more' : Bool), hV = .int .u64 (hi' : Int) ∧ bV = .bool more' ∧ iV = .int .i64 (i : Int) ∧ i + ek = n ∧ PassAt L hi hi' i more' p.2 ∧ RgOut w wy (.slice aO dl cO) D)
                case atStart => exact ⟨0, hi, false, rfl, rfl, rfl, by omega, PS.out, OZ.out⟩
                case round =>
                  obtain ⟨i, hi', more', rfl, rfl, rfl, hi0, hp, ho⟩ := hrel
                  have P7 := Lib.hid hp
                  have OY := Lib.hid ho
                  clear hp ho OZ
                  rcases gk with _ | e
                  · have t0 : decide ((i : Int) < (n : Int)) = false := decide_eq_false (by omega)
                    have t0' : decide (i < n) = false := decide_eq_false (by omega)
                    have hn2 : p.1 ≤ hi' := Nat.le_trans K1.out P7.out.1
                    have hn3 := P7.out.2.1
                    have Q1 : Hid (more' = true → p.2 + 1 ≤ hi' + f) := Lib.hid (fun e => by have := P7.out.2.2.1 e; have := KM.out (by trivial); omega)
                    have Q2 : Hid (more' = false → hi' = p.2) := Lib.hid (fun e => by
                      obtain ⟨e1, e2⟩ := P7.out.2.2.2 e
                      subst e1
                      rw [List.take_of_length_le (by rw [HL.out]; omega)] at e2
                      exact RS.out e2)
                    have Q3 := Lib.hid hn2
                    have Q4 := Lib.hid hn3
                    clear hi0 P7 hn2 hn3 KM RS RG
                    go_wp2_with fail
                    go_roundg f
                    case measure => omega
                    case rel => exact ⟨hi', more', rfl, rfl, Q3.out, Q4.out, Q1.out, Q2.out, OY.out⟩
                  · have hlt : i < n := by omega
                    have kl : i < L.length := by rw [HL.out]; exact hlt
                    obtain ⟨bL, oL, rfl, _⟩ := RL.out.form (by omega)
                    have t0 : decide ((i : Int) < (n : Int)) = true := decide_eq_true (by omega)
                    have t0' : decide (i < n) = true := decide_eq_true hlt
                    have i0 : (0 : Int) ≤ (i : Int) := by omega
                    have i1 : (i : Int) < (n : Int) := by omega
                    have iI : IntKind.i64.wrap ((i : Int) + 1) = (i : Int) + 1 := IntWalk.i64_in _ (by have := HN.out; omega)
                    have RLo := Lib.hid (fun W (h : Below w.heap.size w W) => (RL.out.below h).lo i kl)
                    have RHi := Lib.hid (fun W (h : Below w.heap.size w W) => (RL.out.below h).hi i kl)
                    have okp := RL.out.2.1 _ (List.getElem_mem kl)
                    have GR := Lib.hid (fun (k1 : (L[i]).1 ≤ hi' + 1) (k2 : hi' < (L[i]).2) => RG.out hi' L[i] (Nat.le_trans K1.out P7.out.1) P7.out.2.1 (List.getElem_mem kl) k1 k2)
                    obtain ⟨okx, oky⟩ := okp
                    have H2 : hi' < 4294967296 := Nat.lt_of_le_of_lt P7.out.2.1 V2.out
                    have wh : IntKind.u64.wrap ((hi' : Int) + 1) = (hi' : Int) + 1 := by have := u64_same (x := hi' + 1) (by omega); rwa [Int.natCast_add] at this
                    obtain ⟨x, hx⟩ : ∃ x, (L[i]).1 = x := ⟨_, rfl⟩
                    obtain ⟨y, hy⟩ : ∃ y, (L[i]).2 = y := ⟨_, rfl⟩
                    have HX := Lib.hid hx
                    have HY := Lib.hid hy
                    rw [hx] at RLo okx
                    rw [hy] at RHi oky
                    rw [hx, hy] at GR
                    clear hx hy
                    have wx : IntKind.u64.wrap (x : Int) = (x : Int) := u64_same (by omega)
                    have wy : IntKind.u64.wrap (y : Int) = (y : Int) := u64_same (by omega)
                    go_upto_region 18 with fail
                    refine wp_region_ord Ext Ext.refl (fun _ _ _ => Ext.trans) ((0, false) :: (1, false) :: (2, false) :: (3, false) :: (4, false) :: (5, false) :: (6, false) :: (7, false) :: (8, false) :: (9, false) :: (10, false) :: (11, false) :: (12, false) :: (13, false) :: (14, false) :: (15, false) :: (16, false) :: (17, false) :: (18, false) :: (19, false) :: (20, false) :: (21, false) :: (22, false) :: (23, false) :: (24, false) :: (25, false) :: (26, false) :: (27, false) :: (28, false) :: (29, false) :: (30, false) :: (31, false) :: []) (by kernel_rfl) (by kernel_rfl) rfl (by kernel_rfl) (fun _ _ _ _ _ h => h) ?_
                    have OX := Lib.hid (show RgOut w wr.drew _ _ from OY.out.below (drewN_below _ 1))
                    clear OY
                    generalize wr.drew = w7 at *
                    by_cases h1 : x ≤ y
                    · have t1 : decide ((x : Int) ≤ (y : Int)) = true := decide_eq_true (by omega)
                      have t1' : decide (x ≤ y) = true := decide_eq_true (by omega)
                      by_cases h2 : x ≤ hi' + 1
                      · have t2 : decide ((x : Int) ≤ (hi' : Int) + 1) = true := decide_eq_true (by omega)
                        have t2' : decide (x ≤ hi' + 1) = true := decide_eq_true (by omega)
                        by_cases h3 : hi' < y
                        · have t3 : decide ((hi' : Int) < (y : Int)) = true := decide_eq_true (by omega)
                          have t3' : decide (hi' < y) = true := decide_eq_true (by omega)
                          have hy := GR.out h2 h3
                          have PY := Lib.hid (pass_yes P7.out h3 hy)
                          clear P7 GR
                          repeat (first
                            | (refine ord_skip rfl (by rfl) ?_; simp only [Act.put, List.setIfInBounds_toArray, List.set_cons_zero, List.set_cons_succ])
                            | (refine ord_take _ rfl (by rfl) (fun W hW => yields_u32 (.tmp 61) rfl bL (oL + i * 2) _ rfl (RLo.out W (Below.step OX.out.2.1 hW))) ?_; simp only [Act.put, List.setIfInBounds_toArray, List.set_cons_zero, List.set_cons_succ])
                            | (refine ord_take _ rfl (by rfl) (fun W hW => yields_u32 (.tmp 66) rfl bL (oL + i * 2 + 1) _ rfl (RHi.out W (Below.step OX.out.2.1 hW))) ?_; simp only [Act.put, List.setIfInBounds_toArray, List.set_cons_zero, List.set_cons_succ])
                            | (refine ord_take _ rfl (by rfl) (fun W hW => yields_u32 (.tmp 73) rfl bL (oL + i * 2) _ rfl (RLo.out W (Below.step OX.out.2.1 hW))) ?_; simp only [Act.put, List.setIfInBounds_toArray, List.set_cons_zero, List.set_cons_succ])
                            | (refine ord_take _ rfl (by rfl) (fun W hW => yields_u32 (.tmp 84) rfl bL (oL + i * 2 + 1) _ rfl (RHi.out W (Below.step OX.out.2.1 hW))) ?_; simp only [Act.put, List.setIfInBounds_toArray, List.set_cons_zero, List.set_cons_succ])
                            | (refine ord_take _ rfl (by rfl) (fun W hW => by go_simp; first | done | rfl) ?_; simp only [Act.put, List.setIfInBounds_toArray, List.set_cons_zero, List.set_cons_succ]))
                          refine ord_end ?_
                          have c2 := RHi.out _ OX.out.2.1
                          go_wp2_with fail
                          go_roundg e
                          case measure => omega
                          case rel => exact ⟨i + 1, y, true, rfl, rfl, by go_num, by omega, PY.out, OX.out⟩
                        · have t3 : decide ((hi' : Int) < (y : Int)) = false := decide_eq_false (by omega)
                          have t3' : decide (hi' < y) = false := decide_eq_false (by omega)
                          have PN := Lib.hid (pass_no P7.out kl (fun h => h3 (by have := h.2.2; rw [HY.out] at this; exact this)))
                          clear P7 GR
                          repeat (first
                            | (refine ord_skip rfl (by rfl) ?_; simp only [Act.put, List.setIfInBounds_toArray, List.set_cons_zero, List.set_cons_succ])
                            | (refine ord_take _ rfl (by rfl) (fun W hW => yields_u32 (.tmp 61) rfl bL (oL + i * 2) _ rfl (RLo.out W (Below.step OX.out.2.1 hW))) ?_; simp only [Act.put, List.setIfInBounds_toArray, List.set_cons_zero, List.set_cons_succ])
                            | (refine ord_take _ rfl (by rfl) (fun W hW => yields_u32 (.tmp 66) rfl bL (oL + i * 2 + 1) _ rfl (RHi.out W (Below.step OX.out.2.1 hW))) ?_; simp only [Act.put, List.setIfInBounds_toArray, List.set_cons_zero, List.set_cons_succ])
                            | (refine ord_take _ rfl (by rfl) (fun W hW => yields_u32 (.tmp 73) rfl bL (oL + i * 2) _ rfl (RLo.out W (Below.step OX.out.2.1 hW))) ?_; simp only [Act.put, List.setIfInBounds_toArray, List.set_cons_zero, List.set_cons_succ])
                            | (refine ord_take _ rfl (by rfl) (fun W hW => yields_u32 (.tmp 84) rfl bL (oL + i * 2 + 1) _ rfl (RHi.out W (Below.step OX.out.2.1 hW))) ?_; simp only [Act.put, List.setIfInBounds_toArray, List.set_cons_zero, List.set_cons_succ])
                            | (refine ord_take _ rfl (by rfl) (fun W hW => by go_simp; first | done | rfl) ?_; simp only [Act.put, List.setIfInBounds_toArray, List.set_cons_zero, List.set_cons_succ]))
                          refine ord_end ?_
                          go_wp2_with fail
                          go_roundg e
                          case measure => omega
                          case rel => exact ⟨i + 1, hi', more', rfl, rfl, by go_num, by omega, PN.out, OX.out⟩
                      · have t2 : decide ((x : Int) ≤ (hi' : Int) + 1) = false := decide_eq_false (by omega)
                        have t2' : decide (x ≤ hi' + 1) = false := decide_eq_false (by omega)
                        have PN := Lib.hid (pass_no P7.out kl (fun h => h2 (by have := h.2.1; rw [HX.out] at this; exact this)))
                        clear P7 GR
                        repeat (first
                          | (refine ord_skip rfl (by rfl) ?_; simp only [Act.put, List.setIfInBounds_toArray, List.set_cons_zero, List.set_cons_succ])
                          | (refine ord_take _ rfl (by rfl) (fun W hW => yields_u32 (.tmp 61) rfl bL (oL + i * 2) _ rfl (RLo.out W (Below.step OX.out.2.1 hW))) ?_; simp only [Act.put, List.setIfInBounds_toArray, List.set_cons_zero, List.set_cons_succ])
                          | (refine ord_take _ rfl (by rfl) (fun W hW => yields_u32 (.tmp 66) rfl bL (oL + i * 2 + 1) _ rfl (RHi.out W (Below.step OX.out.2.1 hW))) ?_; simp only [Act.put, List.setIfInBounds_toArray, List.set_cons_zero, List.set_cons_succ])
                          | (refine ord_take _ rfl (by rfl) (fun W hW => yields_u32 (.tmp 73) rfl bL (oL + i * 2) _ rfl (RLo.out W (Below.step OX.out.2.1 hW))) ?_; simp only [Act.put, List.setIfInBounds_toArray, List.set_cons_zero, List.set_cons_succ])
                          | (refine ord_take _ rfl (by rfl) (fun W hW => yields_u32 (.tmp 84) rfl bL (oL + i * 2 + 1) _ rfl (RHi.out W (Below.step OX.out.2.1 hW))) ?_; simp only [Act.put, List.setIfInBounds_toArray, List.set_cons_zero, List.set_cons_succ])
                          | (refine ord_take _ rfl (by rfl) (fun W hW => by go_simp; first | done | rfl) ?_; simp only [Act.put, List.setIfInBounds_toArray, List.set_cons_zero, List.set_cons_succ]))
                        refine ord_end ?_
                        go_wp2_with fail
                        go_roundg e
                        case measure => omega
                        case rel => exact ⟨i + 1, hi', more', rfl, rfl, by go_num, by omega, PN.out, OX.out⟩
                    · have t1 : decide ((x : Int) ≤ (y : Int)) = false := decide_eq_false (by omega)
                      have t1' : decide (x ≤ y) = false := decide_eq_false (by omega)
                      have PN := Lib.hid (pass_no P7.out kl (fun h => h1 (by have := h.1; rw [HX.out, HY.out] at this; exact this)))
                      clear P7 GR
                      repeat (first
                        | (refine ord_skip rfl (by rfl) ?_; simp only [Act.put, List.setIfInBounds_toArray, List.set_cons_zero, List.set_cons_succ])
                        | (refine ord_take _ rfl (by rfl) (fun W hW => yields_u32 (.tmp 61) rfl bL (oL + i * 2) _ rfl (RLo.out W (Below.step OX.out.2.1 hW))) ?_; simp only [Act.put, List.setIfInBounds_toArray, List.set_cons_zero, List.set_cons_succ])
                        | (refine ord_take _ rfl (by rfl) (fun W hW => yields_u32 (.tmp 66) rfl bL (oL + i * 2 + 1) _ rfl (RHi.out W (Below.step OX.out.2.1 hW))) ?_; simp only [Act.put, List.setIfInBounds_toArray, List.set_cons_zero, List.set_cons_succ])
                        | (refine ord_take _ rfl (by rfl) (fun W hW => yields_u32 (.tmp 73) rfl bL (oL + i * 2) _ rfl (RLo.out W (Below.step OX.out.2.1 hW))) ?_; simp only [Act.put, List.setIfInBounds_toArray, List.set_cons_zero, List.set_cons_succ])
                        | (refine ord_take _ rfl (by rfl) (fun W hW => yields_u32 (.tmp 84) rfl bL (oL + i * 2 + 1) _ rfl (RHi.out W (Below.step OX.out.2.1 hW))) ?_; simp only [Act.put, List.setIfInBounds_toArray, List.set_cons_zero, List.set_cons_succ])
                        | (refine ord_take _ rfl (by rfl) (fun W hW => by go_simp; first | done | rfl) ?_; simp only [Act.put, List.setIfInBounds_toArray, List.set_cons_zero, List.set_cons_succ]))
                      refine ord_end ?_
                      go_wp2_with fail
                      go_roundg e
                      case measure => omega
                      case rel => exact ⟨i + 1, hi', more', rfl, rfl, by go_num, by omega, PN.out, OX.out⟩
      · have hlt : i < n := by omega
        have kl : i < L.length := by rw [HL.out]; exact hlt
        obtain ⟨bL, oL, rfl, _⟩ := RL.out.form (by omega)
        have t0 : decide ((i : Int) < (n : Int)) = true := decide_eq_true (by omega)
        have t0' : decide (i < n) = true := decide_eq_true hlt
        have i0 : (0 : Int) ≤ (i : Int) := by omega
        have i1 : (i : Int) < (n : Int) := by omega
        have iI : IntKind.i64.wrap ((i : Int) + 1) = (i : Int) + 1 := IntWalk.i64_in _ (by have := HN.out; omega)
        have RLo := Lib.hid (fun W (h : Below w.heap.size w W) => (RL.out.below h).lo i kl)
        have RHi := Lib.hid (fun W (h : Below w.heap.size w W) => (RL.out.below h).hi i kl)
        have okp := RL.out.2.1 _ (List.getElem_mem kl)
        have LS : Hid (leastL s0 (if (L[i]).1 ≤ (L[i]).2 ∧ s0 ≤ (L[i]).2 then min m0 (max (L[i]).1 s0) else m0) (L.drop (i + 1)) = v) := Lib.hid (by rw [← least_step kl]; exact LE.out)
        clear LE
        obtain ⟨okx, oky⟩ := okp
        generalize (L[i]).1 = x at *
        generalize (L[i]).2 = y at *
        have wx : IntKind.u64.wrap (x : Int) = (x : Int) := u64_same (by omega)
        have wy : IntKind.u64.wrap (y : Int) = (y : Int) := u64_same (by omega)
        go_upto_region 7 with fail
        refine wp_region_ord Ext Ext.refl (fun _ _ _ => Ext.trans) ((0, false) :: (1, false) :: (2, false) :: (3, false) :: (4, false) :: (5, false) :: (6, false) :: (7, false) :: (8, false) :: (9, false) :: (10, false) :: (11, false) :: (12, false) :: (13, false) :: (14, false) :: (15, false) :: (16, false) :: (17, false) :: (18, false) :: (19, false) :: (20, false) :: []) (by kernel_rfl) (by kernel_rfl) rfl (by kernel_rfl) (fun _ _ _ _ _ h => h) ?_
        have OX := Lib.hid (show RgOut w wr.drew _ _ from OY.out.below (drewN_below _ 1))
        clear OY
        generalize wr.drew = w7 at *
        have LN := Lib.hid (fun h : ¬ (x ≤ y ∧ s0 ≤ y) => (show leastL s0 m0 (L.drop (i + 1)) = v from by have := LS.out; rwa [if_neg h] at this))
        have LY := Lib.hid (fun h : x ≤ y ∧ s0 ≤ y => (show leastL s0 (min m0 (max x s0)) (L.drop (i + 1)) = v from by have := LS.out; rwa [if_pos h] at this))
        clear LS
        by_cases h1 : x ≤ y
        · have t1 : decide ((x : Int) ≤ (y : Int)) = true := decide_eq_true (by omega)
          have t1' : decide (x ≤ y) = true := decide_eq_true h1
          by_cases h2 : s0 ≤ y
          · have t2 : decide ((s0 : Int) ≤ (y : Int)) = true := decide_eq_true (by omega)
            have t2' : decide (s0 ≤ y) = true := decide_eq_true h2
            have LL := Lib.hid (LY.out ⟨h1, h2⟩)
            have mm : min (m0 : Int) (max (x : Int) (s0 : Int)) = ((min m0 (max x s0) : Nat) : Int) := by omega
            have mb : Hid (min m0 (max x s0) ≤ 4294967296) := Lib.hid (by have := M5.out; omega)
            clear LN LY
            repeat (first
              | (refine ord_skip rfl (by rfl) ?_; simp only [Act.put, List.setIfInBounds_toArray, List.set_cons_zero, List.set_cons_succ])
              | (refine ord_take _ rfl (by rfl) (fun W hW => yields_u32 (.tmp 19) rfl bL (oL + i * 2) _ rfl (RLo.out W (Below.step OX.out.2.1 hW))) ?_; simp only [Act.put, List.setIfInBounds_toArray, List.set_cons_zero, List.set_cons_succ])
              | (refine ord_take _ rfl (by rfl) (fun W hW => yields_u32 (.tmp 24) rfl bL (oL + i * 2 + 1) _ rfl (RHi.out W (Below.step OX.out.2.1 hW))) ?_; simp only [Act.put, List.setIfInBounds_toArray, List.set_cons_zero, List.set_cons_succ])
              | (refine ord_take _ rfl (by rfl) (fun W hW => yields_u32 (.tmp 31) rfl bL (oL + i * 2 + 1) _ rfl (RHi.out W (Below.step OX.out.2.1 hW))) ?_; simp only [Act.put, List.setIfInBounds_toArray, List.set_cons_zero, List.set_cons_succ])
              | (refine ord_take _ rfl (by rfl) (fun W hW => by go_simp; first | done | rfl) ?_; simp only [Act.put, List.setIfInBounds_toArray, List.set_cons_zero, List.set_cons_succ]))
            refine ord_end ?_
            have c1 := RLo.out _ OX.out.2.1
            go_wp2_with fail
            go_roundg f
            case measure => omega
            case rel => exact ⟨i + 1, min m0 (max x s0), by go_num, by first | rfl | (rw [mm]) | (congr 1; omega), by omega, mb.out, LL.out, OX.out⟩
          · have t2 : decide ((s0 : Int) ≤ (y : Int)) = false := decide_eq_false (by omega)
            have t2' : decide (s0 ≤ y) = false := decide_eq_false h2
            have LL := Lib.hid (LN.out (fun h => h2 h.2))
            clear LN LY
            repeat (first
              | (refine ord_skip rfl (by rfl) ?_; simp only [Act.put, List.setIfInBounds_toArray, List.set_cons_zero, List.set_cons_succ])
              | (refine ord_take _ rfl (by rfl) (fun W hW => yields_u32 (.tmp 19) rfl bL (oL + i * 2) _ rfl (RLo.out W (Below.step OX.out.2.1 hW))) ?_; simp only [Act.put, List.setIfInBounds_toArray, List.set_cons_zero, List.set_cons_succ])
              | (refine ord_take _ rfl (by rfl) (fun W hW => yields_u32 (.tmp 24) rfl bL (oL + i * 2 + 1) _ rfl (RHi.out W (Below.step OX.out.2.1 hW))) ?_; simp only [Act.put, List.setIfInBounds_toArray, List.set_cons_zero, List.set_cons_succ])
              | (refine ord_take _ rfl (by rfl) (fun W hW => yields_u32 (.tmp 31) rfl bL (oL + i * 2 + 1) _ rfl (RHi.out W (Below.step OX.out.2.1 hW))) ?_; simp only [Act.put, List.setIfInBounds_toArray, List.set_cons_zero, List.set_cons_succ])
              | (refine ord_take _ rfl (by rfl) (fun W hW => by go_simp; first | done | rfl) ?_; simp only [Act.put, List.setIfInBounds_toArray, List.set_cons_zero, List.set_cons_succ]))
            refine ord_end ?_
            go_wp2_with fail
            go_roundg f
            case measure => omega
            case rel => exact ⟨i + 1, m0, by go_num, rfl, by omega, M5.out, LL.out, OX.out⟩
        · have t1 : decide ((x : Int) ≤ (y : Int)) = false := decide_eq_false (by omega)
          have t1' : decide (x ≤ y) = false := decide_eq_false h1
          have LL := Lib.hid (LN.out (fun h => h1 h.1))
          clear LN LY
          repeat (first
            | (refine ord_skip rfl (by rfl) ?_; simp only [Act.put, List.setIfInBounds_toArray, List.set_cons_zero, List.set_cons_succ])
            | (refine ord_take _ rfl (by rfl) (fun W hW => yields_u32 (.tmp 19) rfl bL (oL + i * 2) _ rfl (RLo.out W (Below.step OX.out.2.1 hW))) ?_; simp only [Act.put, List.setIfInBounds_toArray, List.set_cons_zero, List.set_cons_succ])
            | (refine ord_take _ rfl (by rfl) (fun W hW => yields_u32 (.tmp 24) rfl bL (oL + i * 2 + 1) _ rfl (RHi.out W (Below.step OX.out.2.1 hW))) ?_; simp only [Act.put, List.setIfInBounds_toArray, List.set_cons_zero, List.set_cons_succ])
            | (refine ord_take _ rfl (by rfl) (fun W hW => yields_u32 (.tmp 31) rfl bL (oL + i * 2 + 1) _ rfl (RHi.out W (Below.step OX.out.2.1 hW))) ?_; simp only [Act.put, List.setIfInBounds_toArray, List.set_cons_zero, List.set_cons_succ])
            | (refine ord_take _ rfl (by rfl) (fun W hW => by go_simp; first | done | rfl) ?_; simp only [Act.put, List.setIfInBounds_toArray, List.set_cons_zero, List.set_cons_succ]))
          refine ord_end ?_
          go_wp2_with fail
          go_roundg f
          case measure => omega
          case rel => exact ⟨i + 1, m0, by go_num, rfl, by omega, M5.out, LL.out, OX.out⟩
end Go.Proofs.YtlmndmfebgaidaaGreatDoor
namespace Go.Proofs.YtlmndmfebgaidaaGreatDoor
open Go.RowKit
set_option linter.unusedVariables false
theorem u64_in {z : Int} (h0 : 0 ≤ z) (h1 : z < 18446744073709551616) : IntKind.u64.wrap z = z := by
  have := u64_same (x := z.toNat) (by omega)
  rwa [Int.toNat_of_nonneg h0] at this
end Go.Proofs.YtlmndmfebgaidaaGreatDoor
namespace Go.Proofs.YtlmndmfebgaidaaGreatDoor
open Go.RowKit
set_option linter.unusedVariables false
theorem held_take (Y : List (Nat × Nat)) (p : Nat × Nat) (k : Nat) (hk : k < Y.length) : heldZ (Y.take (k + 1)) p = (heldZ (Y.take k) p || (decide ((Y[k]).1 ≤ p.1) && decide (p.2 ≤ (Y[k]).2))) := by
  rw [List.take_succ_eq_append_getElem hk]
  unfold heldZ
  rw [List.any_append]
  simp
end Go.Proofs.YtlmndmfebgaidaaGreatDoor
