/-
  Merged texts: SrV, ReQ, StA, StB, StC, StE.
-/
import Derived.Test.YtlmndmfebgaidaaGreatDoorGnF
import Derived.Test.YtlmndmfebgaidaaGreatDoorGnC
import Derived.Test.YtlmndmfebgaidaaGreatDoorGnH
import Derived.Test.YtlmndmfebgaidaaGreatDoorGnE
import Derived.Test.YtlmndmfebgaidaaGreatDoorGnA
import Derived.Laws.ResultCell
import Derived.Laws.AppendOwnNone
namespace Go.Proofs.YtlmndmfebgaidaaGreatDoor
set_option linter.unusedVariables false
theorem onL_one {s : SpanZ} (h : SpanOk s) : onL [s] = [lineS s] := onL_ok (l := [s]) (fun t ht => by rw [List.mem_singleton.1 ht]; exact h)
theorem inZ_one {x : Nat} {p : Nat × Nat} : InZ x [p] ↔ p.1 ≤ x ∧ x ≤ p.2 := by
  rw [inZ_cons]
  constructor
  · rintro (h | h)
    · exact h
    · exact absurd h inZ_nil
  · exact .inl
end Go.Proofs.YtlmndmfebgaidaaGreatDoor
namespace Go.Proofs.YtlmndmfebgaidaaGreatDoor
set_option linter.unusedVariables false
def resolveR (r i : ResZ) : ResZ × Int :=
  if rightR r = true ∧ rightR i = true ∧ i.inh = false then
    if r.inh = true then (i, 0) else if inS r.sp i.sp = true ∧ inN r.ns i.ns = true then (r, 0) else (zeroRes, 9)
  else (zeroRes, 1)
def eqRes (a b : ResZ) : Bool := (a.inh == b.inh) && (eqLS a.sp b.sp && eqLR a.ns b.ns)
theorem eqRes_is {a b : ResZ} : eqRes a b = true ↔ a = b := by
  unfold eqRes
  rw [Bool.and_eq_true, Bool.and_eq_true, beq_iff_eq, eqLS_is]
  obtain ⟨a1, a2, a3⟩ := a
  obtain ⟨b1, b2, b3⟩ := b
  constructor
  · rintro ⟨h1, h2, h3⟩
    have e3 : a3 = b3 := of_decide_eq_true h3
    have e1 : a1 = b1 := h1
    have e2 : a2 = b2 := h2
    rw [e1, e2, e3]
  · intro h
    injection h with h1 h2 h3
    subst h1 h2 h3
    exact ⟨rfl, rfl, decide_eq_true rfl⟩
theorem eqRes_self (a : ResZ) : eqRes a a = true := eqRes_is.2 rfl
end Go.Proofs.YtlmndmfebgaidaaGreatDoor
namespace Go.Proofs.YtlmndmfebgaidaaGreatDoor
open Go.RowKit
set_option linter.unusedVariables false
def okN (v : Bool) (A : List Int) : Bool := decide (aN A + unitZ v < 2 ^ 128)
def ZC : Array Value := (acells (List.replicate 16 0)).toArray
theorem bytes_one (A : List Int) : (acells A).toArray.all (·.oneCell') = true := by
  rw [Array.all_eq_true_iff_forall_mem]
  intro x hx
  obtain ⟨y, _, rfl⟩ := List.mem_map.1 (show x ∈ acells A by simpa using hx)
  rfl
theorem acells_set (B : List Int) (j : Nat) (x : Int) : (acells B).toArray.setIfInBounds j (.int .u8 x) = (acells (B.set j x)).toArray := by simp [acells, List.map_set]
theorem res_row_tmp {P : Program} {fn : Func} {p u : Tmp} {ty : TypeId} (h : fn.results = #[.cell p ty, .tmp u]) (tmps : Array Value) (w : World) (g : Nat) (t : TypeId) (cs : Array Value) (fr : Nat × Nat) (d : TypeDesc)
    (hp : tmps.getD p undef = .pointer (some ⟨g, 0, none⟩)) (hg : w.heap[g]? = some (.cells cs t fr))
    (hu : P.underlying ty = some d) (hd : (match d with | .struct _ | .array _ _ => true | _ => false) = true) (hi : (P.info? ty).map (·.size) = some cs.size) :
    (results fn tmps).run P w = .ok (.tuple #[.agg cs, tmps.getD u undef]) w := by
  rw [results_cell_tmp h, hp]
  simp [asAddr, run_loadVar_row w g t ty cs fr d hg hu hd hi, Result.andThen]
set_option maxHeartbeats 1000000 in
set_option maxRecDepth 100000 in
theorem rnext_any (v : Bool) (A : List Int) (w : World) (hA : Sixteen A) :
    Calls Tryz.prog 72 #[.bool v, .agg (acells A).toArray] w fun e w' => e = .returned (.tuple #[.agg (acells (nextA v A)).toArray, .bool (okN v A)]) ∧ Below w.heap.size w w' := by
  have BX : Hid (Blk ((w.alloc (.cells (acells A).toArray 41)).alloc (.cells ZC 41)) w.heap.size 41 (acells A).toArray) := Lib.hid (Blk.alloc (Blk.new _ _ _) _)
  have BZ := Lib.hid (Blk.new (w.alloc (.cells (acells A).toArray 41)) 41 ZC)
  have HGZ : Hid ((w.alloc (.cells (acells A).toArray 41)).heap.size = w.heap.size + 1) := Lib.hid (by simp)
  have BW := Lib.hid (Below.step (box_below w (.cells (acells A).toArray 41)) (box_below _ (.cells ZC 41)))
  have IN := Lib.hid (inc_start v hA)
  have OY : Hid (∀ C, Sixteen C → aN C = aN A + unitZ v → nextA v A = C ∧ okN v A = true) := Lib.hid (fun C hC e => ⟨next_done hC e, decide_eq_true (inc_fits hC e)⟩)
  have ON : Hid (∀ C, IncAt A (unitZ v) C 0 → nextA v A = C ∧ okN v A = false) := Lib.hid (fun C h => ⟨next_over h, decide_eq_false (by have := inc_over h; omega)⟩)
  clear hA
  rw [HGZ.out] at BZ
  clear HGZ
  generalize nextA v A = NA at *
  generalize okN v A = k0 at *
  generalize unitZ v = u at *
  go_enter Tryz.func72, Tryz.ntmps72
  go_upto_region 1 with (refine Great.wpList_allocTo rfl (some 4) rfl (.pointer (some ⟨(w.alloc (.cells (acells A).toArray 41)).heap.size, 0, none⟩)) (.cells ZC 41) rfl ?_)
  generalize (w.alloc (.cells (acells A).toArray 41)).alloc (.cells ZC 41) = w2 at *
  cases v with
  | false =>
    go_wp2_with fail
    go_loopw [6] (fun iV wr => ∃ (i : Int) (k : Nat) (B : List Int), iV = .int .i64 i ∧ i + 1 = (k : Int) ∧ k ≤ 16 ∧ IncAt A u B k ∧ Blk wr w.heap.size 41 (acells B).toArray ∧ Blk wr (w.heap.size + 1) 41 ZC ∧ Below w.heap.size w wr) (fun iV _ => (intOf iV + 1).toNat)
    case atStart => exact ⟨_, topZ false + 1, _, rfl, by rfl, by decide, IN.out, BX.out, BZ.out, BW.out⟩
    case round =>
      obtain ⟨i, k, B, rfl, hi, hk, hn, hx, hz, hb⟩ := hrel
      have X5 := Lib.hid hx
      have Z5 := Lib.hid hz
      have B5 := Lib.hid hb
      have N5 := Lib.hid hn
      clear hx hz hb hn BX BZ BW IN
      have ST : Hid (∀ C : List Int, Sixteen C → Hid ((Tryz.prog.info? 41).map (·.size) = some (acells C).toArray.size) ∧ Hid (ZC.size = (acells C).toArray.size) ∧ Hid ((acells C).toArray.all (·.oneCell') = true)) := Lib.hid (fun C hC => ⟨Lib.hid (by rw [List.size_toArray]; exact Tryz.sizeA hC.1), Lib.hid (by rw [show (acells C).toArray.size = 16 from acells_len hC.1]; rfl), Lib.hid (bytes_one C)⟩)
      rcases k with _ | j
      · obtain rfl : i = -1 := by omega
        obtain ⟨NX, NO⟩ := ON.out _ N5.out
        obtain ⟨SP, ZE, P1⟩ := ST.out B N5.out.1
        have NX := Lib.hid NX
        have NO := Lib.hid NO
        clear N5 hi hk ST OY ON
        generalize hF : (acells B).toArray = F at *
        have HF := Lib.hid hF
        clear hF
        go_wp2_with (first
          | (refine wpList_load_row rfl 41 (.tmp 3) rfl w.heap.size rfl 41 F (0, 0) _ X5.out Tryz.underlying41 rfl SP.out ?_)
          | (refine wpList_store_rowTo rfl 41 (.tmp 4) (.tmp 24) rfl rfl (w.heap.size + 1) F rfl rfl 41 ZC Z5.out SP.out ZE.out P1.out ?_))
        exact bodyPost_ret (res_row_tmp rfl _ _ (w.heap.size + 1) 41 F (0, 0) _ rfl (setRow_heap _ _ _ _ 41 _ Z5.out) Tryz.underlying41 rfl SP.out) rfl ⟨by rw [NX.out, NO.out, HF.out]; rfl, below_setRow B5.out (by omega) _⟩
      · obtain rfl : i = (j : Int) := by omega
        have t0 : decide ((0 : Int) ≤ (j : Int)) = true := decide_eq_true (by omega)
        have hj : j < 16 := by omega
        have iI : (j : Int) < 16 := by omega
        have i0 : (0 : Int) ≤ (j : Int) := by omega
        have b16 := N5.out.1.1
        have zr := sixteen_at0 N5.out.1 j hj
        have cz := (Blk.cell X5.out j).trans (List.getElem?_toArray.trans (acells_at b16 j hj))
        have fz := Blk.free X5.out j
        have NC := Lib.hid (fun h => inc_carry N5.out hj h)
        have ND := Lib.hid (fun h => inc_done N5.out hj h)
        have ss := Lib.hid (fun (x : Int) => (show Blk (wr.setCell ⟨w.heap.size, j, none⟩ (.int .u8 x)) w.heap.size 41 (acells (B.set j x)).toArray from by rw [← acells_set]; exact Blk.set X5.out j _))
        have zz := Lib.hid (fun (x : Int) => (show Blk (wr.setCell ⟨w.heap.size, j, none⟩ (.int .u8 x)) (w.heap.size + 1) 41 ZC from Blk.far Z5.out (by omega) j _))
        have bb := Lib.hid (fun (x : Int) => Below.setCell B5.out (p := ⟨w.heap.size, j, none⟩) (Nat.le_refl _) (.int .u8 x))
        have cs := Lib.hid (fun (x : Int) (hx : (B.set j x).length = 16) (e : (B.set j x)[j]?.getD 0 = x) => (show (wr.setCell ⟨w.heap.size, j, none⟩ (.int .u8 x)).cell? ⟨w.heap.size, j, none⟩ = some (.int .u8 x) from by
          have := (Blk.cell (ss.out x) j).trans (List.getElem?_toArray.trans (acells_at hx j hj))
          rw [this, e]))
        have se : ∀ x : Int, (B.set j x).length = 16 ∧ (B.set j x)[j]?.getD 0 = x := fun x => ⟨by rw [List.length_set]; exact b16, by rw [List.getElem?_set_self (by omega)]; rfl⟩
        have jm1 : IntKind.i64.wrap ((j : Int) - 1) = (j : Int) - 1 := IntWalk.i64_in _ (by omega)
        by_cases h255 : B[j]?.getD 0 = 255
        · have wz : IntKind.u8.wrap (B[j]?.getD 0 + 1) = 0 := by rw [h255]; rfl
          have N7 := Lib.hid (NC.out h255)
          have X7 := Lib.hid (ss.out 0)
          have Z7 := Lib.hid (zz.out 0)
          have B7 := Lib.hid (bb.out 0)
          have c7 := cs.out 0 (se 0).1 (se 0).2
          clear NC ND ss zz bb cs se h255 ST N5 b16 Z5 B5 hi OY ON
          generalize B[j]?.getD 0 = z at *
          go_upto_region 7 with (fail)
          clear X5 cz fz
          generalize wr.setCell ⟨w.heap.size, j, none⟩ (.int .u8 0) = w7 at *
          go_wp2_with fail
          go_roundw
          case rel => exact ⟨(j : Int) - 1, j, _, rfl, by omega, by omega, N7.out, X7.out, Z7.out, B7.out⟩
          case measure => simp only [intOf]; omega
        · have wz : IntKind.u8.wrap (B[j]?.getD 0 + 1) = B[j]?.getD 0 + 1 := wrap8 zr.1 (by omega)
          obtain ⟨N7, N8⟩ := ND.out h255
          obtain ⟨NX, NO⟩ := OY.out _ N7 N8
          have X7 := Lib.hid (ss.out (B[j]?.getD 0 + 1))
          have Z7 := Lib.hid (zz.out (B[j]?.getD 0 + 1))
          have B7 := Lib.hid (bb.out (B[j]?.getD 0 + 1))
          have c7 := cs.out (B[j]?.getD 0 + 1) (se _).1 (se _).2
          obtain ⟨SP, ZE, P1⟩ := ST.out _ N7
          have nz : (B[j]?.getD 0 + 1 != 0) = true := by simp; omega
          have NX := Lib.hid NX
          have NO := Lib.hid NO
          clear NC ND ss zz bb cs se h255 ST N5 b16 Z5 B5 hi N7 N8 OY ON
          generalize hF : (acells (B.set j (B[j]?.getD 0 + 1))).toArray = F at *
          have HF := Lib.hid hF
          clear hF
          generalize hy : B[j]?.getD 0 + 1 = y at *
          generalize B[j]?.getD 0 = z at *
          have HY := Lib.hid hy
          rw [← hy] at wz
          clear hy
          have wz' : IntKind.u8.wrap (z + 1) = y := by rw [wz]; exact HY.out
          clear wz zr
          go_upto_region 7 with (fail)
          clear X5 cz fz
          generalize wr.setCell ⟨w.heap.size, j, none⟩ (.int .u8 y) = w7 at *
          go_wp2_with (first
            | (refine wpList_load_row rfl 41 (.tmp 3) rfl w.heap.size rfl 41 F (0, 0) _ X7.out Tryz.underlying41 rfl SP.out ?_)
            | (refine wpList_store_rowTo rfl 41 (.tmp 4) (.tmp 23) rfl rfl (w.heap.size + 1) F rfl rfl 41 ZC Z7.out SP.out ZE.out P1.out ?_))
          exact bodyPost_ret (res_row_tmp rfl _ _ (w.heap.size + 1) 41 F (0, 0) _ rfl (setRow_heap _ _ _ _ 41 _ Z7.out) Tryz.underlying41 rfl SP.out) rfl ⟨by rw [NX.out, NO.out, HF.out]; rfl, below_setRow B7.out (by omega) _⟩
  | true =>
    go_wp2_with fail
    go_loopw [6] (fun iV wr => ∃ (i : Int) (k : Nat) (B : List Int), iV = .int .i64 i ∧ i + 1 = (k : Int) ∧ k ≤ 16 ∧ IncAt A u B k ∧ Blk wr w.heap.size 41 (acells B).toArray ∧ Blk wr (w.heap.size + 1) 41 ZC ∧ Below w.heap.size w wr) (fun iV _ => (intOf iV + 1).toNat)
    case atStart => exact ⟨_, topZ true + 1, _, rfl, by rfl, by decide, IN.out, BX.out, BZ.out, BW.out⟩
    case round =>
      obtain ⟨i, k, B, rfl, hi, hk, hn, hx, hz, hb⟩ := hrel
      have X5 := Lib.hid hx
      have Z5 := Lib.hid hz
      have B5 := Lib.hid hb
      have N5 := Lib.hid hn
      clear hx hz hb hn BX BZ BW IN
      have ST : Hid (∀ C : List Int, Sixteen C → Hid ((Tryz.prog.info? 41).map (·.size) = some (acells C).toArray.size) ∧ Hid (ZC.size = (acells C).toArray.size) ∧ Hid ((acells C).toArray.all (·.oneCell') = true)) := Lib.hid (fun C hC => ⟨Lib.hid (by rw [List.size_toArray]; exact Tryz.sizeA hC.1), Lib.hid (by rw [show (acells C).toArray.size = 16 from acells_len hC.1]; rfl), Lib.hid (bytes_one C)⟩)
      rcases k with _ | j
      · obtain rfl : i = -1 := by omega
        obtain ⟨NX, NO⟩ := ON.out _ N5.out
        obtain ⟨SP, ZE, P1⟩ := ST.out B N5.out.1
        have NX := Lib.hid NX
        have NO := Lib.hid NO
        clear N5 hi hk ST OY ON
        generalize hF : (acells B).toArray = F at *
        have HF := Lib.hid hF
        clear hF
        go_wp2_with (first
          | (refine wpList_load_row rfl 41 (.tmp 3) rfl w.heap.size rfl 41 F (0, 0) _ X5.out Tryz.underlying41 rfl SP.out ?_)
          | (refine wpList_store_rowTo rfl 41 (.tmp 4) (.tmp 24) rfl rfl (w.heap.size + 1) F rfl rfl 41 ZC Z5.out SP.out ZE.out P1.out ?_))
        exact bodyPost_ret (res_row_tmp rfl _ _ (w.heap.size + 1) 41 F (0, 0) _ rfl (setRow_heap _ _ _ _ 41 _ Z5.out) Tryz.underlying41 rfl SP.out) rfl ⟨by rw [NX.out, NO.out, HF.out]; rfl, below_setRow B5.out (by omega) _⟩
      · obtain rfl : i = (j : Int) := by omega
        have t0 : decide ((0 : Int) ≤ (j : Int)) = true := decide_eq_true (by omega)
        have hj : j < 16 := by omega
        have iI : (j : Int) < 16 := by omega
        have i0 : (0 : Int) ≤ (j : Int) := by omega
        have b16 := N5.out.1.1
        have zr := sixteen_at0 N5.out.1 j hj
        have cz := (Blk.cell X5.out j).trans (List.getElem?_toArray.trans (acells_at b16 j hj))
        have fz := Blk.free X5.out j
        have NC := Lib.hid (fun h => inc_carry N5.out hj h)
        have ND := Lib.hid (fun h => inc_done N5.out hj h)
        have ss := Lib.hid (fun (x : Int) => (show Blk (wr.setCell ⟨w.heap.size, j, none⟩ (.int .u8 x)) w.heap.size 41 (acells (B.set j x)).toArray from by rw [← acells_set]; exact Blk.set X5.out j _))
        have zz := Lib.hid (fun (x : Int) => (show Blk (wr.setCell ⟨w.heap.size, j, none⟩ (.int .u8 x)) (w.heap.size + 1) 41 ZC from Blk.far Z5.out (by omega) j _))
        have bb := Lib.hid (fun (x : Int) => Below.setCell B5.out (p := ⟨w.heap.size, j, none⟩) (Nat.le_refl _) (.int .u8 x))
        have cs := Lib.hid (fun (x : Int) (hx : (B.set j x).length = 16) (e : (B.set j x)[j]?.getD 0 = x) => (show (wr.setCell ⟨w.heap.size, j, none⟩ (.int .u8 x)).cell? ⟨w.heap.size, j, none⟩ = some (.int .u8 x) from by
          have := (Blk.cell (ss.out x) j).trans (List.getElem?_toArray.trans (acells_at hx j hj))
          rw [this, e]))
        have se : ∀ x : Int, (B.set j x).length = 16 ∧ (B.set j x)[j]?.getD 0 = x := fun x => ⟨by rw [List.length_set]; exact b16, by rw [List.getElem?_set_self (by omega)]; rfl⟩
        have jm1 : IntKind.i64.wrap ((j : Int) - 1) = (j : Int) - 1 := IntWalk.i64_in _ (by omega)
        by_cases h255 : B[j]?.getD 0 = 255
        · have wz : IntKind.u8.wrap (B[j]?.getD 0 + 1) = 0 := by rw [h255]; rfl
          have N7 := Lib.hid (NC.out h255)
          have X7 := Lib.hid (ss.out 0)
          have Z7 := Lib.hid (zz.out 0)
          have B7 := Lib.hid (bb.out 0)
          have c7 := cs.out 0 (se 0).1 (se 0).2
          clear NC ND ss zz bb cs se h255 ST N5 b16 Z5 B5 hi OY ON
          generalize B[j]?.getD 0 = z at *
          go_upto_region 7 with (fail)
          clear X5 cz fz
          generalize wr.setCell ⟨w.heap.size, j, none⟩ (.int .u8 0) = w7 at *
          go_wp2_with fail
          go_roundw
          case rel => exact ⟨(j : Int) - 1, j, _, rfl, by omega, by omega, N7.out, X7.out, Z7.out, B7.out⟩
          case measure => simp only [intOf]; omega
        · have wz : IntKind.u8.wrap (B[j]?.getD 0 + 1) = B[j]?.getD 0 + 1 := wrap8 zr.1 (by omega)
          obtain ⟨N7, N8⟩ := ND.out h255
          obtain ⟨NX, NO⟩ := OY.out _ N7 N8
          have X7 := Lib.hid (ss.out (B[j]?.getD 0 + 1))
          have Z7 := Lib.hid (zz.out (B[j]?.getD 0 + 1))
          have B7 := Lib.hid (bb.out (B[j]?.getD 0 + 1))
          have c7 := cs.out (B[j]?.getD 0 + 1) (se _).1 (se _).2
          obtain ⟨SP, ZE, P1⟩ := ST.out _ N7
          have nz : (B[j]?.getD 0 + 1 != 0) = true := by simp; omega
          have NX := Lib.hid NX
          have NO := Lib.hid NO
          clear NC ND ss zz bb cs se h255 ST N5 b16 Z5 B5 hi N7 N8 OY ON
          generalize hF : (acells (B.set j (B[j]?.getD 0 + 1))).toArray = F at *
          have HF := Lib.hid hF
          clear hF
          generalize hy : B[j]?.getD 0 + 1 = y at *
          generalize B[j]?.getD 0 = z at *
          have HY := Lib.hid hy
          rw [← hy] at wz
          clear hy
          have wz' : IntKind.u8.wrap (z + 1) = y := by rw [wz]; exact HY.out
          clear wz zr
          go_upto_region 7 with (fail)
          clear X5 cz fz
          generalize wr.setCell ⟨w.heap.size, j, none⟩ (.int .u8 y) = w7 at *
          go_wp2_with (first
            | (refine wpList_load_row rfl 41 (.tmp 3) rfl w.heap.size rfl 41 F (0, 0) _ X7.out Tryz.underlying41 rfl SP.out ?_)
            | (refine wpList_store_rowTo rfl 41 (.tmp 4) (.tmp 23) rfl rfl (w.heap.size + 1) F rfl rfl 41 ZC Z7.out SP.out ZE.out P1.out ?_))
          exact bodyPost_ret (res_row_tmp rfl _ _ (w.heap.size + 1) 41 F (0, 0) _ rfl (setRow_heap _ _ _ _ 41 _ Z7.out) Tryz.underlying41 rfl SP.out) rfl ⟨by rw [NX.out, NO.out, HF.out]; rfl, below_setRow B7.out (by omega) _⟩
end Go.Proofs.YtlmndmfebgaidaaGreatDoor
namespace Go.Proofs.YtlmndmfebgaidaaGreatDoor
open Go.RowKit
set_option linter.unusedVariables false
theorem cmpN_le (a b : Nat) : decide (cmpN a b ≤ 0) = decide (a ≤ b) := by
  rw [Bool.eq_iff_iff, decide_eq_true_iff, decide_eq_true_iff]
  unfold cmpN
  split
  · omega
  · split <;> omega
theorem cmpN_lt (a b : Nat) : decide (cmpN a b < 0) = decide (a < b) := by
  rw [Bool.eq_iff_iff, decide_eq_true_iff, decide_eq_true_iff]
  unfold cmpN
  split
  · omega
  · split <;> omega
theorem cmpN_gt (a b : Nat) : decide (0 < cmpN a b) = decide (b < a) := by
  rw [Bool.eq_iff_iff, decide_eq_true_iff, decide_eq_true_iff]
  unfold cmpN
  split
  · omega
  · split <;> omega
theorem right_good {v : Bool} {lo hi : List Int} (hl : Sixteen lo) (hh : Sixteen hi) (h : v = true ∨ ∀ j, 4 ≤ j → j < 16 → lo[j]?.getD 0 = 0 ∧ hi[j]?.getD 0 = 0) : decide (cmpN (aN lo) (aN hi) ≤ 0) = rightZ v lo hi := by
  rw [cmpN_le]
  unfold rightZ
  rcases h with rfl | h
  · rfl
  · rw [decide_eq_true ((tail_zero hl).1 (fun j h4 h16 => (h j h4 h16).1)), decide_eq_true ((tail_zero hh).1 (fun j h4 h16 => (h j h4 h16).2))]
    simp
theorem right_bad {lo hi : List Int} (hl : Sixteen lo) (hh : Sixteen hi) {j : Nat} (h4 : 4 ≤ j) (h16 : j < 16) (h : ¬ (lo[j]?.getD 0 = 0 ∧ hi[j]?.getD 0 = 0)) : rightZ false lo hi = false := by
  unfold rightZ
  rw [Bool.false_or]
  by_cases k : aN lo % 2 ^ 96 = 0
  · by_cases m : aN hi % 2 ^ 96 = 0
    · exact absurd ⟨(tail_zero hl).2 k j h4 h16, (tail_zero hh).2 m j h4 h16⟩ h
    · rw [decide_eq_false m]
      simp
  · rw [decide_eq_false k]
    simp
set_option maxHeartbeats 1000000 in
set_option maxRecDepth 100000 in
theorem rsright_any (s : SpanZ) (w : World) (hs : SixS s) :
    Calls Tryz.prog 70 #[.agg (scells s)] w fun e w' => e = .returned (.bool (rightZ s.v s.lo s.hi)) ∧ Below w.heap.size w w' := by
  have BX : Hid (SBlk (w.alloc (.cells (scells s) 62)) w.heap.size s) := Lib.hid (sbox w s)
  have BW := Lib.hid (box_below w (.cells (scells s) 62))
  have GR := Lib.hid (fun h => right_good (v := s.v) hs.1 hs.2 h)
  have GB := Lib.hid (fun j (h4 : 4 ≤ j) (h16 : j < 16) h => right_bad hs.1 hs.2 h4 h16 h)
  have CC := Lib.hid (fun W => rcmpaddr_any s.lo s.hi W hs.1 hs.2)
  have SL := Lib.hid (Tryz.sizeA hs.1.1)
  have SH := Lib.hid (Tryz.sizeA hs.2.1)
  have HS := Lib.hid hs
  clear hs
  go_enter Tryz.func70, Tryz.ntmps70
  generalize hw2 : w.alloc (.cells (scells s) 62) = w2 at *
  obtain ⟨v, lo, hi⟩ := s
  have cv := BX.out.v
  have LO := Lib.hid (BX.out.lo HS.out)
  have HI := Lib.hid (BX.out.hi HS.out)
  have CL := Lib.hid (fun q (hq : q < 16) => (Blk.cell BX.out (1 + q)).trans (scells_lo HS.out q hq))
  have CH := Lib.hid (fun q (hq : q < 16) => (Blk.cell BX.out (17 + q)).trans (scells_hi HS.out q hq))
  clear BX HS
  dsimp only at *
  go_wp2_with fail
  clear hw2
  go_loopw [3] (fun iV wr => ∃ i : Nat, iV = .int .i64 (i : Int) ∧ 4 ≤ i ∧ i ≤ 16 ∧ (∀ j, 4 ≤ j → j < i → lo[j]?.getD 0 = 0 ∧ hi[j]?.getD 0 = 0) ∧ wr = w2.drewN 0) (fun iV _ => (200 - intOf iV).toNat)
  case atStart => exact ⟨4, rfl, Nat.le_refl _, by omega, fun j h1 h2 => by omega, rfl⟩
  case round =>
    obtain ⟨i, rfl, h4, h16, hz, hw⟩ := hrel
    obtain rfl : wr = w2 := hw
    have HZ := Lib.hid hz
    clear hz
    have END : Hid ((v = true ∨ i = 16) → decide (cmpN (aN lo) (aN hi) ≤ 0) = rightZ v lo hi) := Lib.hid (fun h => GR.out (h.elim Or.inl (fun e => Or.inr (fun j a b => HZ.out j a (by omega)))))
    by_cases hlt : i < 16
    · have t0 : decide ((i : Int) < 16) = true := decide_eq_true (by omega)
      cases v with
      | true =>
        have ED := Lib.hid (END.out (Or.inl rfl))
        clear END CL CH GR GB HZ h4 h16 hlt
        go_wp2_with (first
          | (refine wpList_load_mid rfl 41 (.tmp 25) rfl w.heap.size 1 rfl (acells lo) _ LO.out Tryz.underlying41 rfl SL.out ?_)
          | (refine wpList_load_mid rfl 41 (.tmp 27) rfl w.heap.size 17 rfl (acells hi) _ HI.out Tryz.underlying41 rfl SH.out ?_)
          | (go_at_call 73
             refine (CC.out _).mono ?_
             rintro r w5 ⟨rfl, hb5⟩
             have B5 := Lib.hid (Below.step BW.out hb5)
             clear hb5))
        go_ret
        exact ⟨by rw [← ED.out]; rfl, B5.out⟩
      | false =>
        have cl := CL.out i hlt
        have ch := CH.out i hlt
        have i0 : (0 : Int) ≤ (i : Int) := by omega
        have i1 : (i : Int) < 16 := by omega
        have ip : IntKind.i64.wrap ((i : Int) + 1) = (i : Int) + 1 := IntWalk.i64_in _ (by omega)
        have NX : Hid (lo[i]?.getD 0 = 0 → hi[i]?.getD 0 = 0 → ∀ j, 4 ≤ j → j < i + 1 → lo[j]?.getD 0 = 0 ∧ hi[j]?.getD 0 = 0) := Lib.hid (fun a b j h1 h2 => by
          rcases Nat.lt_or_ge j i with h | h
          · exact HZ.out j h1 h
          · rw [show j = i by omega]; exact ⟨a, b⟩)
        have BD := Lib.hid (GB.out i h4 hlt)
        clear END CL CH GR GB CC
        generalize lo[i]?.getD 0 = x at *
        generalize hi[i]?.getD 0 = y at *
        by_cases hx : x = 0
        · by_cases hy : y = 0
          · have t1 : (x != 0) = false := by simp [hx]
            have t2 : (y != 0) = false := by simp [hy]
            have NN := Lib.hid (NX.out hx hy)
            clear hx hy NX BD
            go_wp2_with fail
            go_roundw
            case rel => exact ⟨i + 1, by push_cast; rfl, by omega, by omega, NN.out, rfl⟩
            case measure => simp only [intOf]; omega
          · have t1 : (x != 0) = false := by simp [hx]
            have t2 : (y != 0) = true := by simp [hy]
            have NB := Lib.hid (BD.out (fun h => hy h.2))
            clear hx hy NX BD
            go_wp2_with fail
            go_ret
            exact ⟨by rw [NB.out]; rfl, BW.out⟩
        · have t1 : (x != 0) = true := by simp [hx]
          have NB := Lib.hid (BD.out (fun h => hx h.1))
          clear hx NX BD
          go_wp2_with fail
          go_ret
          exact ⟨by rw [NB.out]; rfl, BW.out⟩
    · have t0 : decide ((i : Int) < 16) = false := decide_eq_false (by omega)
      have ED := Lib.hid (END.out (Or.inr (by omega)))
      clear END CL CH GR GB HZ h4 h16 hlt
      go_wp2_with (first
        | (refine wpList_load_mid rfl 41 (.tmp 25) rfl w.heap.size 1 rfl (acells lo) _ LO.out Tryz.underlying41 rfl SL.out ?_)
        | (refine wpList_load_mid rfl 41 (.tmp 27) rfl w.heap.size 17 rfl (acells hi) _ HI.out Tryz.underlying41 rfl SH.out ?_)
        | (go_at_call 73
           refine (CC.out _).mono ?_
           rintro r w5 ⟨rfl, hb5⟩
           have B5 := Lib.hid (Below.step BW.out hb5)
           clear hb5))
      go_ret
      exact ⟨by rw [← ED.out]; rfl, B5.out⟩
set_option maxHeartbeats 1000000 in
set_option maxRecDepth 100000 in
theorem rahead_any (s t : SpanZ) (w : World) (hs : SixS s) (ht : SixS t) :
    Calls Tryz.prog 71 #[.agg (scells s), .agg (scells t)] w fun e w' => e = .returned (.bool (aheadS s t)) ∧ Below w.heap.size w w' := by
  obtain ⟨bx, by', bw⟩ := two_sboxes w s t
  have cv := bx.v
  have cu := by'.v
  have LX := Lib.hid (bx.lo hs)
  have LY := Lib.hid (by'.lo ht)
  have BW := Lib.hid bw.1
  have CC := Lib.hid (fun W => rcmpaddr_any s.lo t.lo W hs.1 ht.1)
  have SL := Lib.hid (Tryz.sizeA hs.1.1)
  have SH := Lib.hid (Tryz.sizeA ht.1.1)
  clear bx by' bw hs ht
  have AD : Hid (s.v = t.v → aheadS s t = decide (cmpN (aN s.lo) (aN t.lo) < 0)) := Lib.hid (fun e => by
    unfold aheadS
    rw [if_neg (by simpa using e), cmpN_lt])
  have AN : Hid (s.v ≠ t.v → aheadS s t = t.v) := Lib.hid (fun e => by
    unfold aheadS
    rw [if_pos e])
  obtain ⟨v, lo, hi⟩ := s
  obtain ⟨u, lo', hi'⟩ := t
  generalize aheadS _ _ = r0 at *
  go_enter Tryz.func71, Tryz.ntmps71
  generalize hw2 : (w.alloc (.cells (scells ⟨v, lo, hi⟩) 62)).alloc (.cells (scells ⟨u, lo', hi'⟩) 62) = w2 at *
  dsimp only at *
  by_cases h : v = u
  · have AA := Lib.hid (AD.out h)
    have t0 : (v == u) = true := by simp [h]
    clear AD AN h
    go_wp2_with (first
      | (refine wpList_load_mid rfl 41 (.tmp 12) rfl w.heap.size 1 rfl (acells lo) _ LX.out Tryz.underlying41 rfl SL.out ?_)
      | (refine wpList_load_mid rfl 41 (.tmp 14) rfl (w.heap.size + 1) 1 rfl (acells lo') _ LY.out Tryz.underlying41 rfl SH.out ?_)
      | (go_at_call 73
         refine (CC.out _).mono ?_
         rintro r w5 ⟨rfl, hb5⟩
         have B5 := Lib.hid (Below.step BW.out hb5)
         clear hb5))
    go_ret
    exact ⟨by rw [AA.out]; rfl, B5.out⟩
  · have AA := Lib.hid (AN.out h)
    have t0 : (v == u) = false := by simp [h]
    clear AD AN h
    go_wp2_with fail
    go_ret
    exact ⟨by rw [AA.out]; rfl, BW.out⟩
end Go.Proofs.YtlmndmfebgaidaaGreatDoor
namespace Go.Proofs.YtlmndmfebgaidaaGreatDoor
open Go.RowKit
set_option maxRecDepth 100000
set_option linter.unusedVariables false
theorem SpRow.v {w : World} {b off n : Nat} {L : List SpanZ} (h : SpRow w (some ⟨b, off, none⟩) n L) (j : Nat) (hj : j < L.length) : w.cell? ⟨b, off + j * 33, none⟩ = some (.bool (L[j]).v) := h.range j hj 0 _ rfl
theorem SpRow.lo {w : World} {b off n : Nat} {L : List SpanZ} (h : SpRow w (some ⟨b, off, none⟩) n L) (j : Nat) (hj : j < L.length) : w.rangeAt b (off + j * 33 + 1) (acells (L[j]).lo) := fun i v hv => by
  have s6 := h.2.1 _ (List.getElem_mem hj)
  have hi : i < 16 := by
    have := (List.getElem?_eq_some_iff.1 hv).1
    rwa [acells_len s6.1.1] at this
  have k := h.range j hj (1 + i) v (by
    rw [Nat.add_comm 1 i]
    show (Value.bool (L[j]).v :: (acells (L[j]).lo ++ acells (L[j]).hi))[i + 1]? = some v
    rw [List.getElem?_cons_succ, List.getElem?_append_left (by rw [acells_len s6.1.1]; exact hi)]
    exact hv)
  rwa [← Nat.add_assoc] at k
theorem SpRow.hi {w : World} {b off n : Nat} {L : List SpanZ} (h : SpRow w (some ⟨b, off, none⟩) n L) (j : Nat) (hj : j < L.length) : w.rangeAt b (off + j * 33 + 17) (acells (L[j]).hi) := fun i v hv => by
  have s6 := h.2.1 _ (List.getElem_mem hj)
  have hi : i < 16 := by
    have := (List.getElem?_eq_some_iff.1 hv).1
    rwa [acells_len s6.2.1] at this
  have k := h.range j hj (17 + i) v (by
    rw [show 17 + i = (16 + i) + 1 by omega]
    show (Value.bool (L[j]).v :: (acells (L[j]).lo ++ acells (L[j]).hi))[16 + i + 1]? = some v
    rw [List.getElem?_cons_succ, List.getElem?_append_right (by rw [acells_len s6.1.1]; omega), acells_len s6.1.1, show 16 + i - 16 = i by omega]
    exact hv)
  rwa [← Nat.add_assoc] at k
theorem yields_bool {o : Oper} {a : Act} {W : World} (x : Operand) (ho : o.op = .load 4 x) (g off : Nat) (v : Value) (hx : a.eval x = .pointer (some ⟨g, off, none⟩)) (hc : W.cell? ⟨g, off, none⟩ = some v) : (execOp a.eval o).run Tryz.prog W = .ok (.value v) W := by
  have u3 : Tryz.prog.underlying 4 = some .bool := Tryz.underlying4
  unfold execOp
  simp only [ho, hx]
  go_simp
theorem alloc_bytes_run {o : Oper} {a : Act} {w : World} (ho : o.op = .alloc 41) : (execOp a.eval o).run Tryz.prog w = .ok (.value (.pointer (some ⟨w.heap.size, 0, none⟩))) (w.alloc (.cells ZC 41)) := by
  unfold execOp
  simp only [ho]
  rfl
theorem op_alloc_ar {o : Oper} {a : Act} {w : World} {K : Act → World → Prop} {Q : Exit → Act → World → Prop} (ho : o.op = .alloc 41)
    (hK : ∀ g w', w.heap.size ≤ g → Blk w' g 41 ZC → Below w.heap.size w w' → K (a.put o.dst (.pointer (some ⟨g, 0, none⟩))) w') : o.wp Tryz.prog a w K Q :=
  op_of_run _ _ (alloc_bytes_run ho) (hK _ _ (Nat.le_refl _) (Blk.new _ _ _) (box_below _ _))
theorem op_store_ar {o : Oper} {a : Act} {w : World} {K : Act → World → Prop} {Q : Exit → Act → World → Prop} (x y : Operand) (ho : o.op = .store 41 x y) (hdst : o.dst = none) (g : Nat) (A : List Int) (hA : Sixteen A) (hx : a.eval x = .pointer (some ⟨g, 0, none⟩)) (hy : a.eval y = .agg (acells A).toArray)
    (hb : Blk w g 41 ZC) (hK : K a (w.setRow g (acells A).toArray)) : o.wp Tryz.prog a w K Q := by
  refine op_of_skip (w.setRow g (acells A).toArray) ?_ (by rw [hdst]; exact hK)
  unfold execOp
  simp only [ho, hx, hy, Instr.storeAt, Instr.sureAddr, Sem.run_bind, Sem.run_pure, Result.andThen_ok, run_storeVar_row (P := Tryz.prog) w g 41 41 ZC (acells A).toArray hb (by rw [List.size_toArray]; exact Tryz.sizeA hA.1) (by rw [show (acells A).toArray.size = 16 from acells_len hA.1]; rfl) (bytes_one A)]
theorem load_span_at {ops : Array Oper} {rest : List Oper} {a : Act} {w : World} {Q : Exit → Act → World → Prop} {dst : Option Tmp} {t' : TypeId} {pos : String} {aft : Array Edge} (k : Nat) (b o : Nat) (cs : List Value) (hx : a.eval (.tmp k) = .pointer (some ⟨b, o, none⟩)) (hc : w.rangeAt b o cs)
    (hi : (Tryz.prog.info? 62).map (·.size) = some cs.length) (h : wpList Tryz.prog ops Q rest (a.put dst (.agg cs.toArray)) w) :
    wpList Tryz.prog ops Q ({ dst := dst, op := .load 62 (.tmp k), type := t', pos := pos, after := aft, guard := none } :: rest) a w :=
  wpList_load_mid rfl 62 (.tmp k) rfl b o hx cs _ hc Tryz.underlying62 rfl hi h
theorem next_num {v : Bool} {A : List Int} (h : okN v A = true) : aN (nextA v A) = aN A + unitZ v := by
  have h' : aN A + unitZ v < 2 ^ 128 := of_decide_eq_true h
  unfold nextA
  rw [Nat.mod_eq_of_lt h', aN_by16 h']
theorem touch_next {c q : SpanZ} (hq : Sixteen q.lo) : touchS c q = ((c.v == q.v) && (!okN c.v c.hi || decide (cmpN (aN q.lo) (aN (nextA c.v c.hi)) ≤ 0))) := by
  unfold touchS
  congr 1
  rw [cmpN_le]
  cases h : okN c.v c.hi
  · have h' : ¬ aN c.hi + unitZ c.v < 2 ^ 128 := of_decide_eq_false h
    have := aN_lt16 hq
    rw [decide_eq_true (by omega)]
    rfl
  · rw [next_num h]
    rfl
end Go.Proofs.YtlmndmfebgaidaaGreatDoor
namespace Go.Proofs.YtlmndmfebgaidaaGreatDoor
open Go.RowKit
set_option maxRecDepth 100000
set_option linter.unusedVariables false
theorem op_sp_append {o : Oper} {a : Act} {w W0 : World} {K : Act → World → Prop} {Q : Exit → Act → World → Prop} {V : Value} {L zs : List SpanZ} {A : Option Addr} {m c : Nat} (s x : Operand)
    (hop : o.op = .call { callee := .builtin .append, args := #[s, x], argTypes := #[22, 22] }) (hs : a.eval s = V) (hout : SpOut W0 w V L) (hx : a.eval x = .slice A m c) (hr : SpRow w A m zs) (hA : A = none → m = 0 ∧ c = 0) (hl : L.length + m ≤ 100000)
    (hK : ∀ V' w', SpOut W0 w' V' (L ++ zs) → Below W0.heap.size w w' → (∀ k, k < w.heap.size → V.ownBlock ≠ some k → w'.heap[k]? = w.heap[k]?) → K (a.put o.dst V') w') : o.wp Tryz.prog a w K Q := by
  obtain ⟨i0, hi5, hz0, hz1, hz2⟩ := info_parts Tryz.infoSpan
  cases A with
  | none =>
    obtain ⟨rfl, rfl⟩ := hA rfl
    obtain rfl : zs = [] := List.eq_nil_of_length_eq_zero hr.1
    have hrun := run_append_owned_none (P := Tryz.prog) (w := w) W0.heap.size 22 o.type 62 i0 33 Tryz.underlying22 hi5 V L.length _ hout.1
    unfold Oper.wp
    simp [execOp, hop, resolve, invoke, builtin, hs, hx, hrun, Result.andThen]
    exact hK V w (by simpa using hout) (Below.refl _ _) (fun _ _ _ => rfl)
  | some ad =>
    have hcl : (flatS zs).length = m * 33 := by rw [flatS_len hr.2.1, hr.1]
    refine wp_append_own _ s x 22 hop W0.heap.size 62 i0 (.agg (scells zeroS)) 33 33 Tryz.underlying22 hi5 hz0 hz1 hz2 (scells_size zeroS_six) (by decide) V L.length (flatS L) hs hout.1 ad m c (flatS zs) hx hcl ?_ (flatS_one zs) (by unfold maxLen; omega) (by omega) hout.2.1.size ?_
    · intro j u hu
      have hj : j < m * 33 := by
        have := (List.getElem?_eq_some_iff.1 hu).1
        omega
      obtain ⟨b, off, e, _, hc⟩ := hr.2.2 (by omega)
      injection e with e
      subst e
      rw [Addr.add_lit, hc j hj]
      exact hu
    · intro V' w' hown hg _
      refine hK V' w' ⟨?_, hout.2.1.grown hg hout.2.1.size (fun k hk => (hout.1.lt k hk).1), fun z hz => ?_⟩ ((Below.refl _ _).grown hg hout.2.1.size (fun k hk => (hout.1.lt k hk).1)) (fun k hk hne => hg.block k hk (fun e => hne e.symm))
      · rw [List.length_append, hr.1, flatS_app]
        exact hown
      · rcases List.mem_append.1 hz with hz | hz
        · exact hout.2.2 z hz
        · exact hr.2.1 z hz
theorem op_sp_build0 {o : Oper} {a : Act} {w W0 : World} {K : Act → World → Prop} {Q : Exit → Act → World → Prop} (ho : o.op = .buildSlice 22 0 #[]) (hb : Below W0.heap.size W0 w)
    (hK : ∀ g w', SpOut W0 w' (.slice (some ⟨g, 0, none⟩) 0 0) [] → Below w.heap.size w w' → w.heap.size ≤ g → g < w'.heap.size → K (a.put o.dst (.slice (some ⟨g, 0, none⟩) 0 0)) w') : o.wp Tryz.prog a w K Q := by
  refine op_of_run (.slice (some ⟨w.heap.size, 0, none⟩) 0 0) (w.alloc (.cells #[] 62)) ?_ (hK _ _ ?_ (box_below _ _) (Nat.le_refl _) (by simp))
  · obtain ⟨i0, hi5, hz0, hz1, hz2⟩ := info_parts Tryz.infoSpan
    unfold execOp
    simp [ho, Instr.buildSlice, run_underlying Tryz.underlying22, sizeOf, typeInfo, hi5, newRow, Instr.fill, Result.andThen]
    rw [show ∀ f : Nat → Value, Array.map f (Array.range 0) = #[] from fun f => Array.eq_empty_of_size_eq_zero (by rw [Array.size_map, Array.size_range])]
  · refine ⟨⟨rfl, .inr ⟨w.heap.size, 0, #[], rfl, hb.size, Blk.new _ _ _, Nat.le_refl _, by unfold maxLen; omega, rfl, rfl⟩⟩, Below.trans hb ((box_below w _).mono hb.size), fun s hs => by cases hs⟩
theorem op_sp_build1 {o : Oper} {a : Act} {w : World} {K : Act → World → Prop} {Q : Exit → Act → World → Prop} (s : SpanZ) (hs : SixS s) (parts : Array (Nat × Operand)) (ho : o.op = .buildSlice 22 1 parts) (hps : (parts.map fun (i, x) => (i, a.eval x)).toList = [(0, .agg (scells s))])
    (hK : ∀ g w', SpRow w' (some ⟨g, 0, none⟩) 1 [s] → Below w.heap.size w w' → w.heap.size ≤ g → g < w'.heap.size → K (a.put o.dst (.slice (some ⟨g, 0, none⟩) 1 1)) w') : o.wp Tryz.prog a w K Q :=
  op_buildSlice 22 62 1 parts ho Tryz.underlying22 _ _ (built_one s hs) hps (hK _ _ (sp_one w hs) (box_below _ _) (Nat.le_refl _) (by simp))
theorem SpRow.kept {w w' : World} {g off n : Nat} {L : List SpanZ} (h : SpRow w (some ⟨g, off, none⟩) n L) (hg : w'.heap[g]? = w.heap[g]?) (hlt : g < w'.heap.size) : SpRow w' (some ⟨g, off, none⟩) n L := by
  refine ⟨h.1, h.2.1, fun hn => ?_⟩
  obtain ⟨b, o, e, _, hc⟩ := h.2.2 hn
  injection e with e
  injection e with e1 e2
  subst e1 e2
  exact ⟨_, _, rfl, hlt, fun i hi => (World.cell?_of_block (a := ⟨g, off + i, none⟩) hg).trans (hc i hi)⟩
def uptoA (A : Option Addr) (cap : Nat) : Option Addr := if cap = 0 then A else A.map (·.add (0 * 33))
def fromA (A : Option Addr) (cap k : Nat) : Option Addr := if cap = k then A else A.map (·.add (k * 33))
theorem yields_upto {o : Oper} {a : Act} {W : World} (x y : Operand) (ho : o.op = .slice 22 x none (some y) none) (A : Option Addr) (n cap k : Nat) (hx : a.eval x = .slice A n cap) (hy : a.eval y = .int .i64 (k : Int)) (hk : k ≤ cap) : (execOp a.eval o).run Tryz.prog W = .ok (.value (.slice (uptoA A cap) k cap)) W := by
  obtain ⟨i0, hi5, hz0, hz1, hz2⟩ := info_parts Tryz.infoSpan
  have ht : Tryz.prog.underlying 22 = some (.slice (Tryz.prog.elem 22)) := by kernel_rfl
  have he : Tryz.prog.elem 22 = 62 := by kernel_rfl
  have r := run_slice_h (P := Tryz.prog) W 22 A n cap ht .i64 (k : Int) (by omega) (by omega)
  rw [← run_sliceAt_slice (P := Tryz.prog) W 22 (.slice A n cap) none (some (.int .i64 (k : Int))) none ht, he] at r
  have sz : (sizeOf 62).run Tryz.prog W = .ok 33 W := by simp [sizeOf, typeInfo, hi5, hz1]
  rw [sz] at r
  unfold execOp
  simp only [ho, hx, hy, Option.map, Sem.run_bind, r, Result.andThen_ok, Sem.run_pure, sliced, uptoA]
  simp
theorem yields_from {o : Oper} {a : Act} {W : World} (x y : Operand) (ho : o.op = .slice 22 x (some y) none none) (A : Option Addr) (n cap k : Nat) (hx : a.eval x = .slice A n cap) (hy : a.eval y = .int .i64 (k : Int)) (hk : k ≤ n) : (execOp a.eval o).run Tryz.prog W = .ok (.value (.slice (fromA A cap k) (n - k) (cap - k))) W := by
  obtain ⟨i0, hi5, hz0, hz1, hz2⟩ := info_parts Tryz.infoSpan
  have ht : Tryz.prog.underlying 22 = some (.slice (Tryz.prog.elem 22)) := by kernel_rfl
  have he : Tryz.prog.elem 22 = 62 := by kernel_rfl
  have r := run_slice_l (P := Tryz.prog) W 22 A n cap ht .i64 (k : Int) (by omega) (by omega)
  rw [← run_sliceAt_slice (P := Tryz.prog) W 22 (.slice A n cap) (some (.int .i64 (k : Int))) none none ht, he] at r
  have sz : (sizeOf 62).run Tryz.prog W = .ok 33 W := by simp [sizeOf, typeInfo, hi5, hz1]
  rw [sz] at r
  unfold execOp
  simp only [ho, hx, hy, Option.map, Sem.run_bind, r, Result.andThen_ok, Sem.run_pure, sliced, fromA]
  simp
theorem upto_row {w : World} {A : Option Addr} {n cap : Nat} {L : List SpanZ} (h : SpRow w A n L) (hA : A = none → n = 0 ∧ cap = 0) (k : Nat) (hk : k ≤ n) (hc : n ≤ cap) : SpRow w (uptoA A cap) k (L.take k) ∧ (uptoA A cap = none → k = 0 ∧ cap = 0) := by
  have e : uptoA A cap = A := by
    unfold uptoA
    split
    · rfl
    · cases A with
      | none => rfl
      | some ad => simp [Addr.add]
  rw [e]
  refine ⟨⟨by rw [List.length_take, h.1]; omega, fun s hs => h.2.1 s (List.mem_of_mem_take hs), fun hp => ?_⟩, fun h0 => by obtain ⟨h1, h2⟩ := hA h0; omega⟩
  obtain ⟨b, off, e2, hb, hcl⟩ := h.2.2 (by omega)
  refine ⟨b, off, e2, hb, fun i hi => ?_⟩
  rw [hcl i (by omega), flatS_take h.2.1 k (by have := h.1; omega), List.getElem?_take, if_pos hi]
theorem from_row {w : World} {A : Option Addr} {n cap : Nat} {L : List SpanZ} (h : SpRow w A n L) (hA : A = none → n = 0 ∧ cap = 0) (k : Nat) (hk : k ≤ n) (hc : n ≤ cap) : SpRow w (fromA A cap k) (n - k) (L.drop k) ∧ (fromA A cap k = none → n - k = 0 ∧ cap - k = 0) := by
  refine ⟨?_, fun h0 => ?_⟩
  · rcases Nat.eq_zero_or_pos (n - k) with hz | hp
    · rw [hz, List.drop_of_length_le (by have := h.1; omega)]
      exact SpRow.nil _ _
    · obtain ⟨b, off, rfl, _⟩ := h.form (by omega)
      have := h.rest k hk
      unfold fromA
      rw [if_neg (by omega), Option.map_some, Addr.add_lit]
      exact this
  · unfold fromA at h0
    split at h0
    · have := hA h0
      omega
    · cases A with
      | none => have := hA rfl; omega
      | some ad => simp at h0
theorem load_bytes_at {ops : Array Oper} {rest : List Oper} {a : Act} {w : World} {Q : Exit → Act → World → Prop} {dst : Option Tmp} {t' : TypeId} {pos : String} {aft : Array Edge} (k : Nat) (b o : Nat) (cs : List Value) (hx : a.eval (.tmp k) = .pointer (some ⟨b, o, none⟩)) (hc : w.rangeAt b o cs)
    (hi : (Tryz.prog.info? 41).map (·.size) = some cs.length) (h : wpList Tryz.prog ops Q rest (a.put dst (.agg cs.toArray)) w) :
    wpList Tryz.prog ops Q ({ dst := dst, op := .load 41 (.tmp k), type := t', pos := pos, after := aft, guard := none } :: rest) a w :=
  wpList_load_mid rfl 41 (.tmp k) rfl b o hx cs _ hc Tryz.underlying41 rfl hi h
theorem store_bytes_at {ops : Array Oper} {rest : List Oper} {a : Act} {w : World} {Q : Exit → Act → World → Prop} {dst : Option Tmp} {t' : TypeId} {pos : String} {aft : Array Edge} (k j : Nat) (b o : Nat) (cells : Array Value) (hx : a.eval (.tmp k) = .pointer (some ⟨b, o, none⟩)) (hy : a.eval (.tmp j) = .agg cells)
    (ht : w.there b o cells.size) (hi : (Tryz.prog.info? 41).map (·.size) = some cells.size) (h1 : cells.all (·.oneCell') = true) (h : wpList Tryz.prog ops Q rest (a.put dst undef) (w.setCells b o cells.toList)) :
    wpList Tryz.prog ops Q ({ dst := dst, op := .store 41 (.tmp k) (.tmp j), type := t', pos := pos, after := aft, guard := none } :: rest) a w :=
  wpList_store_mid rfl 41 (.tmp k) (.tmp j) rfl b o cells hx hy ht hi h1 h
theorem load_whole_at {ops : Array Oper} {rest : List Oper} {a : Act} {w : World} {Q : Exit → Act → World → Prop} {dst : Option Tmp} {t' : TypeId} {pos : String} {aft : Array Edge} (k : Nat) (g : Nat) (cs : Array Value) (hx : a.eval (.tmp k) = .pointer (some ⟨g, 0, none⟩)) (hb : Blk w g 62 cs)
    (hi : (Tryz.prog.info? 62).map (·.size) = some cs.size) (h : wpList Tryz.prog ops Q rest (a.put dst (.agg cs)) w) :
    wpList Tryz.prog ops Q ({ dst := dst, op := .load 62 (.tmp k), type := t', pos := pos, after := aft, guard := none } :: rest) a w :=
  wpList_load_row rfl 62 (.tmp k) rfl g hx 62 cs (0, 0) _ hb Tryz.underlying62 rfl hi h
theorem build_span_at {ops : Array Oper} {rest : List Oper} {a : Act} {w : World} {Q : Exit → Act → World → Prop} {dst : Option Tmp} {t' : TypeId} {pos : String} {aft : Array Edge} (k : Nat) (cells : Array Value) (hx : a.eval (.tmp k) = .agg cells) (hb : Tryz.prog.builtSlice 62 1 [(0, .agg cells)] = some cells)
    (h : wpList Tryz.prog ops Q rest (a.put dst (.slice (some ⟨w.heap.size, 0, none⟩) 1 1)) (w.alloc (.cells cells 62))) :
    wpList Tryz.prog ops Q ({ dst := dst, op := .buildSlice 22 1 #[(0, .tmp k)], type := t', pos := pos, after := aft, guard := none } :: rest) a w :=
  build_to rfl 22 62 1 _ rfl w.heap.size rfl dst rfl Tryz.underlying22 cells _ hb (by simp [hx]) h
theorem SpOut.row0 {W0 wr : World} {g n cap : Nat} {L : List SpanZ} (h : SpOut W0 wr (.slice (some ⟨g, 0, none⟩) n cap) L) : n = L.length ∧ SpRow wr (some ⟨g, 0, none⟩) n L := by
  obtain ⟨a, c, e, hr, _⟩ := h.row
  injection e with e1 e2 e3
  subst e1 e2
  exact ⟨rfl, hr⟩
theorem SpOut.v0 {W0 wr : World} {g n cap : Nat} {L : List SpanZ} (h : SpOut W0 wr (.slice (some ⟨g, 0, none⟩) n cap) L) (j : Nat) (hj : j < L.length) : wr.cell? ⟨g, j * 33, none⟩ = some (.bool (L[j]).v) := by
  have := h.row0.2.v j hj
  rwa [Nat.zero_add] at this
theorem SpOut.hi0 {W0 wr : World} {g n cap : Nat} {L : List SpanZ} (h : SpOut W0 wr (.slice (some ⟨g, 0, none⟩) n cap) L) (j : Nat) (hj : j < L.length) : wr.rangeAt g (j * 33 + 17) (acells (L[j]).hi) := by
  have := h.row0.2.hi j hj
  rwa [Nat.zero_add] at this
theorem ins_split : ∀ (R : List SpanZ) (p : SpanZ) (k : Nat), (∀ j q, j < k → R[j]? = some q → aheadS q p = true) → k ≤ R.length → (∀ q, R[k]? = some q → aheadS q p = false) → insS p R = R.take k ++ p :: R.drop k
  | [], p, k, _, hk, _ => by
    have : k = 0 := by simpa using hk
    subst this
    rfl
  | q :: r, p, 0, _, _, h0 => by
    have := h0 q rfl
    unfold insS
    rw [if_neg (by rw [this]; simp)]
    rfl
  | q :: r, p, k + 1, ha, hk, h0 => by
    have := ha 0 q (by omega) rfl
    unfold insS
    rw [if_pos this, ins_split r p k (fun j x hj hx => ha (j + 1) x (by omega) (by rw [List.getElem?_cons_succ]; exact hx)) (by simpa using hk) (fun x hx => h0 x (by rw [List.getElem?_cons_succ]; exact hx))]
    rfl
theorem sort_step {R L : List SpanZ} {i : Nat} (hi : i < L.length) : sortS R (L.drop i) = sortS (if rightZ (L[i]).v (L[i]).lo (L[i]).hi = true then insS (L[i]) R else R) (L.drop (i + 1)) := by
  rw [List.drop_eq_getElem_cons hi]
  rfl
def MergeAt (S : List SpanZ) (k : Nat) (O : List SpanZ) : Prop := (k = 0 ∧ O = []) ∨ ∃ D c, O = D ++ [c] ∧ D ++ mergeS c (S.drop k) = joinAll S
theorem merge_first {S : List SpanZ} (h : 0 < S.length) : MergeAt S 1 [S[0]] := by
  refine .inr ⟨[], S[0], rfl, ?_⟩
  match S, h with
  | c :: r, _ => rfl
theorem merge_zero {S : List SpanZ} {k : Nat} (h : MergeAt S k []) : k = 0 := by
  rcases h with ⟨h, _⟩ | ⟨D, c, h, _⟩
  · exact h
  · simp at h
theorem merge_step {S O : List SpanZ} {k e : Nat} (h : MergeAt S k O) (hk : k < S.length) (he : O.length = e + 1) :
    (touchS (O[e]'(by omega)) S[k] = false → MergeAt S (k + 1) (O ++ [S[k]])) ∧ (touchS (O[e]'(by omega)) S[k] = true → aN (O[e]'(by omega)).hi < aN (S[k]).hi → MergeAt S (k + 1) (O.set e ⟨(O[e]'(by omega)).v, (O[e]'(by omega)).lo, (S[k]).hi⟩)) ∧
      (touchS (O[e]'(by omega)) S[k] = true → ¬ aN (O[e]'(by omega)).hi < aN (S[k]).hi → MergeAt S (k + 1) O) := by
  rcases h with ⟨_, rfl⟩ | ⟨D, c, rfl, hj⟩
  · simp at he
  have hD : D.length = e := by simpa using he
  subst hD
  have ec : (D ++ [c])[D.length]'(by simp) = c := by simp
  rw [List.drop_eq_getElem_cons hk] at hj
  unfold mergeS at hj
  simp only [ec]
  refine ⟨fun t => ?_, fun t w => ?_, fun t w => ?_⟩
  · rw [t, if_neg (by simp)] at hj
    exact .inr ⟨D ++ [c], S[k], rfl, by rw [← hj]; simp⟩
  · rw [t, if_pos rfl] at hj
    refine .inr ⟨D, wideS c S[k], ?_, hj⟩
    unfold wideS
    rw [if_pos w]
    simp
  · rw [t, if_pos rfl] at hj
    refine .inr ⟨D, c, rfl, ?_⟩
    unfold wideS at hj
    rwa [if_neg w] at hj
theorem merge_end {S O : List SpanZ} (h : MergeAt S S.length O) : O = joinAll S := by
  rcases h with ⟨h, rfl⟩ | ⟨D, c, rfl, hj⟩
  · have : S = [] := List.eq_nil_of_length_eq_zero h
    subst this
    rfl
  · rw [List.drop_of_length_le (Nat.le_refl _)] at hj
    exact hj
theorem join_sorted (L : List SpanZ) : joinAll (sortS [] L) = joinS L := by
  unfold joinS joinAll
  rfl
end Go.Proofs.YtlmndmfebgaidaaGreatDoor
