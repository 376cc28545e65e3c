/-
  Merged texts: StA, StB, StC.
-/
import Derived.Test.YteddeebhfnpchaaGtC
import Derived.Laws.ResultCell
import Derived.Test.YteddeebhfnpchaaGtA
import Derived.Test.YteddeebhfnpchaaGtH
namespace Go.Proofs.Yteddeebhfnpchaa
open Go.RowKit
set_option linter.unusedVariables false

/-- Is there an address behind it? -/
def okN (v : Bool) (A : List Int) : Bool := decide (aN A + unitZ v < 2 ^ 128)
def ZC : Array Value := (acells (List.replicate 16 0)).toArray
theorem bytes_one (A : List Int) : (acells A).toArray.all (·.oneCell') = true := by
  rw [Array.all_eq_true_iff_forall_mem]
  intro x hx
  obtain ⟨y, _, rfl⟩ := List.mem_map.1 (show x ∈ acells A by simpa using hx)
  rfl
theorem acells_set (B : List Int) (j : Nat) (x : Int) : (acells B).toArray.setIfInBounds j (.int .u8 x) = (acells (B.set j x)).toArray := by simp [acells, List.map_set]
theorem res_row_tmp {P : Program} {fn : Func} {p u : Tmp} {ty : TypeId} (h : fn.results = #[.cell p ty, .tmp u]) (tmps : Array Value) (w : World) (g : Nat) (t : TypeId) (cs : Array Value) (fr : Nat × Nat) (d : TypeDesc)
    (hp : tmps.getD p undef = .pointer (some ⟨g, 0, none⟩)) (hg : w.heap[g]? = some (.cells cs t fr))
    (hu : P.underlying ty = some d) (hd : (match d with | .struct _ | .array _ _ => true | _ => false) = true) (hi : (P.info? ty).map (·.size) = some cs.size) :
    (results fn tmps).run P w = .ok (.tuple #[.agg cs, tmps.getD u undef]) w := by
  rw [results_cell_tmp h, hp]
  simp [asAddr, run_loadVar_row w g t ty cs fr d hg hu hd hi, Result.andThen]

set_option maxHeartbeats 1000000 in
set_option maxRecDepth 10000 in
theorem rnext_any (v : Bool) (A : List Int) (w : World) (hA : Sixteen A) :
    Calls Try.prog 16 #[.bool v, .agg (acells A).toArray] w fun e w' => e = .returned (.tuple #[.agg (acells (nextA v A)).toArray, .bool (okN v A)]) ∧ Below w.heap.size w w' := by
  have BX : Hid (Blk ((w.alloc (.cells (acells A).toArray 28)).alloc (.cells ZC 28)) w.heap.size 28 (acells A).toArray) := Lib.hid (Blk.alloc (Blk.new _ _ _) _)
  have BZ := Lib.hid (Blk.new (w.alloc (.cells (acells A).toArray 28)) 28 ZC)
  have HGZ : Hid ((w.alloc (.cells (acells A).toArray 28)).heap.size = w.heap.size + 1) := Lib.hid (by simp)
  have BW := Lib.hid (Below.step (box_below w (.cells (acells A).toArray 28)) (box_below _ (.cells ZC 28)))
  have IN := Lib.hid (inc_start v hA)
  have OY : Hid (∀ C, Sixteen C → aN C = aN A + unitZ v → nextA v A = C ∧ okN v A = true) := Lib.hid (fun C hC e => ⟨next_done hC e, decide_eq_true (inc_fits hC e)⟩)
  have ON : Hid (∀ C, IncAt A (unitZ v) C 0 → nextA v A = C ∧ okN v A = false) := Lib.hid (fun C h => ⟨next_over h, decide_eq_false (by have := inc_over h; omega)⟩)
  clear hA
  rw [HGZ.out] at BZ
  clear HGZ
  generalize nextA v A = NA at *
  generalize okN v A = k0 at *
  generalize unitZ v = u at *
  go_enter Try.func16, Try.ntmps16
  go_upto_region 1 with (refine Great.wpList_allocTo rfl (some 4) rfl (.pointer (some ⟨(w.alloc (.cells (acells A).toArray 28)).heap.size, 0, none⟩)) (.cells ZC 28) rfl ?_)
  generalize (w.alloc (.cells (acells A).toArray 28)).alloc (.cells ZC 28) = w2 at *
  cases v with
  | false =>
    go_wp2_with fail
    go_loopw [6] (fun iV wr => ∃ (i : Int) (k : Nat) (B : List Int), iV = .int .i64 i ∧ i + 1 = (k : Int) ∧ k ≤ 16 ∧ IncAt A u B k ∧ Blk wr w.heap.size 28 (acells B).toArray ∧ Blk wr (w.heap.size + 1) 28 ZC ∧ Below w.heap.size w wr) (fun iV _ => (intOf iV + 1).toNat)
    case atStart => exact ⟨_, topZ false + 1, _, rfl, by rfl, by decide, IN.out, BX.out, BZ.out, BW.out⟩
    case round =>
      obtain ⟨i, k, B, rfl, hi, hk, hn, hx, hz, hb⟩ := hrel
      have X5 := Lib.hid hx
      have Z5 := Lib.hid hz
      have B5 := Lib.hid hb
      have N5 := Lib.hid hn
      clear hx hz hb hn BX BZ BW IN
      have ST : Hid (∀ C : List Int, Sixteen C → Hid ((Try.prog.info? 28).map (·.size) = some (acells C).toArray.size) ∧ Hid (ZC.size = (acells C).toArray.size) ∧ Hid ((acells C).toArray.all (·.oneCell') = true)) := Lib.hid (fun C hC => ⟨Lib.hid (by rw [List.size_toArray]; exact Try.sizeA hC.1), Lib.hid (by rw [show (acells C).toArray.size = 16 from acells_len hC.1]; rfl), Lib.hid (bytes_one C)⟩)
      rcases k with _ | j
      · obtain rfl : i = -1 := by omega
        obtain ⟨NX, NO⟩ := ON.out _ N5.out
        obtain ⟨SP, ZE, P1⟩ := ST.out B N5.out.1
        have NX := Lib.hid NX
        have NO := Lib.hid NO
        clear N5 hi hk ST OY ON
        generalize hF : (acells B).toArray = F at *
        have HF := Lib.hid hF
        clear hF
        go_wp2_with (first
          | (refine wpList_load_row rfl 28 (.tmp 3) rfl w.heap.size rfl 28 F (0, 0) _ X5.out Try.underlying28 rfl SP.out ?_)
          | (refine wpList_store_rowTo rfl 28 (.tmp 4) (.tmp 24) rfl rfl (w.heap.size + 1) F rfl rfl 28 ZC Z5.out SP.out ZE.out P1.out ?_))
        exact bodyPost_ret (res_row_tmp rfl _ _ (w.heap.size + 1) 28 F (0, 0) _ rfl (setRow_heap _ _ _ _ 28 _ Z5.out) Try.underlying28 rfl SP.out) rfl ⟨by rw [NX.out, NO.out, HF.out]; rfl, below_setRow B5.out (by omega) _⟩
      · obtain rfl : i = (j : Int) := by omega
        have t0 : decide ((0 : Int) ≤ (j : Int)) = true := decide_eq_true (by omega)
        have hj : j < 16 := by omega
        have iI : (j : Int) < 16 := by omega
        have i0 : (0 : Int) ≤ (j : Int) := by omega
        have b16 := N5.out.1.1
        have zr := sixteen_at0 N5.out.1 j hj
        have cz := (Blk.cell X5.out j).trans (List.getElem?_toArray.trans (acells_at b16 j hj))
        have fz := Blk.free X5.out j
        have NC := Lib.hid (fun h => inc_carry N5.out hj h)
        have ND := Lib.hid (fun h => inc_done N5.out hj h)
        have ss := Lib.hid (fun (x : Int) => (show Blk (wr.setCell ⟨w.heap.size, j, none⟩ (.int .u8 x)) w.heap.size 28 (acells (B.set j x)).toArray from by rw [← acells_set]; exact Blk.set X5.out j _))
        have zz := Lib.hid (fun (x : Int) => (show Blk (wr.setCell ⟨w.heap.size, j, none⟩ (.int .u8 x)) (w.heap.size + 1) 28 ZC from Blk.far Z5.out (by omega) j _))
        have bb := Lib.hid (fun (x : Int) => Below.setCell B5.out (p := ⟨w.heap.size, j, none⟩) (Nat.le_refl _) (.int .u8 x))
        have cs := Lib.hid (fun (x : Int) (hx : (B.set j x).length = 16) (e : (B.set j x)[j]?.getD 0 = x) => (show (wr.setCell ⟨w.heap.size, j, none⟩ (.int .u8 x)).cell? ⟨w.heap.size, j, none⟩ = some (.int .u8 x) from by
          have := (Blk.cell (ss.out x) j).trans (List.getElem?_toArray.trans (acells_at hx j hj))
          rw [this, e]))
        have se : ∀ x : Int, (B.set j x).length = 16 ∧ (B.set j x)[j]?.getD 0 = x := fun x => ⟨by rw [List.length_set]; exact b16, by rw [List.getElem?_set_self (by omega)]; rfl⟩
        have jm1 : IntKind.i64.wrap ((j : Int) - 1) = (j : Int) - 1 := IntWalk.i64_in _ (by omega)
        by_cases h255 : B[j]?.getD 0 = 255
        · have wz : IntKind.u8.wrap (B[j]?.getD 0 + 1) = 0 := by rw [h255]; rfl
          have N7 := Lib.hid (NC.out h255)
          have X7 := Lib.hid (ss.out 0)
          have Z7 := Lib.hid (zz.out 0)
          have B7 := Lib.hid (bb.out 0)
          have c7 := cs.out 0 (se 0).1 (se 0).2
          clear NC ND ss zz bb cs se h255 ST N5 b16 Z5 B5 hi OY ON
          generalize B[j]?.getD 0 = z at *
          go_upto_region 7 with (fail)
          clear X5 cz fz
          generalize wr.setCell ⟨w.heap.size, j, none⟩ (.int .u8 0) = w7 at *
          go_wp2_with fail
          go_roundw
          case rel => exact ⟨(j : Int) - 1, j, _, rfl, by omega, by omega, N7.out, X7.out, Z7.out, B7.out⟩
          case measure => simp only [intOf]; omega
        · have wz : IntKind.u8.wrap (B[j]?.getD 0 + 1) = B[j]?.getD 0 + 1 := wrap8 zr.1 (by omega)
          obtain ⟨N7, N8⟩ := ND.out h255
          obtain ⟨NX, NO⟩ := OY.out _ N7 N8
          have X7 := Lib.hid (ss.out (B[j]?.getD 0 + 1))
          have Z7 := Lib.hid (zz.out (B[j]?.getD 0 + 1))
          have B7 := Lib.hid (bb.out (B[j]?.getD 0 + 1))
          have c7 := cs.out (B[j]?.getD 0 + 1) (se _).1 (se _).2
          obtain ⟨SP, ZE, P1⟩ := ST.out _ N7
          have nz : (B[j]?.getD 0 + 1 != 0) = true := by simp; omega
          have NX := Lib.hid NX
          have NO := Lib.hid NO
          clear NC ND ss zz bb cs se h255 ST N5 b16 Z5 B5 hi N7 N8 OY ON
          generalize hF : (acells (B.set j (B[j]?.getD 0 + 1))).toArray = F at *
          have HF := Lib.hid hF
          clear hF
          generalize hy : B[j]?.getD 0 + 1 = y at *
          generalize B[j]?.getD 0 = z at *
          have HY := Lib.hid hy
          rw [← hy] at wz
          clear hy
          have wz' : IntKind.u8.wrap (z + 1) = y := by rw [wz]; exact HY.out
          clear wz zr
          go_upto_region 7 with (fail)
          clear X5 cz fz
          generalize wr.setCell ⟨w.heap.size, j, none⟩ (.int .u8 y) = w7 at *
          go_wp2_with (first
            | (refine wpList_load_row rfl 28 (.tmp 3) rfl w.heap.size rfl 28 F (0, 0) _ X7.out Try.underlying28 rfl SP.out ?_)
            | (refine wpList_store_rowTo rfl 28 (.tmp 4) (.tmp 23) rfl rfl (w.heap.size + 1) F rfl rfl 28 ZC Z7.out SP.out ZE.out P1.out ?_))
          exact bodyPost_ret (res_row_tmp rfl _ _ (w.heap.size + 1) 28 F (0, 0) _ rfl (setRow_heap _ _ _ _ 28 _ Z7.out) Try.underlying28 rfl SP.out) rfl ⟨by rw [NX.out, NO.out, HF.out]; rfl, below_setRow B7.out (by omega) _⟩
  | true =>
    go_wp2_with fail
    go_loopw [6] (fun iV wr => ∃ (i : Int) (k : Nat) (B : List Int), iV = .int .i64 i ∧ i + 1 = (k : Int) ∧ k ≤ 16 ∧ IncAt A u B k ∧ Blk wr w.heap.size 28 (acells B).toArray ∧ Blk wr (w.heap.size + 1) 28 ZC ∧ Below w.heap.size w wr) (fun iV _ => (intOf iV + 1).toNat)
    case atStart => exact ⟨_, topZ true + 1, _, rfl, by rfl, by decide, IN.out, BX.out, BZ.out, BW.out⟩
    case round =>
      obtain ⟨i, k, B, rfl, hi, hk, hn, hx, hz, hb⟩ := hrel
      have X5 := Lib.hid hx
      have Z5 := Lib.hid hz
      have B5 := Lib.hid hb
      have N5 := Lib.hid hn
      clear hx hz hb hn BX BZ BW IN
      have ST : Hid (∀ C : List Int, Sixteen C → Hid ((Try.prog.info? 28).map (·.size) = some (acells C).toArray.size) ∧ Hid (ZC.size = (acells C).toArray.size) ∧ Hid ((acells C).toArray.all (·.oneCell') = true)) := Lib.hid (fun C hC => ⟨Lib.hid (by rw [List.size_toArray]; exact Try.sizeA hC.1), Lib.hid (by rw [show (acells C).toArray.size = 16 from acells_len hC.1]; rfl), Lib.hid (bytes_one C)⟩)
      rcases k with _ | j
      · obtain rfl : i = -1 := by omega
        obtain ⟨NX, NO⟩ := ON.out _ N5.out
        obtain ⟨SP, ZE, P1⟩ := ST.out B N5.out.1
        have NX := Lib.hid NX
        have NO := Lib.hid NO
        clear N5 hi hk ST OY ON
        generalize hF : (acells B).toArray = F at *
        have HF := Lib.hid hF
        clear hF
        go_wp2_with (first
          | (refine wpList_load_row rfl 28 (.tmp 3) rfl w.heap.size rfl 28 F (0, 0) _ X5.out Try.underlying28 rfl SP.out ?_)
          | (refine wpList_store_rowTo rfl 28 (.tmp 4) (.tmp 24) rfl rfl (w.heap.size + 1) F rfl rfl 28 ZC Z5.out SP.out ZE.out P1.out ?_))
        exact bodyPost_ret (res_row_tmp rfl _ _ (w.heap.size + 1) 28 F (0, 0) _ rfl (setRow_heap _ _ _ _ 28 _ Z5.out) Try.underlying28 rfl SP.out) rfl ⟨by rw [NX.out, NO.out, HF.out]; rfl, below_setRow B5.out (by omega) _⟩
      · obtain rfl : i = (j : Int) := by omega
        have t0 : decide ((0 : Int) ≤ (j : Int)) = true := decide_eq_true (by omega)
        have hj : j < 16 := by omega
        have iI : (j : Int) < 16 := by omega
        have i0 : (0 : Int) ≤ (j : Int) := by omega
        have b16 := N5.out.1.1
        have zr := sixteen_at0 N5.out.1 j hj
        have cz := (Blk.cell X5.out j).trans (List.getElem?_toArray.trans (acells_at b16 j hj))
        have fz := Blk.free X5.out j
        have NC := Lib.hid (fun h => inc_carry N5.out hj h)
        have ND := Lib.hid (fun h => inc_done N5.out hj h)
        have ss := Lib.hid (fun (x : Int) => (show Blk (wr.setCell ⟨w.heap.size, j, none⟩ (.int .u8 x)) w.heap.size 28 (acells (B.set j x)).toArray from by rw [← acells_set]; exact Blk.set X5.out j _))
        have zz := Lib.hid (fun (x : Int) => (show Blk (wr.setCell ⟨w.heap.size, j, none⟩ (.int .u8 x)) (w.heap.size + 1) 28 ZC from Blk.far Z5.out (by omega) j _))
        have bb := Lib.hid (fun (x : Int) => Below.setCell B5.out (p := ⟨w.heap.size, j, none⟩) (Nat.le_refl _) (.int .u8 x))
        have cs := Lib.hid (fun (x : Int) (hx : (B.set j x).length = 16) (e : (B.set j x)[j]?.getD 0 = x) => (show (wr.setCell ⟨w.heap.size, j, none⟩ (.int .u8 x)).cell? ⟨w.heap.size, j, none⟩ = some (.int .u8 x) from by
          have := (Blk.cell (ss.out x) j).trans (List.getElem?_toArray.trans (acells_at hx j hj))
          rw [this, e]))
        have se : ∀ x : Int, (B.set j x).length = 16 ∧ (B.set j x)[j]?.getD 0 = x := fun x => ⟨by rw [List.length_set]; exact b16, by rw [List.getElem?_set_self (by omega)]; rfl⟩
        have jm1 : IntKind.i64.wrap ((j : Int) - 1) = (j : Int) - 1 := IntWalk.i64_in _ (by omega)
        by_cases h255 : B[j]?.getD 0 = 255
        · have wz : IntKind.u8.wrap (B[j]?.getD 0 + 1) = 0 := by rw [h255]; rfl
          have N7 := Lib.hid (NC.out h255)
          have X7 := Lib.hid (ss.out 0)
          have Z7 := Lib.hid (zz.out 0)
          have B7 := Lib.hid (bb.out 0)
          have c7 := cs.out 0 (se 0).1 (se 0).2
          clear NC ND ss zz bb cs se h255 ST N5 b16 Z5 B5 hi OY ON
          generalize B[j]?.getD 0 = z at *
          go_upto_region 7 with (fail)
          clear X5 cz fz
          generalize wr.setCell ⟨w.heap.size, j, none⟩ (.int .u8 0) = w7 at *
          go_wp2_with fail
          go_roundw
          case rel => exact ⟨(j : Int) - 1, j, _, rfl, by omega, by omega, N7.out, X7.out, Z7.out, B7.out⟩
          case measure => simp only [intOf]; omega
        · have wz : IntKind.u8.wrap (B[j]?.getD 0 + 1) = B[j]?.getD 0 + 1 := wrap8 zr.1 (by omega)
          obtain ⟨N7, N8⟩ := ND.out h255
          obtain ⟨NX, NO⟩ := OY.out _ N7 N8
          have X7 := Lib.hid (ss.out (B[j]?.getD 0 + 1))
          have Z7 := Lib.hid (zz.out (B[j]?.getD 0 + 1))
          have B7 := Lib.hid (bb.out (B[j]?.getD 0 + 1))
          have c7 := cs.out (B[j]?.getD 0 + 1) (se _).1 (se _).2
          obtain ⟨SP, ZE, P1⟩ := ST.out _ N7
          have nz : (B[j]?.getD 0 + 1 != 0) = true := by simp; omega
          have NX := Lib.hid NX
          have NO := Lib.hid NO
          clear NC ND ss zz bb cs se h255 ST N5 b16 Z5 B5 hi N7 N8 OY ON
          generalize hF : (acells (B.set j (B[j]?.getD 0 + 1))).toArray = F at *
          have HF := Lib.hid hF
          clear hF
          generalize hy : B[j]?.getD 0 + 1 = y at *
          generalize B[j]?.getD 0 = z at *
          have HY := Lib.hid hy
          rw [← hy] at wz
          clear hy
          have wz' : IntKind.u8.wrap (z + 1) = y := by rw [wz]; exact HY.out
          clear wz zr
          go_upto_region 7 with (fail)
          clear X5 cz fz
          generalize wr.setCell ⟨w.heap.size, j, none⟩ (.int .u8 y) = w7 at *
          go_wp2_with (first
            | (refine wpList_load_row rfl 28 (.tmp 3) rfl w.heap.size rfl 28 F (0, 0) _ X7.out Try.underlying28 rfl SP.out ?_)
            | (refine wpList_store_rowTo rfl 28 (.tmp 4) (.tmp 23) rfl rfl (w.heap.size + 1) F rfl rfl 28 ZC Z7.out SP.out ZE.out P1.out ?_))
          exact bodyPost_ret (res_row_tmp rfl _ _ (w.heap.size + 1) 28 F (0, 0) _ rfl (setRow_heap _ _ _ _ 28 _ Z7.out) Try.underlying28 rfl SP.out) rfl ⟨by rw [NX.out, NO.out, HF.out]; rfl, below_setRow B7.out (by omega) _⟩

end Go.Proofs.Yteddeebhfnpchaa

namespace Go.Proofs.Yteddeebhfnpchaa
open Go.RowKit
set_option linter.unusedVariables false

theorem cmpN_le (a b : Nat) : decide (cmpN a b ≤ 0) = decide (a ≤ b) := by
  rw [Bool.eq_iff_iff, decide_eq_true_iff, decide_eq_true_iff]
  unfold cmpN
  split
  · omega
  · split <;> omega
theorem cmpN_lt (a b : Nat) : decide (cmpN a b < 0) = decide (a < b) := by
  rw [Bool.eq_iff_iff, decide_eq_true_iff, decide_eq_true_iff]
  unfold cmpN
  split
  · omega
  · split <;> omega
theorem cmpN_gt (a b : Nat) : decide (0 < cmpN a b) = decide (b < a) := by
  rw [Bool.eq_iff_iff, decide_eq_true_iff, decide_eq_true_iff]
  unfold cmpN
  split
  · omega
  · split <;> omega
theorem right_good {v : Bool} {lo hi : List Int} (hl : Sixteen lo) (hh : Sixteen hi) (h : v = true ∨ ∀ j, 4 ≤ j → j < 16 → lo[j]?.getD 0 = 0 ∧ hi[j]?.getD 0 = 0) : decide (cmpN (aN lo) (aN hi) ≤ 0) = rightZ v lo hi := by
  rw [cmpN_le]
  unfold rightZ
  rcases h with rfl | h
  · rfl
  · rw [decide_eq_true ((tail_zero hl).1 (fun j h4 h16 => (h j h4 h16).1)), decide_eq_true ((tail_zero hh).1 (fun j h4 h16 => (h j h4 h16).2))]
    simp
theorem right_bad {lo hi : List Int} (hl : Sixteen lo) (hh : Sixteen hi) {j : Nat} (h4 : 4 ≤ j) (h16 : j < 16) (h : ¬ (lo[j]?.getD 0 = 0 ∧ hi[j]?.getD 0 = 0)) : rightZ false lo hi = false := by
  unfold rightZ
  rw [Bool.false_or]
  by_cases k : aN lo % 2 ^ 96 = 0
  · by_cases m : aN hi % 2 ^ 96 = 0
    · exact absurd ⟨(tail_zero hl).2 k j h4 h16, (tail_zero hh).2 m j h4 h16⟩ h
    · rw [decide_eq_false m]
      simp
  · rw [decide_eq_false k]
    simp

set_option maxHeartbeats 1000000 in
set_option maxRecDepth 10000 in
theorem rsright_any (s : SpanZ) (w : World) (hs : SixS s) :
    Calls Try.prog 27 #[.agg (scells s)] w fun e w' => e = .returned (.bool (rightZ s.v s.lo s.hi)) ∧ Below w.heap.size w w' := by
  have BX : Hid (SBlk (w.alloc (.cells (scells s) 30)) w.heap.size s) := Lib.hid (sbox w s)
  have BW := Lib.hid (box_below w (.cells (scells s) 30))
  have GR := Lib.hid (fun h => right_good (v := s.v) hs.1 hs.2 h)
  have GB := Lib.hid (fun j (h4 : 4 ≤ j) (h16 : j < 16) h => right_bad hs.1 hs.2 h4 h16 h)
  have CC := Lib.hid (fun W => rcmpaddr_any s.lo s.hi W hs.1 hs.2)
  have SL := Lib.hid (Try.sizeA hs.1.1)
  have SH := Lib.hid (Try.sizeA hs.2.1)
  have HS := Lib.hid hs
  clear hs
  go_enter Try.func27, Try.ntmps27
  generalize hw2 : w.alloc (.cells (scells s) 30) = w2 at *
  obtain ⟨v, lo, hi⟩ := s
  have cv := BX.out.v
  have LO := Lib.hid (BX.out.lo HS.out)
  have HI := Lib.hid (BX.out.hi HS.out)
  have CL := Lib.hid (fun q (hq : q < 16) => (Blk.cell BX.out (1 + q)).trans (scells_lo HS.out q hq))
  have CH := Lib.hid (fun q (hq : q < 16) => (Blk.cell BX.out (17 + q)).trans (scells_hi HS.out q hq))
  clear BX HS
  dsimp only at *
  go_wp2_with fail
  clear hw2
  go_loopw [3] (fun iV wr => ∃ i : Nat, iV = .int .i64 (i : Int) ∧ 4 ≤ i ∧ i ≤ 16 ∧ (∀ j, 4 ≤ j → j < i → lo[j]?.getD 0 = 0 ∧ hi[j]?.getD 0 = 0) ∧ wr = w2.drewN 0) (fun iV _ => (200 - intOf iV).toNat)
  case atStart => exact ⟨4, rfl, Nat.le_refl _, by omega, fun j h1 h2 => by omega, rfl⟩
  case round =>
    obtain ⟨i, rfl, h4, h16, hz, hw⟩ := hrel
    obtain rfl : wr = w2 := hw
    have HZ := Lib.hid hz
    clear hz
    have END : Hid ((v = true ∨ i = 16) → decide (cmpN (aN lo) (aN hi) ≤ 0) = rightZ v lo hi) := Lib.hid (fun h => GR.out (h.elim Or.inl (fun e => Or.inr (fun j a b => HZ.out j a (by omega)))))
    by_cases hlt : i < 16
    · have t0 : decide ((i : Int) < 16) = true := decide_eq_true (by omega)
      cases v with
      | true =>
        have ED := Lib.hid (END.out (Or.inl rfl))
        clear END CL CH GR GB HZ h4 h16 hlt
        go_wp2_with (first
          | (refine wpList_load_mid rfl 28 (.tmp 25) rfl w.heap.size 1 rfl (acells lo) _ LO.out Try.underlying28 rfl SL.out ?_)
          | (refine wpList_load_mid rfl 28 (.tmp 27) rfl w.heap.size 17 rfl (acells hi) _ HI.out Try.underlying28 rfl SH.out ?_)
          | (go_at_call 17
             refine (CC.out _).mono ?_
             rintro r w5 ⟨rfl, hb5⟩
             have B5 := Lib.hid (Below.step BW.out hb5)
             clear hb5))
        go_ret
        exact ⟨by rw [← ED.out]; rfl, B5.out⟩
      | false =>
        have cl := CL.out i hlt
        have ch := CH.out i hlt
        have i0 : (0 : Int) ≤ (i : Int) := by omega
        have i1 : (i : Int) < 16 := by omega
        have ip : IntKind.i64.wrap ((i : Int) + 1) = (i : Int) + 1 := IntWalk.i64_in _ (by omega)
        have NX : Hid (lo[i]?.getD 0 = 0 → hi[i]?.getD 0 = 0 → ∀ j, 4 ≤ j → j < i + 1 → lo[j]?.getD 0 = 0 ∧ hi[j]?.getD 0 = 0) := Lib.hid (fun a b j h1 h2 => by
          rcases Nat.lt_or_ge j i with h | h
          · exact HZ.out j h1 h
          · rw [show j = i by omega]; exact ⟨a, b⟩)
        have BD := Lib.hid (GB.out i h4 hlt)
        clear END CL CH GR GB CC
        generalize lo[i]?.getD 0 = x at *
        generalize hi[i]?.getD 0 = y at *
        by_cases hx : x = 0
        · by_cases hy : y = 0
          · have t1 : (x != 0) = false := by simp [hx]
            have t2 : (y != 0) = false := by simp [hy]
            have NN := Lib.hid (NX.out hx hy)
            clear hx hy NX BD
            go_wp2_with fail
            go_roundw
            case rel => exact ⟨i + 1, by push_cast; rfl, by omega, by omega, NN.out, rfl⟩
            case measure => simp only [intOf]; omega
          · have t1 : (x != 0) = false := by simp [hx]
            have t2 : (y != 0) = true := by simp [hy]
            have NB := Lib.hid (BD.out (fun h => hy h.2))
            clear hx hy NX BD
            go_wp2_with fail
            go_ret
            exact ⟨by rw [NB.out]; rfl, BW.out⟩
        · have t1 : (x != 0) = true := by simp [hx]
          have NB := Lib.hid (BD.out (fun h => hx h.1))
          clear hx NX BD
          go_wp2_with fail
          go_ret
          exact ⟨by rw [NB.out]; rfl, BW.out⟩
    · have t0 : decide ((i : Int) < 16) = false := decide_eq_false (by omega)
      have ED := Lib.hid (END.out (Or.inr (by omega)))
      clear END CL CH GR GB HZ h4 h16 hlt
      go_wp2_with (first
        | (refine wpList_load_mid rfl 28 (.tmp 25) rfl w.heap.size 1 rfl (acells lo) _ LO.out Try.underlying28 rfl SL.out ?_)
        | (refine wpList_load_mid rfl 28 (.tmp 27) rfl w.heap.size 17 rfl (acells hi) _ HI.out Try.underlying28 rfl SH.out ?_)
        | (go_at_call 17
           refine (CC.out _).mono ?_
           rintro r w5 ⟨rfl, hb5⟩
           have B5 := Lib.hid (Below.step BW.out hb5)
           clear hb5))
      go_ret
      exact ⟨by rw [← ED.out]; rfl, B5.out⟩

set_option maxHeartbeats 1000000 in
set_option maxRecDepth 10000 in
theorem rahead_any (s t : SpanZ) (w : World) (hs : SixS s) (ht : SixS t) :
    Calls Try.prog 28 #[.agg (scells s), .agg (scells t)] w fun e w' => e = .returned (.bool (aheadS s t)) ∧ Below w.heap.size w w' := by
  obtain ⟨bx, by', bw⟩ := two_sboxes w s t
  have cv := bx.v
  have cu := by'.v
  have LX := Lib.hid (bx.lo hs)
  have LY := Lib.hid (by'.lo ht)
  have BW := Lib.hid bw.1
  have CC := Lib.hid (fun W => rcmpaddr_any s.lo t.lo W hs.1 ht.1)
  have SL := Lib.hid (Try.sizeA hs.1.1)
  have SH := Lib.hid (Try.sizeA ht.1.1)
  clear bx by' bw hs ht
  have AD : Hid (s.v = t.v → aheadS s t = decide (cmpN (aN s.lo) (aN t.lo) < 0)) := Lib.hid (fun e => by
    unfold aheadS
    rw [if_neg (by simpa using e), cmpN_lt])
  have AN : Hid (s.v ≠ t.v → aheadS s t = t.v) := Lib.hid (fun e => by
    unfold aheadS
    rw [if_pos e])
  obtain ⟨v, lo, hi⟩ := s
  obtain ⟨u, lo', hi'⟩ := t
  generalize aheadS _ _ = r0 at *
  go_enter Try.func28, Try.ntmps28
  generalize hw2 : (w.alloc (.cells (scells ⟨v, lo, hi⟩) 30)).alloc (.cells (scells ⟨u, lo', hi'⟩) 30) = w2 at *
  dsimp only at *
  by_cases h : v = u
  · have AA := Lib.hid (AD.out h)
    have t0 : (v == u) = true := by simp [h]
    clear AD AN h
    go_wp2_with (first
      | (refine wpList_load_mid rfl 28 (.tmp 12) rfl w.heap.size 1 rfl (acells lo) _ LX.out Try.underlying28 rfl SL.out ?_)
      | (refine wpList_load_mid rfl 28 (.tmp 14) rfl (w.heap.size + 1) 1 rfl (acells lo') _ LY.out Try.underlying28 rfl SH.out ?_)
      | (go_at_call 17
         refine (CC.out _).mono ?_
         rintro r w5 ⟨rfl, hb5⟩
         have B5 := Lib.hid (Below.step BW.out hb5)
         clear hb5))
    go_ret
    exact ⟨by rw [AA.out]; rfl, B5.out⟩
  · have AA := Lib.hid (AN.out h)
    have t0 : (v == u) = false := by simp [h]
    clear AD AN h
    go_wp2_with fail
    go_ret
    exact ⟨by rw [AA.out]; rfl, BW.out⟩

end Go.Proofs.Yteddeebhfnpchaa

namespace Go.Proofs.Yteddeebhfnpchaa
open Go.RowKit
set_option linter.unusedVariables false

theorem SpRow.v {w : World} {b off n : Nat} {L : List SpanZ} (h : SpRow w (some ⟨b, off, none⟩) n L) (j : Nat) (hj : j < L.length) : w.cell? ⟨b, off + j * 33, none⟩ = some (.bool (L[j]).v) := h.range j hj 0 _ rfl
theorem SpRow.lo {w : World} {b off n : Nat} {L : List SpanZ} (h : SpRow w (some ⟨b, off, none⟩) n L) (j : Nat) (hj : j < L.length) : w.rangeAt b (off + j * 33 + 1) (acells (L[j]).lo) := fun i v hv => by
  have s6 := h.2.1 _ (List.getElem_mem hj)
  have hi : i < 16 := by
    have := (List.getElem?_eq_some_iff.1 hv).1
    rwa [acells_len s6.1.1] at this
  have k := h.range j hj (1 + i) v (by
    rw [Nat.add_comm 1 i]
    show (Value.bool (L[j]).v :: (acells (L[j]).lo ++ acells (L[j]).hi))[i + 1]? = some v
    rw [List.getElem?_cons_succ, List.getElem?_append_left (by rw [acells_len s6.1.1]; exact hi)]
    exact hv)
  rwa [← Nat.add_assoc] at k
theorem SpRow.hi {w : World} {b off n : Nat} {L : List SpanZ} (h : SpRow w (some ⟨b, off, none⟩) n L) (j : Nat) (hj : j < L.length) : w.rangeAt b (off + j * 33 + 17) (acells (L[j]).hi) := fun i v hv => by
  have s6 := h.2.1 _ (List.getElem_mem hj)
  have hi : i < 16 := by
    have := (List.getElem?_eq_some_iff.1 hv).1
    rwa [acells_len s6.2.1] at this
  have k := h.range j hj (17 + i) v (by
    rw [show 17 + i = (16 + i) + 1 by omega]
    show (Value.bool (L[j]).v :: (acells (L[j]).lo ++ acells (L[j]).hi))[16 + i + 1]? = some v
    rw [List.getElem?_cons_succ, List.getElem?_append_right (by rw [acells_len s6.1.1]; omega), acells_len s6.1.1, show 16 + i - 16 = i by omega]
    exact hv)
  rwa [← Nat.add_assoc] at k
theorem yields_bool {o : Oper} {a : Act} {W : World} (x : Operand) (ho : o.op = .load 4 x) (g off : Nat) (v : Value) (hx : a.eval x = .pointer (some ⟨g, off, none⟩)) (hc : W.cell? ⟨g, off, none⟩ = some v) : (execOp a.eval o).run Try.prog W = .ok (.value v) W := by
  have u3 : Try.prog.underlying 4 = some .bool := Try.underlying4
  unfold execOp
  simp only [ho, hx]
  go_simp
theorem alloc_bytes_run {o : Oper} {a : Act} {w : World} (ho : o.op = .alloc 28) : (execOp a.eval o).run Try.prog w = .ok (.value (.pointer (some ⟨w.heap.size, 0, none⟩))) (w.alloc (.cells ZC 28)) := by
  unfold execOp
  simp only [ho]
  rfl
theorem op_alloc_ar {o : Oper} {a : Act} {w : World} {K : Act → World → Prop} {Q : Exit → Act → World → Prop} (ho : o.op = .alloc 28)
    (hK : ∀ g w', w.heap.size ≤ g → Blk w' g 28 ZC → Below w.heap.size w w' → K (a.put o.dst (.pointer (some ⟨g, 0, none⟩))) w') : o.wp Try.prog a w K Q :=
  op_of_run _ _ (alloc_bytes_run ho) (hK _ _ (Nat.le_refl _) (Blk.new _ _ _) (box_below _ _))
theorem op_store_ar {o : Oper} {a : Act} {w : World} {K : Act → World → Prop} {Q : Exit → Act → World → Prop} (x y : Operand) (ho : o.op = .store 28 x y) (hdst : o.dst = none) (g : Nat) (A : List Int) (hA : Sixteen A) (hx : a.eval x = .pointer (some ⟨g, 0, none⟩)) (hy : a.eval y = .agg (acells A).toArray)
    (hb : Blk w g 28 ZC) (hK : K a (w.setRow g (acells A).toArray)) : o.wp Try.prog a w K Q := by
  refine op_of_skip (w.setRow g (acells A).toArray) ?_ (by rw [hdst]; exact hK)
  unfold execOp
  simp only [ho, hx, hy, Instr.storeAt, Instr.sureAddr, Sem.run_bind, Sem.run_pure, Result.andThen_ok, run_storeVar_row (P := Try.prog) w g 28 28 ZC (acells A).toArray hb (by rw [List.size_toArray]; exact Try.sizeA hA.1) (by rw [show (acells A).toArray.size = 16 from acells_len hA.1]; rfl) (bytes_one A)]

/-- A load of a span in the middle of a block: told by the slot of its address, so that it fails at once elsewhere. -/
theorem load_span_at {ops : Array Oper} {rest : List Oper} {a : Act} {w : World} {Q : Exit → Act → World → Prop} {dst : Option Tmp} {t' : TypeId} {pos : String} {aft : Array Edge} (k : Nat) (b o : Nat) (cs : List Value) (hx : a.eval (.tmp k) = .pointer (some ⟨b, o, none⟩)) (hc : w.rangeAt b o cs)
    (hi : (Try.prog.info? 30).map (·.size) = some cs.length) (h : wpList Try.prog ops Q rest (a.put dst (.agg cs.toArray)) w) :
    wpList Try.prog ops Q ({ dst := dst, op := .load 30 (.tmp k), type := t', pos := pos, after := aft, guard := none } :: rest) a w :=
  wpList_load_mid rfl 30 (.tmp k) rfl b o hx cs _ hc Try.underlying30 rfl hi h
/-- Neighbours of a normal list. -/
theorem norm_at : ∀ {l : List (Nat × Nat)} (k : Nat) {p q : Nat × Nat}, NormZ l → l[k]? = some p → l[k + 1]? = some q → p.2 + 1 < q.1
  | [], k, p, q, _, h, _ => by simp at h
  | p' :: r, 0, p, q, h, h1, h2 => by
    simp at h1
    subst h1
    rw [List.getElem?_cons_succ] at h2
    exact h.2.1 q (List.mem_of_getElem? h2)
  | p' :: r, k + 1, p, q, h, h1, h2 => by
    rw [List.getElem?_cons_succ] at h1 h2
    exact norm_at k h.2.2 h1 h2
theorem touch_not {c q : SpanZ} (hc : SpanOk c) (hq : SpanOk q) (h : (lineS c).2 + 1 < (lineS q).1) : touchS c q = false := by
  have l := ok_line hc
  cases t : touchS c q
  · rfl
  · have := (touch_line hc hq (by omega)).1 t
    omega
theorem next_num {v : Bool} {A : List Int} (h : okN v A = true) : aN (nextA v A) = aN A + unitZ v := by
  have h' : aN A + unitZ v < 2 ^ 128 := of_decide_eq_true h
  unfold nextA
  rw [Nat.mod_eq_of_lt h', aN_by16 h']
theorem touch_next {c q : SpanZ} (hq : Sixteen q.lo) : touchS c q = ((c.v == q.v) && (!okN c.v c.hi || decide (cmpN (aN q.lo) (aN (nextA c.v c.hi)) ≤ 0))) := by
  unfold touchS
  congr 1
  rw [cmpN_le]
  cases h : okN c.v c.hi
  · have h' : ¬ aN c.hi + unitZ c.v < 2 ^ 128 := of_decide_eq_false h
    have := aN_lt16 hq
    rw [decide_eq_true (by omega)]
    rfl
  · rw [next_num h]
    rfl
/-- What stands in a joined list, one behind the other. -/
theorem joined_at {L : List SpanZ} (hL : SpansZ L) (e : Nat) (h : e + 1 < (joinS L).length) :
    ((joinS L)[e].v = true → (joinS L)[e + 1].v = true) ∧ ((joinS L)[e].v = (joinS L)[e + 1].v → okN (joinS L)[e].v (joinS L)[e].hi = true ∧ cmpN (aN (nextA (joinS L)[e].v (joinS L)[e].hi)) (aN (joinS L)[e + 1].lo) < 0) := by
  have ok := join_ok hL
  have nm := join_norm' hL
  rw [onL_ok ok] at nm
  have hc := ok _ (List.getElem_mem (show e < (joinS L).length by omega))
  have hq := ok _ (List.getElem_mem h)
  have lt := norm_at e nm (p := lineS (joinS L)[e]) (q := lineS (joinS L)[e + 1]) (by rw [List.getElem?_map, List.getElem?_eq_getElem (by omega)]; rfl) (by rw [List.getElem?_map, List.getElem?_eq_getElem h]; rfl)
  have tn := touch_not hc hq lt
  generalize (joinS L)[e] = c at *
  generalize (joinS L)[e + 1] = q at *
  refine ⟨fun hv => ?_, fun hv => ?_⟩
  · cases hu : q.v
    · exfalso
      have p : (2 : Nat) ^ 32 < 2 ^ 40 := by decide
      have h1 : lineZ c.v c.hi + 1 < lineZ q.v q.lo := lt
      rw [hv, hu, line_six] at h1
      have := line_four hq.1
      omega
    · rfl
  · rw [touch_next hq.1, hv, beq_self_eq_true, Bool.true_and] at tn
    rw [← hv] at tn
    rw [Bool.or_eq_false_iff] at tn
    obtain ⟨t1, t2⟩ := tn
    refine ⟨by simpa using t1, ?_⟩
    have := of_decide_eq_false t2
    unfold cmpN at this ⊢
    split at this
    · omega
    · split at this
      · rename_i h1 h2
        rw [if_pos h2]
        omega
      · omega

end Go.Proofs.Yteddeebhfnpchaa
