/-
  What the package's afterBlock answers, for stage 6 (sha).
-/
import Derived.Test.YtgldoppcillljaaDoorShaX
namespace Go.Proofs.YtgldoppcillljaaDoor
open Go.RowKit
set_option linter.unusedVariables false

def rotI (x n : Int) : Int := rotZ x n.toNat
theorem rotri_any (x n : Int) (w : World) (hn : Turns n.toNat) (hn0 : 0 ≤ n) (h0 : 0 ≤ x) (h1 : x ≤ 4294967295) : Calls Tryd.prog 31 #[.int .u32 x, .int .i64 n] w fun e w' => e = .returned (.int .u32 (rotI x n)) ∧ w' = w :=
  rotr_any x n n.toNat w (Int.toNat_of_nonneg hn0).symm hn h0 h1

def V8.cells (v : V8) : Array Value := #[.int .u32 v.a, .int .u32 v.b, .int .u32 v.c, .int .u32 v.d, .int .u32 v.e, .int .u32 v.f, .int .u32 v.g, .int .u32 v.h]
/-- The two listed variables hold the document's words. -/
def Tab (w : World) : Prop := 2 ≤ w.heap.size ∧ (∃ t fr, w.heap[0]? = some (.cells H0.cells t fr)) ∧ ∃ t fr, w.heap[1]? = some (.cells (wcells CONSTS) t fr)
theorem Tab.below {w w' : World} (h : Tab w) (hb : Below w.heap.size w w') : Tab w' := by
  obtain ⟨h2, ⟨t0, f0, h0⟩, t1, f1, h1⟩ := h
  exact ⟨Nat.le_trans h2 hb.size, ⟨t0, f0, (hb.block 0 (by omega)).trans h0⟩, t1, f1, (hb.block 1 (by omega)).trans h1⟩
theorem Tab.const {w : World} (h : Tab w) (t : Nat) (ht : t < 64) : w.cell? ⟨1, t, none⟩ = some (.int .u32 (CONSTS[t]?.getD 0)) := by
  obtain ⟨_, _, _, fr, h1⟩ := h
  have : w.cell? ⟨1, t, none⟩ = (wcells CONSTS)[t]? := by
    simp only [World.cell?, h1]
    rfl
  rw [this, wcells_get _ t ht]

theorem ok_addV (v s : V8) : (addV v s).ok := ⟨m32_range _, m32_range _, m32_range _, m32_range _, m32_range _, m32_range _, m32_range _, m32_range _⟩
theorem ok_stepV {v : V8} (h : v.ok) (c x : Int) : (stepV v c x).ok := by
  obtain ⟨ha, hb, hc, hd, he, hf, hg, hh⟩ := h
  exact ⟨m32_range _, ha, hb, hc, m32_range _, he, hf, hg⟩
theorem ok_rounds {v : V8} (h : v.ok) (l : List Int) (k : Nat) : (roundsV v l k).ok := by
  induction k with
  | zero => exact h
  | succ k ih => exact ok_stepV ih _ _
theorem ok_block (v : V8) (b : List Int) : (blockV v b).ok := ok_addV _ _
theorem ok_H0 : H0.ok := by
  unfold H0 V8.ok W32
  decide

/-- Where afterBlock's loop stands: its blocks. -/
def BlkAt (w wr : World) (B : Nat) (v : V8) (l : List Int) : Prop :=
  Blk wr w.heap.size 41 v.cells ∧ (∃ z : V8, Blk wr (w.heap.size + 1) 41 z.cells) ∧ Blk wr B 53 (wcells l) ∧ Below w.heap.size w wr ∧ Tab wr
theorem BlkAt.drewN {w wr : World} {B : Nat} {v : V8} {l : List Int} (h : BlkAt w wr B v l) (q : Nat) : BlkAt w (wr.drewN q) B v l :=
  ⟨h.1, h.2.1, h.2.2.1, { h.2.2.2.1 with }, h.2.2.2.2⟩
def Z8 : V8 := ⟨0, 0, 0, 0, 0, 0, 0, 0⟩
theorem bigE_is (e : Int) : bigE e = bits .xor .u32 (bits .xor .u32 (rotI e 6) (rotI e 11)) (rotI e 25) := rfl
theorem bigA_is (e : Int) : bigA e = bits .xor .u32 (bits .xor .u32 (rotI e 2) (rotI e 13)) (rotI e 22) := rfl

theorem BlkAt.start {w w2 w3 : World} {v z : V8} {l : List Int} (h1 : Blk w2 w.heap.size 41 v.cells) (h2 : Blk w2 (w.heap.size + 1) 41 z.cells) (hb : Below w.heap.size w w2) (h3 : Below w2.heap.size w2 w3) (ht : Tab w) :
    BlkAt w ((w3.alloc (.cells Z64 53)).setRow w3.heap.size (wcells l)) w3.heap.size v l := by
  have k1 := h1.below h3 h1.lt
  have k2 := h2.below h3 h2.lt
  have l1 : w.heap.size < w3.heap.size := k1.lt
  have l2 : w.heap.size + 1 < w3.heap.size := k2.lt
  have hB : Below w.heap.size w ((w3.alloc (.cells Z64 53)).setRow w3.heap.size (wcells l)) := below_setRow ((Below.step hb h3).alloc (by omega) _) (by omega) _
  refine ⟨(setRow_other _ _ _ _ (by omega)).trans (k1.alloc _), ⟨z, (setRow_other _ _ _ _ (by omega)).trans (k2.alloc _)⟩, setRow_heap _ _ _ _ _ _ (Blk.new w3 53 Z64), hB, ht.below hB⟩

theorem addV_comm (v s : V8) : addV v s = addV s v := by
  unfold addV
  simp only [Int.add_comm]
theorem Tryd.size41 (v : V8) : (Tryd.prog.info? 41).map (·.size) = some v.cells.size := by
  show _ = some 8
  kernel_rfl
theorem cells_one (v : V8) : v.cells.all (·.oneCell') = true := by simp [V8.cells, Value.oneCell']

def GivesV (v : V8) (w : World) (e : Ending) (w' : World) : Prop := e = .returned (.agg v.cells) ∧ Below w.heap.size w w'

set_option maxHeartbeats 500000 in
set_option maxRecDepth 100000 in
theorem after_any (v : V8) (hv : v.ok) (a : Option Addr) (ca : Nat) (zs : List Int) (w : World) (hr : Row w a 64 zs) (hca : 64 ≤ ca) (ht : Tab w) : Calls Tryd.prog 20 #[.agg v.cells, .slice a 64 ca] w (GivesV (blockV v zs) w) := by
  have HB := Lib.hid hr.2.1
  have F : Hid (blockV v zs = addV (roundsV v (wordsZ8 zs 64) 64) v) := rfl
  have LL := wordsZ8_len zs 64
  have LR := Lib.hid (words_range hr.2.1 64)
  have VO := Lib.hid hv
  have CX := Lib.hid (fun W (hb : Below w.heap.size w W) => expanded_any a ca zs W (hr.below hb) hca)
  have B2 : Hid (Below w.heap.size w ((w.alloc (.cells v.cells 41)).alloc (.cells Z8.cells 41))) := Lib.hid (((Below.refl _ _).alloc (Nat.le_refl _) _).alloc (by simp) _)
  have A2 : Hid (Blk ((w.alloc (.cells v.cells 41)).alloc (.cells Z8.cells 41)) w.heap.size 41 v.cells) := Lib.hid ((Blk.new w _ _).alloc _)
  have A3 : Hid (Blk ((w.alloc (.cells v.cells 41)).alloc (.cells Z8.cells 41)) (w.heap.size + 1) 41 Z8.cells) := by
    have := Blk.new (w.alloc (.cells v.cells 41)) 41 Z8.cells
    rw [show (w.alloc (.cells v.cells 41)).heap.size = w.heap.size + 1 by simp] at this
    exact Lib.hid this
  have TA := Lib.hid ht
  clear hr hv ht
  generalize wordsZ8 zs 64 = l at *
  simp only [V8.cells, Z8] at A2 A3 B2 ⊢
  go_enter Tryd.func20, Tryd.ntmps20
  go_wp2_with fail
  generalize (w.alloc (.cells #[.int .u32 v.a, .int .u32 v.b, .int .u32 v.c, .int .u32 v.d, .int .u32 v.e, .int .u32 v.f, .int .u32 v.g, .int .u32 v.h] 41)).alloc (.cells #[.int .u32 0, .int .u32 0, .int .u32 0, .int .u32 0, .int .u32 0, .int .u32 0, .int .u32 0, .int .u32 0] 41) = w2 at *
  refine (CX.out _ B2.out).mono ?_
  rintro e w3 ⟨rfl, hb3⟩
  have L64 : l.length ≤ 64 := by omega
  have K4 : Hid (BlkAt w ((w3.alloc (.cells Z64 53)).setRow w3.heap.size (wcells l)) w3.heap.size v l) := Lib.hid (BlkAt.start (z := Z8) A2.out A3.out B2.out hb3 TA.out)
  have N3 := Lib.hid (Blk.new w3 53 Z64)
  clear hb3 CX A2 A3 B2 TA
  go_wp2_with (first
    | (refine Great.wpList_allocTo rfl (some 5) rfl (.pointer (some ⟨w3.heap.size, 0, none⟩)) (.cells Z64 53) rfl ?_)
    | (refine wpList_store_rowTo rfl 53 (.tmp 5) (.tmp 20) rfl rfl w3.heap.size (wcells l) rfl rfl 53 Z64 N3.out (Tryd.size53 l L64) (by rw [wcells_size l L64]; rfl) (wcells_one l) ?_))
  clear N3
  generalize (w3.alloc (.cells Z64 53)).setRow w3.heap.size (wcells l) = w4 at *
  generalize w3.heap.size = B at *
  have c0 := K4.out.1.cell 0
  have c1 := K4.out.1.cell 1
  have c2 := K4.out.1.cell 2
  have c3 := K4.out.1.cell 3
  have c4 := K4.out.1.cell 4
  have c5 := K4.out.1.cell 5
  have c6 := K4.out.1.cell 6
  have c7 := K4.out.1.cell 7
  simp only [V8.cells] at c0 c1 c2 c3 c4 c5 c6 c7
  go_quiet (fail)
  have K5 := Lib.hid (K4.out.drewN nq)
  generalize w4.drewN nq = w5 at *
  clear c0 c1 c2 c3 c4 c5 c6 c7 K4
  go_wp2_with fail
  go_loopw [6, 7, 8, 9, 10, 11, 12, 13, 37] (fun sa sb sc sd se sf sg sh i wr => ∃ k : Nat, k ≤ 64 ∧ i = .int .i64 (k : Int) ∧ sa = .int .u32 (roundsV v l k).a ∧ sb = .int .u32 (roundsV v l k).b ∧ sc = .int .u32 (roundsV v l k).c ∧ sd = .int .u32 (roundsV v l k).d ∧ se = .int .u32 (roundsV v l k).e ∧ sf = .int .u32 (roundsV v l k).f ∧ sg = .int .u32 (roundsV v l k).g ∧ sh = .int .u32 (roundsV v l k).h ∧ BlkAt w wr B v l) (fun _ _ _ _ _ _ _ _ i _ => (65 - intOf i).toNat)
  case atStart => exact ⟨0, by omega, rfl, rfl, rfl, rfl, rfl, rfl, rfl, rfl, rfl, K5.out⟩
  case round =>
    obtain ⟨k, hk, rfl, rfl, rfl, rfl, rfl, rfl, rfl, rfl, rfl, hb⟩ := hrel
    have K6 := Lib.hid hb
    clear hb K5
    by_cases hk2 : k < 64
    · have t0 : decide ((k : Int) < 64) = true := by simp; omega
      have kI : (k : Int) < 64 := by omega
      have RO := Lib.hid (ok_rounds VO.out l k)
      have RN : Hid (roundsV v l (k + 1) = stepV (roundsV v l k) (CONSTS[k]?.getD 0) (l[k]?.getD 0)) := Lib.hid rfl
      obtain ⟨s1, hs1⟩ : ∃ s1, roundsV v l (k + 1) = s1 := ⟨_, rfl⟩
      rw [hs1] at RN
      have HS1 := Lib.hid hs1
      clear hs1
      generalize roundsV v l k = s at *
      have g0 := (K6.out.2.2.1.cell k).trans (wcells_get l k hk2)
      have g1 := K6.out.2.2.2.2.const k hk2
      generalize CONSTS[k]?.getD 0 = cc at *
      generalize l[k]?.getD 0 = ww at *
      have RO' := RO.out
      obtain ⟨ra, rb, rc, rd, re, rf, rg, rh⟩ := RO'
      unfold W32 at ra rb rc rd re rf rg rh
      clear RO
      obtain ⟨a1, b1, c1, d1, e1, f1, g1', h1⟩ := s
      simp only at ra rb rc rd re rf rg rh ⊢
      go_wp2_with fail
      go_quiet ((go_at_call 31; exact Calls.quiet_of_same (rotri_any _ _ _ (by unfold Turns; decide) (by decide) (by omega) (by omega))))
      go_wp2_with (go_at_call 31; refine (rotri_any _ _ _ (by unfold Turns; decide) (by decide) (by omega) (by omega)).mono ?_; rintro e w' ⟨rfl, rfl⟩)
      go_roundw
      case rel => exact ⟨k + 1, by omega, by first | rfl | go_num, by rw [HS1.out, RN.out]; rfl, by rw [HS1.out, RN.out]; rfl, by rw [HS1.out, RN.out]; rfl, by rw [HS1.out, RN.out]; rfl, by rw [HS1.out, RN.out]; rfl, by rw [HS1.out, RN.out]; rfl, by rw [HS1.out, RN.out]; rfl, by rw [HS1.out, RN.out]; rfl, K6.out.drewN _⟩
      case measure => simp only [intOf]; omega
    · obtain rfl : k = 64 := by omega
      have c0 := K6.out.1.cell 0
      have c1 := K6.out.1.cell 1
      have c2 := K6.out.1.cell 2
      have c3 := K6.out.1.cell 3
      have c4 := K6.out.1.cell 4
      have c5 := K6.out.1.cell 5
      have c6 := K6.out.1.cell 6
      have c7 := K6.out.1.cell 7
      simp only [V8.cells] at c0 c1 c2 c3 c4 c5 c6 c7
      generalize roundsV v l 64 = s at *
      rw [show ((64 : Nat) : Int) = 64 by rfl]
      clear hk2
      obtain ⟨z, kz⟩ := K6.out.2.1
      have KZ := Lib.hid kz
      have KW := Lib.hid K6.out.2.2.2.1
      clear kz K6
      have F2 : Hid (blockV v zs = addV v s) := by rw [F.out, addV_comm]; exact Lib.hid rfl
      clear F
      go_wp2_with (refine wpList_store_rowTo rfl 41 (.tmp 4) (.tmp 134) rfl rfl (w.heap.size + 1) (addV v s).cells rfl rfl 41 z.cells KZ.out (Tryd.size41 _) rfl (cells_one _) ?_)
      exact bodyPost_ret (results_cell_row rfl _ _ (w.heap.size + 1) 41 (addV v s).cells (0, 0) (.array 8 37) rfl (setRow_heap _ _ _ _ 41 _ KZ.out) Tryd.underlying41 rfl (Tryd.size41 _)) rfl ⟨by rw [F2.out], below_setRow KW.out (by omega) _⟩

end Go.Proofs.YtgldoppcillljaaDoor
