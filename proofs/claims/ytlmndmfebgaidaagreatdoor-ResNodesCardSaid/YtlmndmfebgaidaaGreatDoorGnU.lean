/-
  Merged texts: RqA, RqB.
-/
import Derived.Test.YtlmndmfebgaidaaGreatDoorGnQ
import Derived.Test.YtlmndmfebgaidaaGreatDoorGnR
import Derived.Test.YtlmndmfebgaidaaGreatDoorGnI
import Derived.Test.YtlmndmfebgaidaaGreatDoorGnS
import Derived.Test.YtlmndmfebgaidaaGreatDoorGnC
import Derived.Test.YtlmndmfebgaidaaGreatDoorGnH
namespace Go.Proofs.YtlmndmfebgaidaaGreatDoor
open Go.RowKit
set_option linter.unusedVariables false
set_option linter.unusedSimpArgs false
set_option maxRecDepth 100000
def partA (xs : List Int) (k : Nat) : List Int := xs.take k ++ List.replicate (16 - k) 0
theorem part_zero (xs : List Int) : partA xs 0 = List.replicate 16 0 := by unfold partA; simp
theorem part_step (xs : List Int) (k : Nat) (hk : k < xs.length) (h : k < 16) : (partA xs k).set k (xs[k]?.getD 0) = partA xs (k + 1) := by
  unfold partA
  have hl : (xs.take k).length = k := by rw [List.length_take]; omega
  rw [List.set_append_right _ _ (by omega), hl, Nat.sub_self, show 16 - k = (16 - (k + 1)) + 1 by omega, List.replicate_succ, List.set_cons_zero, List.take_succ_eq_append_getElem hk, List.getElem?_eq_getElem hk, Option.getD_some, List.append_assoc]
  rfl
theorem part_full (xs : List Int) (k : Nat) (h1 : k ≤ xs.length) (h2 : k ≤ 16) (h : xs.length ≤ k ∨ 16 ≤ k) : partA xs k = fullA xs := by
  unfold partA fullA
  rcases h with h | h
  · rw [List.take_of_length_le h, List.take_of_length_le (by omega), show k = xs.length by omega]
  · rw [show k = 16 by omega, show 16 - xs.length = 0 by omega]
theorem acellsR_one (A : List Int) : (acells A).toArray.all (·.oneCell') = true := by
  rw [Array.all_eq_true_iff_forall_mem]
  intro x hx
  obtain ⟨z, _, rfl⟩ := List.mem_map.1 (List.mem_toArray.1 hx)
  rfl
set_option maxHeartbeats 4000000 in
theorem raddr13_any (t : T) (x : Value) (w : World) (ht : t.In w x) (hl : t.body.length ≤ 1000000) : Calls Tryz.prog 35 #[x] w fun e w' => e = .returned (.agg (acells (fullA t.body)).toArray) ∧ Below w.heap.size w w' := by
  obtain ⟨A, n, c, K, m, d, rfl, _, rx, hn, _⟩ := ht.open
  change Calls _ _ #[.agg (nodeC t.tag (.slice A n c) (.slice K m d))] w _
  have ws1 : (w.alloc (.cells (nodeC t.tag (.slice A n c) (.slice K m d)) 29)).heap.size = w.heap.size + 1 := by simp
  have ws2 : ((w.alloc (.cells (nodeC t.tag (.slice A n c) (.slice K m d)) 29)).alloc (.cells (acells (List.replicate 16 0)).toArray 41)).heap.size = w.heap.size + 1 + 1 := by simp
  have K0 := Blk.alloc (Blk.alloc (Blk.new w 29 (nodeC t.tag (.slice A n c) (.slice K m d))) (.cells (acells (List.replicate 16 0)).toArray 41)) (.cells (acells (List.replicate 16 0)).toArray 41)
  have K1 := Blk.alloc (Blk.new (w.alloc (.cells (nodeC t.tag (.slice A n c) (.slice K m d)) 29)) 41 (acells (List.replicate 16 0)).toArray) (.cells (acells (List.replicate 16 0)).toArray 41)
  have K2' := Blk.new ((w.alloc (.cells (nodeC t.tag (.slice A n c) (.slice K m d)) 29)).alloc (.cells (acells (List.replicate 16 0)).toArray 41)) 41 (acells (List.replicate 16 0)).toArray
  rw [ws1] at K1
  rw [ws2] at K2'
  have bw := Below.step (Below.step (box_below w (.cells (nodeC t.tag (.slice A n c) (.slice K m d)) 29)) (box_below _ (.cells (acells (List.replicate 16 0)).toArray 41))) (box_below _ (.cells (acells (List.replicate 16 0)).toArray 41))
  have RX := Lib.hid rx
  have HL := Lib.hid rx.1
  have HB := Lib.hid rx.2.1
  have hn6 : n ≤ 1000000 := by rw [← rx.1]; exact hl
  have BW := Lib.hid bw
  have PF := Lib.hid (part_full t.body)
  have PS := Lib.hid (part_step t.body)
  have PZ := Lib.hid (part_zero t.body)
  clear ht rx hn bw hl
  generalize t.body = xs at *
  generalize hw2 : ((w.alloc (.cells (nodeC t.tag (.slice A n c) (.slice K m d)) 29)).alloc (.cells (acells (List.replicate 16 0)).toArray 41)).alloc (.cells (acells (List.replicate 16 0)).toArray 41) = w2 at *
  obtain ⟨g, hg⟩ : ∃ g, w.heap.size = g := ⟨_, rfl⟩
  have HG := Lib.hid hg
  rw [hg] at K0 K1 K2'
  have NB := Lib.hid K0
  have ZB := Lib.hid K1
  have AB := Lib.hid K2'
  rw [← PZ.out] at AB
  clear K0 K1 K2' ws1 ws2 PZ
  go_enter Tryz.func35, Tryz.ntmps35
  go_upto_region 2 with fail
  try change Code.wp _ _ _ _ (((w.alloc (.cells (nodeC t.tag (.slice A n c) (.slice K m d)) 29)).alloc (.cells (acells (List.replicate 16 0)).toArray 41)).alloc (.cells (acells (List.replicate 16 0)).toArray 41))
  try rw [hw2]
  clear hw2
  try simp only [hg]
  go_wp2_with fail
  try simp only [hg]
  go_loopw [4] (fun iV wr => ∃ k : Nat, iV = .int .i64 (k : Int) ∧ k ≤ n ∧ k ≤ 16 ∧ Blk wr (g + 1 + 1) 41 (acells (partA xs k)).toArray ∧ Blk wr g 29 (nodeC t.tag (.slice A n c) (.slice K m d)) ∧ Blk wr (g + 1) 41 (acells (List.replicate 16 0)).toArray ∧ Below w.heap.size w wr) (fun iV _ => ((16 : Int) - intOf iV).toNat)
  case atStart => exact ⟨0, rfl, Nat.zero_le _, Nat.zero_le _, AB.out, NB.out, ZB.out, BW.out⟩
  case round =>
    obtain ⟨k, rfl, hk, hk6, hab, hnb, hzb, hbw⟩ := hrel
    clear AB NB ZB BW
    have AB := Lib.hid hab
    have NB := Lib.hid hnb
    have ZB := Lib.hid hzb
    have BW := Lib.hid hbw
    have c1 : wr.cell? ⟨g, 1, none⟩ = some (.slice A n c) := Blk.cell hnb 1
    clear hab hnb hzb hbw
    have kI : IntKind.i64.wrap ((k : Int) + 1) = (k : Int) + 1 := IntWalk.i64_in _ (by omega)
    have lA : (acells (partA xs k)).length = 16 := by unfold acells partA; rw [List.length_map, List.length_append, List.length_take, List.length_replicate, HL.out]; omega
    by_cases hlt : k < n ∧ k < 16
    · obtain ⟨h1, h2⟩ := hlt
      have t0 : decide ((k : Int) < (n : Int)) = true := decide_eq_true (by omega)
      have t0' : decide (k < n) = true := decide_eq_true h1
      have t1 : decide ((k : Int) < 16) = true := decide_eq_true (by omega)
      have t1' : decide (k < 16) = true := decide_eq_true h2
      have i0 : (0 : Int) ≤ (k : Int) := by omega
      have i1 : (k : Int) < (n : Int) := by omega
      have i2 : (k : Int) < 16 := by omega
      obtain ⟨b, off, rfl, hlb, hc⟩ := (RX.out.below BW.out).2.2 (by omega)
      have cb := hc k h1
      obtain ⟨old, c3⟩ : ∃ old, wr.cell? ⟨g + 1 + 1, k, none⟩ = some old := ⟨_, (Blk.cell AB.out k).trans ((List.getElem?_toArray (xs := acells (partA xs k)) (i := k)).trans (List.getElem?_eq_getElem (by omega)))⟩
      have f3 := Blk.free AB.out k
      have SA : Hid (Blk (wr.setCell ⟨g + 1 + 1, k, none⟩ (.int .u8 (xs[k]?.getD 0))) (g + 1 + 1) 41 (acells (partA xs (k + 1))).toArray) := Lib.hid (by
        have := Blk.set AB.out k (.int .u8 (xs[k]?.getD 0))
        rw [acells_set, PS.out k (by rw [HL.out]; exact h1) h2] at this
        exact this)
      have SN := Lib.hid (show Blk (wr.setCell ⟨g + 1 + 1, k, none⟩ (.int .u8 (xs[k]?.getD 0))) g _ _ from (heap_setCell_other wr ⟨g + 1 + 1, k, none⟩ g (.int .u8 (xs[k]?.getD 0)) (by show g ≠ g + 1 + 1; omega)).trans NB.out)
      have SZ := Lib.hid (show Blk (wr.setCell ⟨g + 1 + 1, k, none⟩ (.int .u8 (xs[k]?.getD 0))) (g + 1) _ _ from (heap_setCell_other wr ⟨g + 1 + 1, k, none⟩ (g + 1) (.int .u8 (xs[k]?.getD 0)) (by show g + 1 ≠ g + 1 + 1; omega)).trans ZB.out)
      have SB := Lib.hid (Below.setCell BW.out (p := ⟨g + 1 + 1, k, none⟩) (by have := HG.out; show _ ≤ g + 1 + 1; omega) (.int .u8 (xs[k]?.getD 0)))
      clear hc AB NB ZB BW lA PS
      generalize xs[k]?.getD 0 = z at *
      go_wp2_with fail
      go_roundw
      case rel => exact ⟨k + 1, by go_num, by omega, by omega, SA.out, SN.out, SZ.out, SB.out⟩
      case measure => simp only [intOf]; omega
    · have e := PF.out k (by rw [HL.out]; exact hk) hk6 (by rw [HL.out]; omega)
      rw [e] at AB
      have F6 : Hid (Sixteen (fullA xs)) := Lib.hid (full_six HB.out)
      have SA : Hid ((Tryz.prog.info? 41).map (·.size) = some (acells (fullA xs)).toArray.size) := Lib.hid (by rw [List.size_toArray]; exact Tryz.sizeA F6.out.1)
      have SE : Hid ((acells (List.replicate 16 0)).toArray.size = (acells (fullA xs)).toArray.size) := Lib.hid (by rw [List.size_toArray, List.size_toArray, acells_len F6.out.1, acells_len (by simp)])
      have SO := Lib.hid (acellsR_one (fullA xs))
      clear e F6 PF PS
      by_cases h1 : k < n
      · have t0 : decide ((k : Int) < (n : Int)) = true := decide_eq_true (by omega)
        have t0' : decide (k < n) = true := decide_eq_true h1
        have t1 : decide ((k : Int) < 16) = false := decide_eq_false (by omega)
        have t1' : decide (k < 16) = false := decide_eq_false (by omega)
        go_wp2_with (first
          | (refine wpList_load_row rfl 41 (.tmp 3) rfl (g + 1 + 1) rfl 41 (acells (fullA xs)).toArray (0, 0) _ AB.out Tryz.underlying41 rfl SA.out ?_)
          | (refine wpList_store_rowTo rfl 41 (.tmp 2) (.tmp 23) rfl rfl (g + 1) (acells (fullA xs)).toArray rfl rfl 41 _ ZB.out SA.out SE.out SO.out ?_))
        exact bodyPost_ret (results_cell_row rfl _ _ (g + 1) 41 (acells (fullA xs)).toArray (0, 0) _ rfl (setRow_heap _ _ _ _ 41 _ ZB.out) Tryz.underlying41 rfl SA.out) rfl ⟨rfl, below_setRow BW.out (by have := HG.out; omega) _⟩
      · have t0 : decide ((k : Int) < (n : Int)) = false := decide_eq_false (by omega)
        have t0' : decide (k < n) = false := decide_eq_false h1
        go_wp2_with (first
          | (refine wpList_load_row rfl 41 (.tmp 3) rfl (g + 1 + 1) rfl 41 (acells (fullA xs)).toArray (0, 0) _ AB.out Tryz.underlying41 rfl SA.out ?_)
          | (refine wpList_store_rowTo rfl 41 (.tmp 2) (.tmp 23) rfl rfl (g + 1) (acells (fullA xs)).toArray rfl rfl 41 _ ZB.out SA.out SE.out SO.out ?_))
        exact bodyPost_ret (results_cell_row rfl _ _ (g + 1) 41 (acells (fullA xs)).toArray (0, 0) _ rfl (setRow_heap _ _ _ _ 41 _ ZB.out) Tryz.underlying41 rfl SA.out) rfl ⟨rfl, below_setRow BW.out (by have := HG.out; omega) _⟩
end Go.Proofs.YtlmndmfebgaidaaGreatDoor
namespace Go.Proofs.YtlmndmfebgaidaaGreatDoor
open Go.RowKit
set_option linter.unusedVariables false
set_option linter.unusedSimpArgs false
set_option maxRecDepth 100000
def RNode40 : Prop := ∀ (r : ResZ) (v : Value) (W : World), ResAt W v r → r.sp.length ≤ 40000 → r.ns.length ≤ 40000 → Calls Tryz.prog 12 #[v] W (HasNodeE (nodeR r) W)
theorem wpList_of_wp {P : Program} {ops : Array Oper} {rest : List Oper} {o : Oper} {a : Act} {w : World} {Q : Exit → Act → World → Prop} (hw : Region.wanted o (yielded ops a.tmps) = true) (h : o.wp P a w (wpList P ops Q rest) Q) : wpList P ops Q (o :: rest) a w := by
  rw [wpList, if_pos hw]
  exact .inl h
def OkTo (l : List T) (k : Nat) : Prop := ∀ i (h : 2 * i + 1 < l.length), i < k → rangeOk (l[2 * i]'(by omega)) (l[2 * i + 1]'h) = true
theorem ok_all {l : List T} {k : Nat} (h : OkTo l k) (hk : l.length ≤ 2 * k + 1) : (pairsOf rangeOk l).all id = true := by
  rw [List.all_eq_true]
  intro x hx
  obtain ⟨i, hi, rfl⟩ := List.mem_iff_getElem.1 hx
  rw [pairs_len] at hi
  have hl : 2 * i + 1 < l.length := by omega
  have e := pairs_at rangeOk l i hl
  obtain ⟨_, e⟩ := List.getElem?_eq_some_iff.1 e
  rw [e]
  exact h i hl (by omega)
theorem ok_step {l : List T} {k : Nat} (h : OkTo l k) (hk : 2 * k + 1 < l.length) (e : rangeOk (l[2 * k]'(by omega)) (l[2 * k + 1]'hk) = true) : OkTo l (k + 1) := by
  intro i hi hik
  by_cases hh : i = k
  · subst hh
    exact e
  · exact h i hi (by omega)
theorem ok_bad {l : List T} {k : Nat} (hk : 2 * k + 1 < l.length) (e : rangeOk (l[2 * k]'(by omega)) (l[2 * k + 1]'hk) = false) : rangesOf l = none := by
  unfold rangesOf
  rw [if_neg]
  intro h
  rw [List.all_eq_true] at h
  have := h _ (List.mem_of_getElem? (pairs_at rangeOk l k hk))
  rw [e] at this
  cases this
theorem read_none {t : T} (h3 : t.kids.length = 3) (h : rangesOf (kidT t 2) = none) : readR t = (zeroRes, 2) := by
  have e : takeR t = none := by unfold takeR; rw [if_pos h3, h]; rfl
  unfold readR
  rw [e]
theorem read_some {t : T} (h3 : t.kids.length = 3) (h : (pairsOf rangeOk (kidT t 2)).all id = true) : readR t = if (nodeR ⟨false, spansOf false (kidT t 0) ++ spansOf true (kidT t 1), pairsOf rangeOf (kidT t 2)⟩).2 = 0 ∧ sameT (nodeR ⟨false, spansOf false (kidT t 0) ++ spansOf true (kidT t 1), pairsOf rangeOf (kidT t 2)⟩).1 t = true then (⟨false, spansOf false (kidT t 0) ++ spansOf true (kidT t 1), pairsOf rangeOf (kidT t 2)⟩, 0) else (zeroRes, 2) := by
  have e : takeR t = some ⟨false, spansOf false (kidT t 0) ++ spansOf true (kidT t 1), pairsOf rangeOf (kidT t 2)⟩ := by unfold takeR rangesOf; rw [if_pos h3, if_pos h]; rfl
  unfold readR
  rw [e]
theorem read_inh {t : T} (h3 : ¬ t.kids.length = 3) : readR t = if (nodeR ⟨true, [], []⟩).2 = 0 ∧ sameT (nodeR ⟨true, [], []⟩).1 t = true then (⟨true, [], []⟩, 0) else (zeroRes, 2) := by
  have e : takeR t = some ⟨true, [], []⟩ := by unfold takeR; rw [if_neg h3]
  unfold readR
  rw [e]
set_option maxHeartbeats 16000000 in
theorem rread13_any (hN : RNode40) (t : T) (x : Value) (w : World) (ht : t.In w x) (hw : wt t < 30000) : Calls Tryz.prog 15 #[x] w (GivesRes (readR t) w) := by
  have ht0 := ht
  obtain ⟨A, n, c, K, m, d, rfl, _, _, _, _, hm, hm', _⟩ := ht.open
  change Calls _ _ #[.agg (nodeC t.tag (.slice A n c) (.slice K m d))] w _
  have ws1 : (w.alloc (.cells (nodeC t.tag (.slice A n c) (.slice K m d)) 29)).heap.size = w.heap.size + 1 := by simp
  have ws2 : ((w.alloc (.cells (nodeC t.tag (.slice A n c) (.slice K m d)) 29)).alloc (.cells #[.bool false, .slice none 0 0, .slice none 0 0] 25)).heap.size = w.heap.size + 1 + 1 := by simp
  have K0 := Blk.alloc (Blk.alloc (Blk.new w 29 (nodeC t.tag (.slice A n c) (.slice K m d))) (.cells #[.bool false, .slice none 0 0, .slice none 0 0] 25)) (.cells #[.bool false, .slice none 0 0, .slice none 0 0] 25)
  have K1 := Blk.alloc (Blk.new (w.alloc (.cells (nodeC t.tag (.slice A n c) (.slice K m d)) 29)) 25 #[.bool false, .slice none 0 0, .slice none 0 0]) (.cells #[.bool false, .slice none 0 0, .slice none 0 0] 25)
  have K2 := Blk.new ((w.alloc (.cells (nodeC t.tag (.slice A n c) (.slice K m d)) 29)).alloc (.cells #[.bool false, .slice none 0 0, .slice none 0 0] 25)) 25 #[.bool false, .slice none 0 0, .slice none 0 0]
  rw [ws1] at K1
  rw [ws2] at K2
  have bw := Below.step (Below.step (box_below w (.cells (nodeC t.tag (.slice A n c) (.slice K m d)) 29)) (box_below _ (.cells #[.bool false, .slice none 0 0, .slice none 0 0] 25))) (box_below _ (.cells #[.bool false, .slice none 0 0, .slice none 0 0] 25))
  have ws3 : (((w.alloc (.cells (nodeC t.tag (.slice A n c) (.slice K m d)) 29)).alloc (.cells #[.bool false, .slice none 0 0, .slice none 0 0] 25)).alloc (.cells #[.bool false, .slice none 0 0, .slice none 0 0] 25)).heap.size = w.heap.size + 1 + 1 + 1 := by simp
  have BW := Lib.hid bw
  have KI := Lib.hid (T.In.kidsIn ht0)
  have CN := Lib.hid hN
  have CE := Lib.hid (fun (q : T) W v (h : q.In W v) (hb : Below w.heap.size w W) => same_any q t v (.agg (nodeC t.tag (.slice A n c) (.slice K m d))) W h (T.In.below hb t ht0))
  have HM := Lib.hid hm
  have WT := Lib.hid hw
  have AZ := Lib.hid (ResAt.zero w)
  obtain ⟨rz, hrz⟩ : ∃ rz, readR t = rz := ⟨_, rfl⟩
  have RZ := Lib.hid hrz
  generalize hw3 : ((w.alloc (.cells (nodeC t.tag (.slice A n c) (.slice K m d)) 29)).alloc (.cells #[.bool false, .slice none 0 0, .slice none 0 0] 25)).alloc (.cells #[.bool false, .slice none 0 0, .slice none 0 0] 25) = w3 at *
  obtain ⟨g, hg⟩ : ∃ g, w.heap.size = g := ⟨_, rfl⟩
  have HG := Lib.hid hg
  rw [hg] at K0 K1 K2 ws2 ws3
  have NB := Lib.hid K0
  have ZB : Hid (Blk w3 (g + 1) 25 (resC false (.slice none 0 0) (.slice none 0 0))) := Lib.hid K1
  have RB : Hid (Blk w3 (g + 1 + 1) 25 (resC false (.slice none 0 0) (.slice none 0 0))) := Lib.hid K2
  obtain ⟨R, hR⟩ : ∃ R, g + 1 + 1 = R := ⟨_, rfl⟩
  rw [hR] at RB ws3 ws2
  have HR := Lib.hid hR
  have P0 : Hid (PSt w (R + 1) R w3 false (.slice none 0 0) (.slice none 0 0) [] []) := Lib.hid ⟨BW.out, by omega, by omega, by omega, RB.out, World.ownsRow_nil _ _ _ _, fun _ h => absurd h (by simp), World.ownsRow_nil _ _ _ _, fun _ h => absurd h (by simp), fun _ h => by cases h⟩
  unfold maxLen at hm'
  rw [hrz]
  clear K0 K1 K2 ws1 bw ht ht0 hm hw hrz RB
  go_enter Tryz.func15, Tryz.ntmps15
  go_upto_region 2 with fail
  try rw [hw3]
  clear hw3
  try simp only [hg, ws2, hR]
  clear ws2 ws3
  have x2 : w3.cell? ⟨g, 2, none⟩ = some (.slice K m d) := Blk.cell NB.out 2
  by_cases h3 : m = 3
  rotate_left
  · have t3 : ((m : Int) == 3) = false := by simp; omega
    have ER : Hid (rz = if (nodeR ⟨true, [], []⟩).2 = 0 ∧ sameT (nodeR ⟨true, [], []⟩).1 t = true then (⟨true, [], []⟩, 0) else (zeroRes, 2)) := Lib.hid (by rw [← RZ.out]; exact read_inh (by rw [HM.out]; exact h3))
    clear KI WT HM RZ
    have WRB : Hid (R + 1 ≤ w3.heap.size) := Lib.hid P0.out.hi
    go_upto_region 21 with (refine wpList_of_wp (by rfl) ?_; refine op_store_cell 4 (.tmp 102) (.const (.bool true)) rfl rfl R 0 (.bool true) rfl rfl P0.out.box (show 0 < 3 by decide) (by kernel_rfl) rfl rfl ?_)
    have B7 : Hid (Below w.heap.size w (w3.setCell ⟨R, 0, none⟩ (.bool true))) := Lib.hid (Below.setCell BW.out (p := ⟨R, 0, none⟩) (by have := HG.out; have := HR.out; show _ ≤ R; omega) _)
    have N7 : Hid (Blk (w3.setCell ⟨R, 0, none⟩ (.bool true)) g 29 (nodeC t.tag (.slice A n c) (.slice K m d))) := Lib.hid ((heap_setCell_other w3 ⟨R, 0, none⟩ g (.bool true) (by have := HR.out; show g ≠ R; omega)).trans NB.out)
    have Z7 : Hid (Blk (w3.setCell ⟨R, 0, none⟩ (.bool true)) (g + 1) 25 (resC false (.slice none 0 0) (.slice none 0 0))) := Lib.hid ((heap_setCell_other w3 ⟨R, 0, none⟩ (g + 1) (.bool true) (by have := HR.out; show g + 1 ≠ R; omega)).trans ZB.out)
    have P7 : Hid (PSt w (R + 1) R (w3.setCell ⟨R, 0, none⟩ (.bool true)) true (.slice none 0 0) (.slice none 0 0) [] []) := Lib.hid ⟨B7.out, P0.out.lo, P0.out.rb, (by have := WRB.out; simpa using this), Blk.set P0.out.box 0 (.bool true), World.ownsRow_nil _ _ _ _, fun _ h => absurd h (by simp), World.ownsRow_nil _ _ _ _, fun _ h => absurd h (by simp), fun _ h => by cases h⟩
    clear P0 NB ZB BW x2 WRB
    generalize w3.setCell ⟨R, 0, none⟩ (.bool true) = u7 at *
    have LL : Hid (([] : List SpanZ).length ≤ 40000 ∧ ([] : List (Nat × Nat)).length ≤ 40000) := Lib.hid ⟨Nat.zero_le _, Nat.zero_le _⟩
    obtain ⟨aS, cS, hS, hf1⟩ := P7.out.form1
    obtain ⟨aR, cR, hR2, hf2⟩ := P7.out.form2
    have F1 : Hid (SpFar (R + 1) u7 aS 0 cS (([] : List SpanZ))) := Lib.hid hf1
    have F2 : Hid (RgFar (R + 1) u7 aR 0 cR (([] : List (Nat × Nat)))) := Lib.hid hf2
    have AT : Hid (ResAt u7 (.agg (resC true (.slice aS 0 cS) (.slice aR 0 cR))) ⟨true, ([] : List SpanZ), ([] : List (Nat × Nat))⟩) := Lib.hid ⟨_, _, _, _, _, _, rfl, hf1.1, hf2.1⟩
    have CX := Lib.hid (CN.out ⟨true, ([] : List SpanZ), ([] : List (Nat × Nat))⟩ _ u7 AT.out LL.out.1 LL.out.2)
    have RB : Hid (Blk u7 R 25 (resC true (.slice aS 0 cS) (.slice aR 0 cR))) := Lib.hid (Eq.mp (congrArg (fun z => Blk u7 R 25 z) (congr (congrArg (resC true) hS) hR2)) P7.out.box)
    have HB : Hid (g + 1 < R + 1) := Lib.hid (by have := HR.out; omega)
    clear hf1 hf2 hS hR2 AT P7
    have EQ : Hid (∃ q, nodeR ⟨true, ([] : List SpanZ), ([] : List (Nat × Nat))⟩ = q) := Lib.hid ⟨_, rfl⟩
    obtain ⟨q0, hq0⟩ := EQ.out
    rw [hq0] at CX ER
    clear hq0 EQ
    obtain ⟨qt, qe⟩ := q0
    dsimp only at ER
    skip
    go_upto_region 22 with (first
      | (refine load_res_any (by rfl) (.tmp 4) rfl R rfl RB.out ?_)
      | (go_at_call 12
         refine CX.out.mono ?_
         rintro e w5 ⟨p5, m5, k5, o5, j5, d5, rfl, hin5, hb5⟩
         have I5 : Hid (qt.In w5 (.agg (nodeC qt.tag (.slice p5 m5 k5) (.slice o5 j5 d5)))) := Lib.hid hin5
         replace B7 := Lib.hid (Below.step B7.out hb5)
         replace F1 := Lib.hid (F1.out.over (Over.below hb5))
         replace F2 := Lib.hid (F2.out.over (Over.below hb5))
         replace N7 := Lib.hid (N7.out.below hb5 N7.out.lt)
         replace Z7 := Lib.hid (Z7.out.below hb5 Z7.out.lt)
         replace RB := Lib.hid (RB.out.below hb5 RB.out.lt)
         clear hin5 hb5 CX)
      | (with_reducible refine allocNode_at ?_)
      | ((with_reducible refine storeNode_new 14 106 w5 qt.tag p5 m5 k5 o5 j5 d5 ?_ ?_ ?_ ?_)
         (· rfl)
         (· rfl)
         (· rfl)
         have hb6 := boxR_below w5 (.cells (nodeC qt.tag (.slice p5 m5 k5) (.slice o5 j5 d5)) 29)
         have QB := Lib.hid (nodebox w5 qt.tag (.slice p5 m5 k5) (.slice o5 j5 d5))
         replace I5 := Lib.hid (T.In.below hb6 qt I5.out)
         replace B7 := Lib.hid (Below.step B7.out hb6)
         replace F1 := Lib.hid (F1.out.over (Over.below hb6))
         replace F2 := Lib.hid (F2.out.over (Over.below hb6))
         replace N7 := Lib.hid (N7.out.below hb6 N7.out.lt)
         replace Z7 := Lib.hid (Z7.out.below hb6 Z7.out.lt)
         replace RB := Lib.hid (RB.out.below hb6 RB.out.lt)
         clear hb6
         generalize w5.alloc (.cells (nodeC qt.tag (.slice p5 m5 k5) (.slice o5 j5 d5)) 29) = w6 at *
         generalize w5.heap.size = h6 at *))
    by_cases hqe : qe = 0
    rotate_left
    · have e : rz = (zeroRes, 2) := by rw [ER.out, if_neg (fun h => hqe h.1)]
      subst e
      have t1 : (qe != 0) = true := by simpa using hqe
      have t2 : (qe == 0) = false := by simpa using hqe
      clear ER CE hqe I5
      go_wp2_with ((with_reducible refine store_res_at 2 116 (g + 1) false none 0 0 none 0 0 false (.slice none 0 0) (.slice none 0 0) ?_ ?_ Z7.out ?_); (· rfl); (· rfl))
      exact GivesRes.row (p := 2) (u := 3) (er := 2) rfl rfl rfl rfl Z7.out AZ.out B7.out (by have := HG.out; omega)
    subst hqe
    have C7 := Lib.hid (CE.out qt _ _ I5.out B7.out)
    clear CE I5
    cases hsm : sameT qt t with
    | false =>
      rw [hsm] at C7
      have e : rz = (zeroRes, 2) := by rw [ER.out, if_neg (fun h => by rw [hsm] at h; cases h.2)]
      subst e
      clear ER hsm
      go_wp2_with (first
        | (refine load_node_any (by rfl) (.tmp 14) rfl h6 rfl QB.out ?_)
        | (refine load_node_any (by rfl) (.tmp 1) rfl g rfl N7.out ?_)
        | (go_at_call 13
           refine C7.out.mono ?_
           rintro e w7 ⟨rfl, hb7⟩
           replace B7 := Lib.hid (Below.step B7.out hb7)
           replace F1 := Lib.hid (F1.out.over (Over.below hb7))
           replace F2 := Lib.hid (F2.out.over (Over.below hb7))
           replace Z7 := Lib.hid (Z7.out.below hb7 Z7.out.lt)
           replace RB := Lib.hid (RB.out.below hb7 RB.out.lt)
           clear hb7 C7)
        | ((with_reducible refine store_res_at 2 116 (g + 1) false none 0 0 none 0 0 false (.slice none 0 0) (.slice none 0 0) ?_ ?_ Z7.out ?_); (· rfl); (· rfl)))
      exact GivesRes.row (p := 2) (u := 3) (er := 2) rfl rfl rfl rfl Z7.out AZ.out B7.out (by have := HG.out; omega)
    | true =>
      rw [hsm] at C7
      have e : rz = (⟨true, ([] : List SpanZ), ([] : List (Nat × Nat))⟩, 0) := by rw [ER.out, if_pos ⟨rfl, hsm⟩]
      subst e
      clear ER hsm
      go_wp2_with (first
        | (refine load_node_any (by rfl) (.tmp 14) rfl h6 rfl QB.out ?_)
        | (refine load_node_any (by rfl) (.tmp 1) rfl g rfl N7.out ?_)
        | (go_at_call 13
           refine C7.out.mono ?_
           rintro e w7 ⟨rfl, hb7⟩
           replace B7 := Lib.hid (Below.step B7.out hb7)
           replace F1 := Lib.hid (F1.out.over (Over.below hb7))
           replace F2 := Lib.hid (F2.out.over (Over.below hb7))
           replace Z7 := Lib.hid (Z7.out.below hb7 Z7.out.lt)
           replace RB := Lib.hid (RB.out.below hb7 RB.out.lt)
           clear hb7 C7)
        | (refine load_res_any (by rfl) (.tmp 4) rfl R rfl RB.out ?_)
        | ((with_reducible refine store_res_at 2 117 (g + 1) true aS 0 cS aR 0 cR false (.slice none 0 0) (.slice none 0 0) ?_ ?_ Z7.out ?_); (· rfl); (· rfl)))
      exact GivesRes.row2 (x := ((ResZ.mk true (([] : List SpanZ)) (([] : List (Nat × Nat)))), (0 : Int))) (p := 2) (u := 3) (er := 0) rfl rfl rfl rfl rfl Z7.out F1.out F2.out HB.out B7.out (by have := HG.out; omega)
  subst h3
  have t3 : (((3 : Nat) : Int) == 3) = true := by decide
  obtain ⟨p0, b, off, z0, A0, n0, c0, L0, m0, d0, hp0, hKe, hlb, hr0, hi0⟩ := KI.out.2 0 (by decide)
  obtain ⟨p1, b1, off1, z1, A1, n1, c1, L1, m1, d1, hp1, hKe1, hlb1, hr1, hi1⟩ := KI.out.2 1 (by decide)
  obtain ⟨p2, b2, off2, z2, A2, n2, c2, L2, m2, d2, hp2, hKe2, hlb2, hr2, hi2⟩ := KI.out.2 2 (by decide)
  rw [hKe] at hKe1 hKe2
  obtain ⟨rfl, rfl⟩ : b = b1 ∧ off = off1 := by simpa using hKe1
  obtain ⟨rfl, rfl⟩ : b = b2 ∧ off = off2 := by simpa using hKe2
  have k0 : kidT t 0 = p0.kids := by unfold kidT; rw [hp0]; rfl
  have k1 : kidT t 1 = p1.kids := by unfold kidT; rw [hp1]; rfl
  have k2 : kidT t 2 = p2.kids := by unfold kidT; rw [hp2]; rfl
  have LB : Hid (∀ p ∈ t.kids, ∀ q ∈ p.kids, q.body.length ≤ 1000000) := Lib.hid (fun p hp q hq => by have h1 := wt_kid hp; have h2 := wt_kid hq; have h3 := (wt_len q).2; have h4 := WT.out; omega)
  have LK : Hid (∀ p ∈ t.kids, p.kids.length ≤ 30000) := Lib.hid (fun p hp => by have h1 := wt_kid hp; have h2 := (wt_len p).1; have h4 := WT.out; omega)
  have B0 := Lib.hid (LB.out p0 (List.mem_of_getElem? hp0))
  have B1 := Lib.hid (LB.out p1 (List.mem_of_getElem? hp1))
  have B2 := Lib.hid (LB.out p2 (List.mem_of_getElem? hp2))
  have I0 := Lib.hid (T.In.kidsIn hi0)
  have I1 := Lib.hid (T.In.kidsIn hi1)
  have I2 := Lib.hid (T.In.kidsIn hi2)
  have l0 : m0 ≤ 30000 := by rw [← I0.out.1]; exact LK.out p0 (List.mem_of_getElem? hp0)
  have l1 : m1 ≤ 30000 := by rw [← I1.out.1]; exact LK.out p1 (List.mem_of_getElem? hp1)
  have l2 : m2 ≤ 30000 := by rw [← I2.out.1]; exact LK.out p2 (List.mem_of_getElem? hp2)
  have y0 : (spansOf false p0.kids).length = m0 / 2 := by unfold spansOf; rw [pairs_len, I0.out.1]
  have y1 : (spansOf true p1.kids).length = m1 / 2 := by unfold spansOf; rw [pairs_len, I1.out.1]
  have y2 : (pairsOf rangeOf p2.kids).length = m2 / 2 := by rw [pairs_len, I2.out.1]
  have EB : Hid (∀ k (hk : 2 * k + 1 < p2.kids.length), rangeOk (p2.kids[2 * k]'(by omega)) (p2.kids[2 * k + 1]'hk) = false → rz = (zeroRes, 2)) := Lib.hid (fun k hk h => by rw [← RZ.out]; exact read_none HM.out (by rw [k2]; exact ok_bad hk h))
  have EG : Hid ((pairsOf rangeOk p2.kids).all id = true → rz = if (nodeR ⟨false, spansOf false p0.kids ++ spansOf true p1.kids, pairsOf rangeOf p2.kids⟩).2 = 0 ∧ sameT (nodeR ⟨false, spansOf false p0.kids ++ spansOf true p1.kids, pairsOf rangeOf p2.kids⟩).1 t = true then (⟨false, spansOf false p0.kids ++ spansOf true p1.kids, pairsOf rangeOf p2.kids⟩, 0) else (zeroRes, 2)) := Lib.hid (fun h => by
    have e := read_some HM.out (by rw [k2]; exact h)
    rw [k0, k1, k2] at e
    rw [← RZ.out]
    exact e)
  have PN0 := Lib.hid (fun j (hj : 2 * j + 1 < p0.kids.length) => pairs_next (spanOf false) p0.kids j hj [])
  have PN1 := Lib.hid (fun j (hj : 2 * j + 1 < p1.kids.length) => pairs_next (spanOf true) p1.kids j hj (spansOf false p0.kids))
  have PN2 := Lib.hid (fun j (hj : 2 * j + 1 < p2.kids.length) => pairs_next rangeOf p2.kids j hj [])
  change Hid (∀ j (hj : 2 * j + 1 < p0.kids.length), [] ++ (spansOf false p0.kids).take (j + 1) = _) at PN0
  change Hid (∀ j (hj : 2 * j + 1 < p1.kids.length), spansOf false p0.kids ++ (spansOf true p1.kids).take (j + 1) = _) at PN1
  change Hid (∀ j (hj : 2 * j + 1 < p0.kids.length), [] ++ (spansOf false p0.kids).take (j + 1) = ([] ++ (spansOf false p0.kids).take j) ++ [spanOf false (p0.kids[2 * j]'(by omega)) (p0.kids[2 * j + 1]'hj)]) at PN0
  change Hid (∀ j (hj : 2 * j + 1 < p1.kids.length), spansOf false p0.kids ++ (spansOf true p1.kids).take (j + 1) = (spansOf false p0.kids ++ (spansOf true p1.kids).take j) ++ [spanOf true (p1.kids[2 * j]'(by omega)) (p1.kids[2 * j + 1]'hj)]) at PN1
  have PF0 : Hid (∀ j, m0 ≤ 2 * j + 1 → [] ++ (spansOf false p0.kids).take j = spansOf false p0.kids) := Lib.hid (fun j hj => by rw [List.nil_append]; exact List.take_of_length_le (by omega))
  have PF1 : Hid (∀ j, m1 ≤ 2 * j + 1 → spansOf false p0.kids ++ (spansOf true p1.kids).take j = spansOf false p0.kids ++ spansOf true p1.kids) := Lib.hid (fun j hj => by rw [List.take_of_length_le (by omega)])
  have PF2 : Hid (∀ j, m2 ≤ 2 * j + 1 → (pairsOf rangeOf p2.kids).take j = pairsOf rangeOf p2.kids) := Lib.hid (fun j hj => List.take_of_length_le (by omega))
  have PK0 : Hid (∀ j, ([] ++ (spansOf false p0.kids).take j).length + 1 ≤ 100000) := Lib.hid (fun j => by rw [List.nil_append, List.length_take]; omega)
  have PK1 : Hid (∀ j, (spansOf false p0.kids ++ (spansOf true p1.kids).take j).length + 1 ≤ 100000) := Lib.hid (fun j => by rw [List.length_append, List.length_take]; omega)
  have PK2 : Hid (∀ j, ((pairsOf rangeOf p2.kids).take j).length + 1 ≤ 100000) := Lib.hid (fun j => by rw [List.length_take]; omega)
  have LL : Hid ((spansOf false p0.kids ++ spansOf true p1.kids).length ≤ 40000 ∧ (pairsOf rangeOf p2.kids).length ≤ 40000) := Lib.hid ⟨by rw [List.length_append]; omega, by omega⟩
  have G0 := Lib.hid (fun W (hb : Below w.heap.size w W) => range_below hr0 hb hlb)
  have G1 := Lib.hid (fun W (hb : Below w.heap.size w W) => range_below hr1 hb hlb)
  have G2 := Lib.hid (fun W (hb : Below w.heap.size w W) => range_below hr2 hb hlb)
  subst hKe
  clear KI WT HM RZ hp0 hp1 hp2 hKe1 hKe2 hlb hlb1 hlb2 hr0 hr1 hr2 hi0 hi1 hi2 k0 k1 k2 LB LK y0 y1 y2
  generalize spansOf false p0.kids = Y0 at *
  generalize spansOf true p1.kids = Y1 at *
  generalize pairsOf rangeOf p2.kids = Y2 at *
  go_wp2_with fail
  clear x2 BW
  go_loopg [5] 2 (fun gk iV wr => ∃ (k : Nat) (V : Value), iV = .int .i64 (k : Int) ∧ k + gk = 2 ∧ PSt w (R + 1) R wr false V (.slice none 0 0) (if k = 0 then [] else if k = 1 then Y0 else Y0 ++ Y1) [] ∧ Blk wr g 29 (nodeC t.tag (.slice A n c) (.slice (some ⟨b, off, none⟩) 3 d)) ∧ Blk wr (g + 1) 25 (resC false (.slice none 0 0) (.slice none 0 0)))
  case atStart => exact ⟨0, _, rfl, rfl, P0.out, NB.out, ZB.out⟩
  case round =>
    obtain ⟨k, V, rfl, hk, hp, hnb, hzb⟩ := hrel
    clear P0 NB ZB
    have P0 := Lib.hid hp
    have NB := Lib.hid hnb
    have ZB := Lib.hid hzb
    clear hp hnb hzb
    rcases k with _ | _ | _ | k
    · obtain ⟨gg, rfl⟩ : ∃ gg, gk = gg + 1 := ⟨gk - 1, by omega⟩
      have t0 : decide (((0 : Nat) : Int) < 2) = true := by decide
      have kI : IntKind.i64.wrap (((0 : Nat) : Int) + 1) = ((0 : Nat) : Int) + 1 := by decide
      have x2 : wr.cell? ⟨g, 2, none⟩ = some (.slice (some ⟨b, off, none⟩) 3 d) := Blk.cell NB.out 2
      have y2 : wr.cell? ⟨b, off + 0 * 3 + 2, none⟩ = some (.slice L0 m0 d0) := G0.out wr P0.out.bel 2 _ rfl
      replace P0 : Hid (PSt w (R + 1) R wr false V (.slice none 0 0) [] []) := Lib.hid P0.out
      have P1 : Hid ([] ++ Y0.take 0 = []) := Lib.hid (by simp)
      go_wp2_with fail
      clear x2 y2
      go_loopg [7] 30002 (fun fk jV wx => ∃ (j q : Nat) (V' : Value), jV = .int .i64 (q : Int) ∧ q = 2 * j ∧ j + fk = 30002 ∧ 2 * j ≤ m0 + 1 ∧ PSt w (R + 1) R wx false V' (.slice none 0 0) ([] ++ Y0.take j) [] ∧ Blk wx g 29 (nodeC t.tag (.slice A n c) (.slice (some ⟨b, off, none⟩) 3 d)) ∧ Blk wx (g + 1) 25 (resC false (.slice none 0 0) (.slice none 0 0)))
      case atStart => exact ⟨0, 0, V, rfl, rfl, rfl, Nat.zero_le _, by rw [P1.out]; exact P0.out, NB.out, ZB.out⟩
      case round =>
        obtain ⟨j, q, V', rfl, hq, hj, hjm, hp, hnb, hzb⟩ := hrel
        clear P0 NB ZB P1
        have P0 := Lib.hid hp
        have NB := Lib.hid hnb
        have ZB := Lib.hid hzb
        have HQ := Lib.hid hq
        have HJ := Lib.hid hj
        have HJM := Lib.hid hjm
        clear hp hnb hzb
        obtain ⟨q1, hq1⟩ : ∃ q1, q1 = q + 1 := ⟨_, rfl⟩
        have kS : IntKind.i64.wrap ((q : Int) + 1) = (q1 : Int) := by rw [IntWalk.i64_in _ (by omega)]; omega
        have kA : IntKind.i64.wrap ((q : Int) + 2) = ((q + 2 : Nat) : Int) := by rw [IntWalk.i64_in _ (by omega)]; omega
        by_cases hlt : q1 < m0
        · have t1 : decide ((q1 : Int) < (m0 : Int)) = true := decide_eq_true (by omega)
          have t1' : decide (q1 < m0) = true := decide_eq_true hlt
          obtain ⟨f, hf⟩ : ∃ f, gk = f + 1 := ⟨gk - 1, by omega⟩
          subst hf
          have i0 : (0 : Int) ≤ (q : Int) := by omega
          have i1 : (q : Int) < (m0 : Int) := by omega
          have i2 : (0 : Int) ≤ (q1 : Int) := by omega
          have i3 : (q1 : Int) < (m0 : Int) := by omega
          have kl : 2 * j + 1 < p0.kids.length := by rw [I0.out.1]; omega
          obtain ⟨pA, bb, ob, zA, AA, nA, cA, KA, mA, dA, hpA, hKA, hlA, hrA, hiA⟩ := I0.out.2 q (by omega)
          obtain ⟨pB, bb2, ob2, zB, AB, nB, cB, KB, mB, dB, hpB, hKB, hlB, hrB, hiB⟩ := I0.out.2 q1 hlt
          rw [hKA] at hKB
          obtain ⟨rfl, rfl⟩ : bb = bb2 ∧ ob = ob2 := by simpa using hKB
          have eA : p0.kids[2 * j]'(by omega) = pA := by
            have h1 := hpA
            rw [show q = 2 * j from hq, List.getElem?_eq_getElem (by omega)] at h1
            exact Option.some.inj h1
          have eB : p0.kids[2 * j + 1]'kl = pB := by
            have h1 := hpB
            rw [show q1 = 2 * j + 1 by omega, List.getElem?_eq_getElem kl] at h1
            exact Option.some.inj h1
          have PM := PN0.out j kl
          rw [eA, eB] at PM
          have PE := Lib.hid PM
          have SA : Hid (Sixteen (fullA pA.body)) := Lib.hid (full_six (by obtain ⟨A1, n1, c1, K1, m1, d1, e, _, rx, _⟩ := hiA.open; exact rx.2.1))
          have SB : Hid (Sixteen (fullA pB.body)) := Lib.hid (full_six (by obtain ⟨A1, n1, c1, K1, m1, d1, e, _, rx, _⟩ := hiB.open; exact rx.2.1))
          have OK : Hid (SixS (spanOf false pA pB)) := Lib.hid ⟨SA.out, SB.out⟩
          have BS := Lib.hid (built_span false (fullA pA.body) (fullA pB.body) SA.out.1 SB.out.1)
          have CA := Lib.hid (fun W (hb : Below w.heap.size w W) => raddr13_any pA _ W (T.In.below hb pA hiA) (B0.out pA (List.mem_of_getElem? hpA)))
          have CB := Lib.hid (fun W (hb : Below w.heap.size w W) => raddr13_any pB _ W (T.In.below hb pB hiB) (B0.out pB (List.mem_of_getElem? hpB)))
          have GA := Lib.hid (fun W (hb : Below w.heap.size w W) => range_below hrA hb hlA)
          have GB := Lib.hid (fun W (hb : Below w.heap.size w W) => range_below hrB hb hlA)
          have HL := Lib.hid hlA
          have RL : Hid (w.heap.size ≤ R ∧ R < wr.heap.size) := Lib.hid ⟨P0.out.lo, P0.out.box.lt⟩
          subst hKA
          change Hid (Tryz.prog.built _ _ = some (scells (spanOf false pA pB))) at BS
          clear PM eA eB hpA hpB hKB kl hlA hlB hrA hrB hiA hiB SA SB
          generalize hs5 : spanOf false pA pB = s5 at *
          clear hs5
          generalize fullA pA.body = FA at *
          generalize fullA pB.body = FB at *
          have HQ1 := Lib.hid hq1
          have HLT := Lib.hid hlt
          clear hq hq1 hj hjm hlt
          go_upto_region 10 with fail
          refine wp_region_plan (StillV R V') (StillV.refl _ _) StillV.trans (.take 0 (.take 2 (.take 3 (.take 4 (.take 5 (.take 6 (.take 7 (.take 9 (.take 10 (.take 11 (.take 12 (.take 13 (.fork 1 (.sole 8 (.sole 14 (.take 15 (.sole 16 (.sole 17 (.take 18 (.sole 19 .fin))))))) 8 (.fork 1 (.sole 14 (.take 15 (.sole 16 (.sole 17 (.take 18 (.sole 19 .fin)))))) 14 (.take 15 (.fork 1 (.sole 16 (.sole 17 (.take 18 (.sole 19 .fin)))) 16 (.sole 1 (.sole 17 (.take 18 (.sole 19 .fin)))))))))))))))))))) (by kernel_rfl) (by kernel_rfl) rfl (by kernel_rfl) (fun _ _ _ _ _ h => h) ?_
          change wpPlan _ _ _ _ _ _ (wr.drewN 1)
          have D1 := drewN_below wr 1
          replace P0 := Lib.hid (P0.out.below D1)
          replace NB := Lib.hid (NB.out.below D1 NB.out.lt)
          replace ZB := Lib.hid (ZB.out.below D1 ZB.out.lt)
          replace RL : Hid (w.heap.size ≤ R ∧ R < (wr.drewN 1).heap.size) := Lib.hid ⟨P0.out.lo, P0.out.box.lt⟩
          clear D1
          generalize wr.drewN 1 = w3 at *
          have SV := Lib.hid (StillV.refl R V' w3)
          have BW := Lib.hid P0.out.bel
          have EN : Hid (∀ W, StillV R V' w3 W → Blk W g 29 (nodeC t.tag (.slice A n c) (.slice (some ⟨b, off, none⟩) 3 d)) ∧ Blk W (g + 1) 25 (resC false (.slice none 0 0) (.slice none 0 0))) := Lib.hid (fun W hW => ⟨(hW.2 g NB.out.lt (by have := HR.out; omega) (fun e => by have := (P0.out.lt1 e).1; have := HR.out; omega)).trans NB.out, (hW.2 (g + 1) ZB.out.lt (by have := HR.out; omega) (fun e => by have := (P0.out.lt1 e).1; have := HR.out; omega)).trans ZB.out⟩)
          have E0 : Hid (∀ W, StillV R V' w3 W → W.heap[bb]? = w3.heap[bb]?) := Lib.hid (fun W hW => hW.2 bb (by have := HL.out; have := RL.out; omega) (by have := HL.out; have := RL.out; omega) (fun e => by have := (P0.out.lt1 e).1; have := HL.out; have := RL.out; omega))
          have EA := Lib.hid (fun W (hW : StillV R V' w3 W) => range_heap (GA.out w3 BW.out) (E0.out W hW))
          have EBB := Lib.hid (fun W (hW : StillV R V' w3 W) => range_heap (GB.out w3 BW.out) (E0.out W hW))
          have LE := Lib.hid (PK0.out j)
          clear E0 GA GB
          repeat' (first
            | (refine plan_take _ rfl (by rfl) (fun W hW => yields_nodeM (.tmp 43) rfl bb (ob + q * 3) zA AA nA cA KA mA dA rfl (EA.out W hW)) ?_; simp only [Act.put, List.setIfInBounds_toArray, List.set_cons_zero, List.set_cons_succ])
            | (refine plan_take _ rfl (by rfl) (fun W hW => yields_nodeM (.tmp 49) rfl bb (ob + q1 * 3) zB AB nB cB KB mB dB rfl (EBB.out W hW)) ?_; simp only [Act.put, List.setIfInBounds_toArray, List.set_cons_zero, List.set_cons_succ])
            | (refine plan_take _ rfl (by rfl) (fun W hW => yields_build 62 _ rfl _ _ BS.out (by kernel_rfl)) ?_; simp only [Act.put, List.setIfInBounds_toArray, List.set_cons_zero, List.set_cons_succ])
            | (refine plan_take _ rfl (by rfl) (fun W hW => by go_simp; first | done | rfl) ?_; simp only [Act.put, List.setIfInBounds_toArray, List.set_cons_zero, List.set_cons_succ])
            | (refine plan_fork ?_ ?_)
            | ((first | refine plan_sole (sole_take rfl (by rfl) (fun K1 hK1 => ?_)) | refine sole_take rfl (by rfl) (fun K1 hK1 => ?_))
               refine op_of_run _ _ (yields_spans (.tmp 37) rfl R 1 V' rfl (Blk.cell P0.out.box 1)) ?_
               refine hK1 _ _ (StillV.refl _ _ _) ?_
               clear hK1 K1
               try simp only [Act.put, List.setIfInBounds_toArray, List.set_cons_zero, List.set_cons_succ])
            | ((first | refine plan_sole (sole_take rfl (by rfl) (fun K1 hK1 => ?_)) | refine sole_take rfl (by rfl) (fun K1 hK1 => ?_))
               refine op_sp_build1 s5 OK.out _ rfl (by first | rfl | kernel_rfl) ?_
               intro H w5 hr5 hb5 _ _
               refine hK1 _ _ (StillV.below hb5) ?_
               have R5 := Lib.hid hr5
               replace BW := Lib.hid (Below.step BW.out hb5)
               replace P0 := Lib.hid (P0.out.below hb5)
               replace SV := Lib.hid (StillV.trans _ _ _ SV.out (StillV.below hb5))
               clear hK1 K1 hr5 hb5
               try simp only [Act.put, List.setIfInBounds_toArray, List.set_cons_zero, List.set_cons_succ])
            | ((first | refine plan_sole (sole_take rfl (by rfl) (fun K1 hK1 => ?_)) | refine sole_take rfl (by rfl) (fun K1 hK1 => ?_))
               refine op_app_span P0.out (.tmp 38) (.tmp 53) s5 OK.out H R5.out rfl rfl rfl LE.out ?_
               intro V6 w6 ha6
               have sv6 : StillV R V' w5 w6 := ⟨ha6.below, fun c hc _ hne => ha6.2.2.1 c hc hne⟩
               refine hK1 _ _ sv6 ?_
               have A6 := Lib.hid ha6
               replace SV := Lib.hid (StillV.trans _ _ _ SV.out sv6)
               have X6 := Lib.hid (P0.out.box.below ha6.2.1 P0.out.rb)
               clear hK1 K1 sv6 ha6
               try simp only [Act.put, List.setIfInBounds_toArray, List.set_cons_zero, List.set_cons_succ])
            | ((first | refine plan_sole (sole_take rfl (by rfl) (fun K1 hK1 => ?_)) | refine sole_take rfl (by rfl) (fun K1 hK1 => ?_))
               obtain ⟨a6, c6, hV6⟩ := own_form A6.out.1
               refine op_store_cell 22 (.tmp 55) (.tmp 54) rfl rfl R 1 V6 rfl rfl X6.out (show 1 < 3 by decide) (by kernel_rfl) (by rw [hV6]; rfl) (by rw [hV6]; rfl) ?_
               refine hK1 _ _ (StillV.cellS _ _ _ _ _) ?_
               have P7 := Lib.hid (P0.out.set1 (fun x hx => (List.mem_append.1 hx).elim (fun hx => P0.out.s6 x hx) (fun hx => by rw [List.mem_singleton.1 hx]; exact OK.out)) A6.out)
               replace SV := Lib.hid (StillV.trans _ _ _ SV.out (StillV.cellS R 1 V' w6 V6))
               clear hK1 K1 hV6 P0 A6 X6
               generalize w6.setCell ⟨R, 1, none⟩ V6 = w7 at *
               try simp only [Act.put, List.setIfInBounds_toArray, List.set_cons_zero, List.set_cons_succ])
            | ((first | refine plan_sole (sole_take rfl (by rfl) (fun K1 hK1 => ?_)) | refine sole_take rfl (by rfl) (fun K1 hK1 => ?_))
               go_simp
               refine (CA.out _ BW.out).mono ?_
               rintro e w4 ⟨rfl, hb4⟩
               refine hK1 _ _ (StillV.below hb4) ?_
               replace BW := Lib.hid (Below.step BW.out hb4)
               replace P0 := Lib.hid (P0.out.below hb4)
               replace SV := Lib.hid (StillV.trans _ _ _ SV.out (StillV.below hb4))
               clear hK1 K1 hb4 CA
               try simp only [Act.put, List.setIfInBounds_toArray, List.set_cons_zero, List.set_cons_succ])
            | ((first | refine plan_sole (sole_take rfl (by rfl) (fun K1 hK1 => ?_)) | refine sole_take rfl (by rfl) (fun K1 hK1 => ?_))
               go_simp
               refine (CB.out _ BW.out).mono ?_
               rintro e w4 ⟨rfl, hb4⟩
               refine hK1 _ _ (StillV.below hb4) ?_
               replace BW := Lib.hid (Below.step BW.out hb4)
               replace P0 := Lib.hid (P0.out.below hb4)
               replace SV := Lib.hid (StillV.trans _ _ _ SV.out (StillV.below hb4))
               clear hK1 K1 hb4 CB
               try simp only [Act.put, List.setIfInBounds_toArray, List.set_cons_zero, List.set_cons_succ])
            | refine plan_end ?_)
          all_goals (
            go_wp2_with fail
            rw [← PE.out] at P7
            go_roundg f
            case measure => omega
            case rel => exact ⟨j + 1, q + 2, V6, by go_num, by have := HQ.out; omega, by have := HJ.out; omega, by have := HQ.out; have := HQ1.out; have := HLT.out; omega, P7.out, (EN.out _ SV.out).1, (EN.out _ SV.out).2⟩)
        · have t1 : decide ((q1 : Int) < (m0 : Int)) = false := decide_eq_false (by omega)
          have t1' : decide (q1 < m0) = false := decide_eq_false hlt
          have EY := PF0.out j (by omega)
          rw [EY] at P0
          clear EY hq hq1 hj hjm hlt
          go_wp2_with fail
          go_roundg gg
          case measure => omega
          case rel => exact ⟨1, V', by go_num, by omega, P0.out, NB.out, ZB.out⟩
    · obtain ⟨gg, rfl⟩ : ∃ gg, gk = gg + 1 := ⟨gk - 1, by omega⟩
      have t0 : decide (((1 : Nat) : Int) < 2) = true := by decide
      have kI : IntKind.i64.wrap (((1 : Nat) : Int) + 1) = ((1 : Nat) : Int) + 1 := by decide
      have x2 : wr.cell? ⟨g, 2, none⟩ = some (.slice (some ⟨b, off, none⟩) 3 d) := Blk.cell NB.out 2
      have y2 : wr.cell? ⟨b, off + 1 * 3 + 2, none⟩ = some (.slice L1 m1 d1) := G1.out wr P0.out.bel 2 _ rfl
      replace P0 : Hid (PSt w (R + 1) R wr false V (.slice none 0 0) Y0 []) := Lib.hid P0.out
      have P1 : Hid (Y0 ++ Y1.take 0 = Y0) := Lib.hid (by simp)
      go_wp2_with fail
      clear x2 y2
      go_loopg [7] 30002 (fun fk jV wx => ∃ (j q : Nat) (V' : Value), jV = .int .i64 (q : Int) ∧ q = 2 * j ∧ j + fk = 30002 ∧ 2 * j ≤ m1 + 1 ∧ PSt w (R + 1) R wx false V' (.slice none 0 0) (Y0 ++ Y1.take j) [] ∧ Blk wx g 29 (nodeC t.tag (.slice A n c) (.slice (some ⟨b, off, none⟩) 3 d)) ∧ Blk wx (g + 1) 25 (resC false (.slice none 0 0) (.slice none 0 0)))
      case atStart => exact ⟨0, 0, V, rfl, rfl, rfl, Nat.zero_le _, by rw [P1.out]; exact P0.out, NB.out, ZB.out⟩
      case round =>
        obtain ⟨j, q, V', rfl, hq, hj, hjm, hp, hnb, hzb⟩ := hrel
        clear P0 NB ZB P1
        have P0 := Lib.hid hp
        have NB := Lib.hid hnb
        have ZB := Lib.hid hzb
        have HQ := Lib.hid hq
        have HJ := Lib.hid hj
        have HJM := Lib.hid hjm
        clear hp hnb hzb
        obtain ⟨q1, hq1⟩ : ∃ q1, q1 = q + 1 := ⟨_, rfl⟩
        have kS : IntKind.i64.wrap ((q : Int) + 1) = (q1 : Int) := by rw [IntWalk.i64_in _ (by omega)]; omega
        have kA : IntKind.i64.wrap ((q : Int) + 2) = ((q + 2 : Nat) : Int) := by rw [IntWalk.i64_in _ (by omega)]; omega
        by_cases hlt : q1 < m1
        · have t1 : decide ((q1 : Int) < (m1 : Int)) = true := decide_eq_true (by omega)
          have t1' : decide (q1 < m1) = true := decide_eq_true hlt
          obtain ⟨f, hf⟩ : ∃ f, gk = f + 1 := ⟨gk - 1, by omega⟩
          subst hf
          have i0 : (0 : Int) ≤ (q : Int) := by omega
          have i1 : (q : Int) < (m1 : Int) := by omega
          have i2 : (0 : Int) ≤ (q1 : Int) := by omega
          have i3 : (q1 : Int) < (m1 : Int) := by omega
          have kl : 2 * j + 1 < p1.kids.length := by rw [I1.out.1]; omega
          obtain ⟨pA, bb, ob, zA, AA, nA, cA, KA, mA, dA, hpA, hKA, hlA, hrA, hiA⟩ := I1.out.2 q (by omega)
          obtain ⟨pB, bb2, ob2, zB, AB, nB, cB, KB, mB, dB, hpB, hKB, hlB, hrB, hiB⟩ := I1.out.2 q1 hlt
          rw [hKA] at hKB
          obtain ⟨rfl, rfl⟩ : bb = bb2 ∧ ob = ob2 := by simpa using hKB
          have eA : p1.kids[2 * j]'(by omega) = pA := by
            have h1 := hpA
            rw [show q = 2 * j from hq, List.getElem?_eq_getElem (by omega)] at h1
            exact Option.some.inj h1
          have eB : p1.kids[2 * j + 1]'kl = pB := by
            have h1 := hpB
            rw [show q1 = 2 * j + 1 by omega, List.getElem?_eq_getElem kl] at h1
            exact Option.some.inj h1
          have PM := PN1.out j kl
          rw [eA, eB] at PM
          have PE := Lib.hid PM
          have SA : Hid (Sixteen (fullA pA.body)) := Lib.hid (full_six (by obtain ⟨A1, n1, c1, K1, m1, d1, e, _, rx, _⟩ := hiA.open; exact rx.2.1))
          have SB : Hid (Sixteen (fullA pB.body)) := Lib.hid (full_six (by obtain ⟨A1, n1, c1, K1, m1, d1, e, _, rx, _⟩ := hiB.open; exact rx.2.1))
          have OK : Hid (SixS (spanOf true pA pB)) := Lib.hid ⟨SA.out, SB.out⟩
          have BS := Lib.hid (built_span true (fullA pA.body) (fullA pB.body) SA.out.1 SB.out.1)
          have CA := Lib.hid (fun W (hb : Below w.heap.size w W) => raddr13_any pA _ W (T.In.below hb pA hiA) (B1.out pA (List.mem_of_getElem? hpA)))
          have CB := Lib.hid (fun W (hb : Below w.heap.size w W) => raddr13_any pB _ W (T.In.below hb pB hiB) (B1.out pB (List.mem_of_getElem? hpB)))
          have GA := Lib.hid (fun W (hb : Below w.heap.size w W) => range_below hrA hb hlA)
          have GB := Lib.hid (fun W (hb : Below w.heap.size w W) => range_below hrB hb hlA)
          have HL := Lib.hid hlA
          have RL : Hid (w.heap.size ≤ R ∧ R < wr.heap.size) := Lib.hid ⟨P0.out.lo, P0.out.box.lt⟩
          subst hKA
          change Hid (Tryz.prog.built _ _ = some (scells (spanOf true pA pB))) at BS
          clear PM eA eB hpA hpB hKB kl hlA hlB hrA hrB hiA hiB SA SB
          generalize hs5 : spanOf true pA pB = s5 at *
          clear hs5
          generalize fullA pA.body = FA at *
          generalize fullA pB.body = FB at *
          have HQ1 := Lib.hid hq1
          have HLT := Lib.hid hlt
          clear hq hq1 hj hjm hlt
          go_upto_region 10 with fail
          refine wp_region_plan (StillV R V') (StillV.refl _ _) StillV.trans (.take 0 (.take 2 (.take 3 (.take 4 (.take 5 (.take 6 (.take 7 (.take 9 (.take 10 (.take 11 (.take 12 (.take 13 (.fork 1 (.sole 8 (.sole 14 (.take 15 (.sole 16 (.sole 17 (.take 18 (.sole 19 .fin))))))) 8 (.fork 1 (.sole 14 (.take 15 (.sole 16 (.sole 17 (.take 18 (.sole 19 .fin)))))) 14 (.take 15 (.fork 1 (.sole 16 (.sole 17 (.take 18 (.sole 19 .fin)))) 16 (.sole 1 (.sole 17 (.take 18 (.sole 19 .fin)))))))))))))))))))) (by kernel_rfl) (by kernel_rfl) rfl (by kernel_rfl) (fun _ _ _ _ _ h => h) ?_
          change wpPlan _ _ _ _ _ _ (wr.drewN 1)
          have D1 := drewN_below wr 1
          replace P0 := Lib.hid (P0.out.below D1)
          replace NB := Lib.hid (NB.out.below D1 NB.out.lt)
          replace ZB := Lib.hid (ZB.out.below D1 ZB.out.lt)
          replace RL : Hid (w.heap.size ≤ R ∧ R < (wr.drewN 1).heap.size) := Lib.hid ⟨P0.out.lo, P0.out.box.lt⟩
          clear D1
          generalize wr.drewN 1 = w3 at *
          have SV := Lib.hid (StillV.refl R V' w3)
          have BW := Lib.hid P0.out.bel
          have EN : Hid (∀ W, StillV R V' w3 W → Blk W g 29 (nodeC t.tag (.slice A n c) (.slice (some ⟨b, off, none⟩) 3 d)) ∧ Blk W (g + 1) 25 (resC false (.slice none 0 0) (.slice none 0 0))) := Lib.hid (fun W hW => ⟨(hW.2 g NB.out.lt (by have := HR.out; omega) (fun e => by have := (P0.out.lt1 e).1; have := HR.out; omega)).trans NB.out, (hW.2 (g + 1) ZB.out.lt (by have := HR.out; omega) (fun e => by have := (P0.out.lt1 e).1; have := HR.out; omega)).trans ZB.out⟩)
          have E0 : Hid (∀ W, StillV R V' w3 W → W.heap[bb]? = w3.heap[bb]?) := Lib.hid (fun W hW => hW.2 bb (by have := HL.out; have := RL.out; omega) (by have := HL.out; have := RL.out; omega) (fun e => by have := (P0.out.lt1 e).1; have := HL.out; have := RL.out; omega))
          have EA := Lib.hid (fun W (hW : StillV R V' w3 W) => range_heap (GA.out w3 BW.out) (E0.out W hW))
          have EBB := Lib.hid (fun W (hW : StillV R V' w3 W) => range_heap (GB.out w3 BW.out) (E0.out W hW))
          have LE := Lib.hid (PK1.out j)
          clear E0 GA GB
          repeat' (first
            | (refine plan_take _ rfl (by rfl) (fun W hW => yields_nodeM (.tmp 43) rfl bb (ob + q * 3) zA AA nA cA KA mA dA rfl (EA.out W hW)) ?_; simp only [Act.put, List.setIfInBounds_toArray, List.set_cons_zero, List.set_cons_succ])
            | (refine plan_take _ rfl (by rfl) (fun W hW => yields_nodeM (.tmp 49) rfl bb (ob + q1 * 3) zB AB nB cB KB mB dB rfl (EBB.out W hW)) ?_; simp only [Act.put, List.setIfInBounds_toArray, List.set_cons_zero, List.set_cons_succ])
            | (refine plan_take _ rfl (by rfl) (fun W hW => yields_build 62 _ rfl _ _ BS.out (by kernel_rfl)) ?_; simp only [Act.put, List.setIfInBounds_toArray, List.set_cons_zero, List.set_cons_succ])
            | (refine plan_take _ rfl (by rfl) (fun W hW => by go_simp; first | done | rfl) ?_; simp only [Act.put, List.setIfInBounds_toArray, List.set_cons_zero, List.set_cons_succ])
            | (refine plan_fork ?_ ?_)
            | ((first | refine plan_sole (sole_take rfl (by rfl) (fun K1 hK1 => ?_)) | refine sole_take rfl (by rfl) (fun K1 hK1 => ?_))
               refine op_of_run _ _ (yields_spans (.tmp 37) rfl R 1 V' rfl (Blk.cell P0.out.box 1)) ?_
               refine hK1 _ _ (StillV.refl _ _ _) ?_
               clear hK1 K1
               try simp only [Act.put, List.setIfInBounds_toArray, List.set_cons_zero, List.set_cons_succ])
            | ((first | refine plan_sole (sole_take rfl (by rfl) (fun K1 hK1 => ?_)) | refine sole_take rfl (by rfl) (fun K1 hK1 => ?_))
               refine op_sp_build1 s5 OK.out _ rfl (by first | rfl | kernel_rfl) ?_
               intro H w5 hr5 hb5 _ _
               refine hK1 _ _ (StillV.below hb5) ?_
               have R5 := Lib.hid hr5
               replace BW := Lib.hid (Below.step BW.out hb5)
               replace P0 := Lib.hid (P0.out.below hb5)
               replace SV := Lib.hid (StillV.trans _ _ _ SV.out (StillV.below hb5))
               clear hK1 K1 hr5 hb5
               try simp only [Act.put, List.setIfInBounds_toArray, List.set_cons_zero, List.set_cons_succ])
            | ((first | refine plan_sole (sole_take rfl (by rfl) (fun K1 hK1 => ?_)) | refine sole_take rfl (by rfl) (fun K1 hK1 => ?_))
               refine op_app_span P0.out (.tmp 38) (.tmp 53) s5 OK.out H R5.out rfl rfl rfl LE.out ?_
               intro V6 w6 ha6
               have sv6 : StillV R V' w5 w6 := ⟨ha6.below, fun c hc _ hne => ha6.2.2.1 c hc hne⟩
               refine hK1 _ _ sv6 ?_
               have A6 := Lib.hid ha6
               replace SV := Lib.hid (StillV.trans _ _ _ SV.out sv6)
               have X6 := Lib.hid (P0.out.box.below ha6.2.1 P0.out.rb)
               clear hK1 K1 sv6 ha6
               try simp only [Act.put, List.setIfInBounds_toArray, List.set_cons_zero, List.set_cons_succ])
            | ((first | refine plan_sole (sole_take rfl (by rfl) (fun K1 hK1 => ?_)) | refine sole_take rfl (by rfl) (fun K1 hK1 => ?_))
               obtain ⟨a6, c6, hV6⟩ := own_form A6.out.1
               refine op_store_cell 22 (.tmp 55) (.tmp 54) rfl rfl R 1 V6 rfl rfl X6.out (show 1 < 3 by decide) (by kernel_rfl) (by rw [hV6]; rfl) (by rw [hV6]; rfl) ?_
               refine hK1 _ _ (StillV.cellS _ _ _ _ _) ?_
               have P7 := Lib.hid (P0.out.set1 (fun x hx => (List.mem_append.1 hx).elim (fun hx => P0.out.s6 x hx) (fun hx => by rw [List.mem_singleton.1 hx]; exact OK.out)) A6.out)
               replace SV := Lib.hid (StillV.trans _ _ _ SV.out (StillV.cellS R 1 V' w6 V6))
               clear hK1 K1 hV6 P0 A6 X6
               generalize w6.setCell ⟨R, 1, none⟩ V6 = w7 at *
               try simp only [Act.put, List.setIfInBounds_toArray, List.set_cons_zero, List.set_cons_succ])
            | ((first | refine plan_sole (sole_take rfl (by rfl) (fun K1 hK1 => ?_)) | refine sole_take rfl (by rfl) (fun K1 hK1 => ?_))
               go_simp
               refine (CA.out _ BW.out).mono ?_
               rintro e w4 ⟨rfl, hb4⟩
               refine hK1 _ _ (StillV.below hb4) ?_
               replace BW := Lib.hid (Below.step BW.out hb4)
               replace P0 := Lib.hid (P0.out.below hb4)
               replace SV := Lib.hid (StillV.trans _ _ _ SV.out (StillV.below hb4))
               clear hK1 K1 hb4 CA
               try simp only [Act.put, List.setIfInBounds_toArray, List.set_cons_zero, List.set_cons_succ])
            | ((first | refine plan_sole (sole_take rfl (by rfl) (fun K1 hK1 => ?_)) | refine sole_take rfl (by rfl) (fun K1 hK1 => ?_))
               go_simp
               refine (CB.out _ BW.out).mono ?_
               rintro e w4 ⟨rfl, hb4⟩
               refine hK1 _ _ (StillV.below hb4) ?_
               replace BW := Lib.hid (Below.step BW.out hb4)
               replace P0 := Lib.hid (P0.out.below hb4)
               replace SV := Lib.hid (StillV.trans _ _ _ SV.out (StillV.below hb4))
               clear hK1 K1 hb4 CB
               try simp only [Act.put, List.setIfInBounds_toArray, List.set_cons_zero, List.set_cons_succ])
            | refine plan_end ?_)
          all_goals (
            go_wp2_with fail
            rw [← PE.out] at P7
            go_roundg f
            case measure => omega
            case rel => exact ⟨j + 1, q + 2, V6, by go_num, by have := HQ.out; omega, by have := HJ.out; omega, by have := HQ.out; have := HQ1.out; have := HLT.out; omega, P7.out, (EN.out _ SV.out).1, (EN.out _ SV.out).2⟩)
        · have t1 : decide ((q1 : Int) < (m1 : Int)) = false := decide_eq_false (by omega)
          have t1' : decide (q1 < m1) = false := decide_eq_false hlt
          have EY := PF1.out j (by omega)
          rw [EY] at P0
          clear EY hq hq1 hj hjm hlt
          go_wp2_with fail
          go_roundg gg
          case measure => omega
          case rel => exact ⟨2, V', by go_num, by omega, P0.out, NB.out, ZB.out⟩
    · obtain rfl : gk = 0 := by omega
      have t0 : decide (((2 : Nat) : Int) < 2) = false := by decide
      have x2 : wr.cell? ⟨g, 2, none⟩ = some (.slice (some ⟨b, off, none⟩) 3 d) := Blk.cell NB.out 2
      have y2 : wr.cell? ⟨b, off + 2 * 3 + 2, none⟩ = some (.slice L2 m2 d2) := G2.out wr P0.out.bel 2 _ rfl
      replace P0 : Hid (PSt w (R + 1) R wr false V (.slice none 0 0) (Y0 ++ Y1) []) := Lib.hid P0.out
      have P1 : Hid (Y2.take 0 = []) := Lib.hid (by simp)
      go_wp2_with fail
      clear x2 y2
      go_loopg [9] 30002 (fun fk jV wx => ∃ (j q : Nat) (V' : Value), jV = .int .i64 (q : Int) ∧ q = 2 * j ∧ j + fk = 30002 ∧ 2 * j ≤ m2 + 1 ∧ PSt w (R + 1) R wx false V V' (Y0 ++ Y1) (Y2.take j) ∧ Blk wx g 29 (nodeC t.tag (.slice A n c) (.slice (some ⟨b, off, none⟩) 3 d)) ∧ Blk wx (g + 1) 25 (resC false (.slice none 0 0) (.slice none 0 0)) ∧ OkTo p2.kids j)
      case atStart => exact ⟨0, 0, _, rfl, rfl, rfl, Nat.zero_le _, by rw [P1.out]; exact P0.out, NB.out, ZB.out, fun i _ h => absurd h (Nat.not_lt_zero _)⟩
      case round =>
        obtain ⟨j, q, V', rfl, hq, hj, hjm, hp, hnb, hzb, hok⟩ := hrel
        clear P0 NB ZB P1
        obtain ⟨aV, cV, hV⟩ := own_form hp.rg
        obtain ⟨nV, hnV⟩ : ∃ nV, (Y2.take j).length = nV := ⟨_, rfl⟩
        rw [hnV] at hV
        subst hV
        clear hnV
        have P0 := Lib.hid hp
        have NB := Lib.hid hnb
        have ZB := Lib.hid hzb
        have HQ := Lib.hid hq
        have HJ := Lib.hid hj
        have HJM := Lib.hid hjm
        have OT := Lib.hid hok
        clear hp hnb hzb hok
        obtain ⟨q1, hq1⟩ : ∃ q1, q1 = q + 1 := ⟨_, rfl⟩
        have kS : IntKind.i64.wrap ((q : Int) + 1) = (q1 : Int) := by rw [IntWalk.i64_in _ (by omega)]; omega
        have kA : IntKind.i64.wrap ((q : Int) + 2) = ((q + 2 : Nat) : Int) := by rw [IntWalk.i64_in _ (by omega)]; omega
        by_cases hlt : q1 < m2
        · have t1 : decide ((q1 : Int) < (m2 : Int)) = true := decide_eq_true (by omega)
          have t1' : decide (q1 < m2) = true := decide_eq_true hlt
          obtain ⟨f, hf⟩ : ∃ f, gk = f + 1 := ⟨gk - 1, by omega⟩
          subst hf
          have i0 : (0 : Int) ≤ (q : Int) := by omega
          have i1 : (q : Int) < (m2 : Int) := by omega
          have i2 : (0 : Int) ≤ (q1 : Int) := by omega
          have i3 : (q1 : Int) < (m2 : Int) := by omega
          have kl : 2 * j + 1 < p2.kids.length := by rw [I2.out.1]; omega
          obtain ⟨pA, bb, ob, zA, AA, nA, cA, KA, mA, dA, hpA, hKA, hlA, hrA, hiA⟩ := I2.out.2 q (by omega)
          obtain ⟨pB, bb2, ob2, zB, AB, nB, cB, KB, mB, dB, hpB, hKB, hlB, hrB, hiB⟩ := I2.out.2 q1 hlt
          rw [hKA] at hKB
          obtain ⟨rfl, rfl⟩ : bb = bb2 ∧ ob = ob2 := by simpa using hKB
          have eA : p2.kids[2 * j]'(by omega) = pA := by
            have h1 := hpA
            rw [show q = 2 * j from hq, List.getElem?_eq_getElem (by omega)] at h1
            exact Option.some.inj h1
          have eB : p2.kids[2 * j + 1]'kl = pB := by
            have h1 := hpB
            rw [show q1 = 2 * j + 1 by omega, List.getElem?_eq_getElem kl] at h1
            exact Option.some.inj h1
          have PM := PN2.out j kl
          have EBJ := EB.out j kl
          have OS := ok_step OT.out kl
          rw [eA, eB] at PM EBJ OS
          have PE : Hid (Y2.take (j + 1) = Y2.take j ++ [rangeOf pA pB]) := Lib.hid (by simpa using PM)
          have EJ := Lib.hid EBJ
          have OJ := Lib.hid OS
          have CA := Lib.hid (fun W (hb : Below w.heap.size w W) => ruint_any pA _ W (T.In.below hb pA hiA) (B2.out pA (List.mem_of_getElem? hpA)))
          have CB := Lib.hid (fun W (hb : Below w.heap.size w W) => ruint_any pB _ W (T.In.below hb pB hiB) (B2.out pB (List.mem_of_getElem? hpB)))
          have GA := Lib.hid (fun W (hb : Below w.heap.size w W) => range_below hrA hb hlA)
          have GB := Lib.hid (fun W (hb : Below w.heap.size w W) => range_below hrB hb hlA)
          have N1 := num32_is pA
          have N2 := num32_is pB
          have OK : Hid (OkR (num32 pA, num32 pB)) := Lib.hid ⟨num32_lt pA, num32_lt pB⟩
          have RO : Hid (rangeOk pA pB = (decide ((uintZ pA).2 = 0) && decide ((uintZ pB).2 = 0))) := Lib.hid rfl
          rw [rangeOf_is] at PE
          subst hKA
          clear PM EBJ OS eA eB hpA hpB hKB kl hlA hlB hrA hrB hiA hiB
          rw [RO.out] at EJ OJ
          clear RO
          generalize num32 pA = xA at *
          generalize num32 pB = xB at *
          generalize uintZ pA = uA at *
          generalize uintZ pB = uB at *
          obtain ⟨a1, e1⟩ := uA
          obtain ⟨a2, e2⟩ := uB
          dsimp only at N1 N2
          replace EJ : Hid ((decide (e1 = 0) && decide (e2 = 0)) = false → rz = (zeroRes, 2)) := EJ
          replace OJ : Hid ((decide (e1 = 0) && decide (e2 = 0)) = true → OkTo p2.kids (j + 1)) := OJ
          have GAr := Lib.hid (GA.out wr P0.out.bel)
          have HQ1 := Lib.hid hq1
          have HLT := Lib.hid hlt
          clear hq hq1 hj hjm hlt
          go_upto_region 17 with (first
            | ((with_reducible refine load_nodeM_at 71 bb (ob + q * 3) zA AA nA cA KA mA dA ?_ GAr.out ?_); (· rfl))
            | ((with_reducible refine load_nodeM_at 80 bb (ob + q1 * 3) zB AB nB cB KB mB dB ?_ GBr.out ?_); (· rfl))
            | (go_at_call 36
               refine (CA.out _ P0.out.bel).mono ?_
               rintro e w4 ⟨rfl, hb4⟩
               replace P0 := Lib.hid (P0.out.below hb4)
               replace NB := Lib.hid (NB.out.below hb4 NB.out.lt)
               replace ZB := Lib.hid (ZB.out.below hb4 ZB.out.lt)
               have GBr := Lib.hid (GB.out w4 P0.out.bel)
               clear hb4 CA)
            | (go_at_call 36
               refine (CB.out _ P0.out.bel).mono ?_
               rintro e w5 ⟨rfl, hb5⟩
               replace P0 := Lib.hid (P0.out.below hb5)
               replace NB := Lib.hid (NB.out.below hb5 NB.out.lt)
               replace ZB := Lib.hid (ZB.out.below hb5 ZB.out.lt)
               clear hb5 CB))
          clear GA GB GAr GBr
          by_cases h1 : e1 = 0
          rotate_left
          · have t4 : (e1 != 0) = true := by simpa using h1
            have t5 : (e1 == 0) = false := by simpa using h1
            have e := EJ.out (by simp [h1])
            subst e
            clear EJ OJ EG OT
            have b5 := Lib.hid P0.out.bel
            go_wp2_with ((with_reducible refine store_res_at 2 91 (g + 1) false none 0 0 none 0 0 false (.slice none 0 0) (.slice none 0 0) ?_ ?_ ZB.out ?_); (· rfl); (· rfl))
            exact GivesRes.row (p := 2) (u := 3) (er := 2) rfl rfl rfl rfl ZB.out AZ.out b5.out (by have := HG.out; omega)
          subst h1
          by_cases h2 : e2 = 0
          rotate_left
          · have t4 : (e2 != 0) = true := by simpa using h2
            have t5 : (e2 == 0) = false := by simpa using h2
            have e := EJ.out (by simp [h2])
            subst e
            clear EJ OJ EG OT
            have b5 := Lib.hid P0.out.bel
            go_wp2_with ((with_reducible refine store_res_at 2 91 (g + 1) false none 0 0 none 0 0 false (.slice none 0 0) (.slice none 0 0) ?_ ?_ ZB.out ?_); (· rfl); (· rfl))
            exact GivesRes.row (p := 2) (u := 3) (er := 2) rfl rfl rfl rfl ZB.out AZ.out b5.out (by have := HG.out; omega)
          subst h2
          have OT2 := Lib.hid (OJ.out (by decide))
          have LE := Lib.hid (PK2.out j)
          have c5 : w5.cell? ⟨R, 2, none⟩ = some (.slice aV nV cV) := Blk.cell P0.out.box 2
          clear EJ OJ
          go_wp2_with (first
            | ((with_reducible refine build_range_at 95 97 (xA, xB) ?_ ?_ ?_); (· rfl); (· rfl))
            | ((with_reducible refine slice_range_at 98 (xA, xB) ?_ ?_)
               (· rfl)
               have hb6 := box_below w5 (.cells (rcells (xA, xB)) 54)
               have R6 := Lib.hid (rg_one w5 OK.out)
               replace P0 := Lib.hid (P0.out.below hb6)
               replace NB := Lib.hid (NB.out.below hb6 NB.out.lt)
               replace ZB := Lib.hid (ZB.out.below hb6 ZB.out.lt)
               clear hb6 c5
               generalize w5.alloc (.cells (rcells (xA, xB)) 54) = w6 at *
               generalize w5.heap.size = h5 at *)
            | (refine wpList_of_wp (by rfl) ?_
               refine op_app_range P0.out (.tmp 93) (.tmp 99) (xA, xB) OK.out h5 R6.out rfl rfl rfl LE.out ?_
               intro V6 w7 ha7
               have A7 := Lib.hid ha7
               have X7 := Lib.hid (P0.out.box.below ha7.2.1 P0.out.rb)
               have N7 := Lib.hid (NB.out.below ha7.2.1 (by have := HR.out; omega))
               have Z7 := Lib.hid (ZB.out.below ha7.2.1 (by have := HR.out; omega))
               clear ha7)
            | (refine wpList_of_wp (by rfl) ?_
               obtain ⟨a6, c6, hV6⟩ := own_form A7.out.1
               refine op_store_cell 23 (.tmp 101) (.tmp 100) rfl rfl R 2 V6 rfl rfl X7.out (show 2 < 3 by decide) (by kernel_rfl) (by rw [hV6]; rfl) (by rw [hV6]; rfl) ?_
               have P8 := Lib.hid (P0.out.set2 (fun x hx => (List.mem_append.1 hx).elim (fun hx => P0.out.ok x hx) (fun hx => by rw [List.mem_singleton.1 hx]; exact OK.out)) A7.out)
               have N8 : Hid (Blk (w7.setCell ⟨R, 2, none⟩ V6) g 29 (nodeC t.tag (.slice A n c) (.slice (some ⟨b, off, none⟩) 3 d))) := Lib.hid ((heap_setCell_other w7 ⟨R, 2, none⟩ g V6 (by have := HR.out; show g ≠ R; omega)).trans N7.out)
               have Z8 : Hid (Blk (w7.setCell ⟨R, 2, none⟩ V6) (g + 1) 25 (resC false (.slice none 0 0) (.slice none 0 0))) := Lib.hid ((heap_setCell_other w7 ⟨R, 2, none⟩ (g + 1) V6 (by have := HR.out; show g + 1 ≠ R; omega)).trans Z7.out)
               clear P0 A7 X7 N7 Z7 NB ZB hV6
               generalize w7.setCell ⟨R, 2, none⟩ V6 = w8 at *))
          rw [← PE.out] at P8
          go_roundg f
          case measure => omega
          case rel => exact ⟨j + 1, q + 2, V6, by go_num, by have := HQ.out; omega, by have := HJ.out; omega, by have := HQ.out; have := HQ1.out; have := HLT.out; omega, P8.out, N8.out, Z8.out, OT2.out⟩
        · have t1 : decide ((q1 : Int) < (m2 : Int)) = false := decide_eq_false (by omega)
          have t1' : decide (q1 < m2) = false := decide_eq_false hlt
          have EY := PF2.out j (by omega)
          have ER := Lib.hid (EG.out (ok_all OT.out (by rw [I2.out.1]; omega)))
          rw [EY] at P0
          clear EY
          have P7 := P0
          have N7 := NB
          have Z7 := ZB
          have B7 := Lib.hid P0.out.bel
          clear P0 NB ZB EG EB OT hq hq1 hj hjm hlt
          go_upto_region 21 with fail
          generalize wr = u7 at *
          obtain ⟨aS, cS, hS, hf1⟩ := P7.out.form1
          obtain ⟨aR, cR, hR2, hf2⟩ := P7.out.form2
          have F1 : Hid (SpFar (R + 1) u7 aS (Y0 ++ Y1).length cS (Y0 ++ Y1)) := Lib.hid hf1
          have F2 : Hid (RgFar (R + 1) u7 aR (Y2).length cR (Y2)) := Lib.hid hf2
          have AT : Hid (ResAt u7 (.agg (resC false (.slice aS (Y0 ++ Y1).length cS) (.slice aR (Y2).length cR))) ⟨false, Y0 ++ Y1, Y2⟩) := Lib.hid ⟨_, _, _, _, _, _, rfl, hf1.1, hf2.1⟩
          have CX := Lib.hid (CN.out ⟨false, Y0 ++ Y1, Y2⟩ _ u7 AT.out LL.out.1 LL.out.2)
          have RB : Hid (Blk u7 R 25 (resC false (.slice aS (Y0 ++ Y1).length cS) (.slice aR (Y2).length cR))) := Lib.hid (Eq.mp (congrArg (fun z => Blk u7 R 25 z) (congr (congrArg (resC false) hS) hR2)) P7.out.box)
          have HB : Hid (g + 1 < R + 1) := Lib.hid (by have := HR.out; omega)
          clear hf1 hf2 hS hR2 AT P7
          have EQ : Hid (∃ q, nodeR ⟨false, Y0 ++ Y1, Y2⟩ = q) := Lib.hid ⟨_, rfl⟩
          obtain ⟨q0, hq0⟩ := EQ.out
          rw [hq0] at CX ER
          clear hq0 EQ
          obtain ⟨qt, qe⟩ := q0
          dsimp only at ER
          generalize (Y0 ++ Y1).length = s1 at *
          generalize (Y2).length = s2 at *
          go_upto_region 22 with (first
            | (refine load_res_any (by rfl) (.tmp 4) rfl R rfl RB.out ?_)
            | (go_at_call 12
               refine CX.out.mono ?_
               rintro e w5 ⟨p5, m5, k5, o5, j5, d5, rfl, hin5, hb5⟩
               have I5 : Hid (qt.In w5 (.agg (nodeC qt.tag (.slice p5 m5 k5) (.slice o5 j5 d5)))) := Lib.hid hin5
               replace B7 := Lib.hid (Below.step B7.out hb5)
               replace F1 := Lib.hid (F1.out.over (Over.below hb5))
               replace F2 := Lib.hid (F2.out.over (Over.below hb5))
               replace N7 := Lib.hid (N7.out.below hb5 N7.out.lt)
               replace Z7 := Lib.hid (Z7.out.below hb5 Z7.out.lt)
               replace RB := Lib.hid (RB.out.below hb5 RB.out.lt)
               clear hin5 hb5 CX)
            | (with_reducible refine allocNode_at ?_)
            | ((with_reducible refine storeNode_new 14 106 w5 qt.tag p5 m5 k5 o5 j5 d5 ?_ ?_ ?_ ?_)
               (· rfl)
               (· rfl)
               (· rfl)
               have hb6 := boxR_below w5 (.cells (nodeC qt.tag (.slice p5 m5 k5) (.slice o5 j5 d5)) 29)
               have QB := Lib.hid (nodebox w5 qt.tag (.slice p5 m5 k5) (.slice o5 j5 d5))
               replace I5 := Lib.hid (T.In.below hb6 qt I5.out)
               replace B7 := Lib.hid (Below.step B7.out hb6)
               replace F1 := Lib.hid (F1.out.over (Over.below hb6))
               replace F2 := Lib.hid (F2.out.over (Over.below hb6))
               replace N7 := Lib.hid (N7.out.below hb6 N7.out.lt)
               replace Z7 := Lib.hid (Z7.out.below hb6 Z7.out.lt)
               replace RB := Lib.hid (RB.out.below hb6 RB.out.lt)
               clear hb6
               generalize w5.alloc (.cells (nodeC qt.tag (.slice p5 m5 k5) (.slice o5 j5 d5)) 29) = w6 at *
               generalize w5.heap.size = h6 at *))
          by_cases hqe : qe = 0
          rotate_left
          · have e : rz = (zeroRes, 2) := by rw [ER.out, if_neg (fun h => hqe h.1)]
            subst e
            have t1 : (qe != 0) = true := by simpa using hqe
            have t2 : (qe == 0) = false := by simpa using hqe
            clear ER CE hqe I5
            go_wp2_with ((with_reducible refine store_res_at 2 116 (g + 1) false none 0 0 none 0 0 false (.slice none 0 0) (.slice none 0 0) ?_ ?_ Z7.out ?_); (· rfl); (· rfl))
            exact GivesRes.row (p := 2) (u := 3) (er := 2) rfl rfl rfl rfl Z7.out AZ.out B7.out (by have := HG.out; omega)
          subst hqe
          have C7 := Lib.hid (CE.out qt _ _ I5.out B7.out)
          clear CE I5
          cases hsm : sameT qt t with
          | false =>
            rw [hsm] at C7
            have e : rz = (zeroRes, 2) := by rw [ER.out, if_neg (fun h => by rw [hsm] at h; cases h.2)]
            subst e
            clear ER hsm
            go_wp2_with (first
              | (refine load_node_any (by rfl) (.tmp 14) rfl h6 rfl QB.out ?_)
              | (refine load_node_any (by rfl) (.tmp 1) rfl g rfl N7.out ?_)
              | (go_at_call 13
                 refine C7.out.mono ?_
                 rintro e w7 ⟨rfl, hb7⟩
                 replace B7 := Lib.hid (Below.step B7.out hb7)
                 replace F1 := Lib.hid (F1.out.over (Over.below hb7))
                 replace F2 := Lib.hid (F2.out.over (Over.below hb7))
                 replace Z7 := Lib.hid (Z7.out.below hb7 Z7.out.lt)
                 replace RB := Lib.hid (RB.out.below hb7 RB.out.lt)
                 clear hb7 C7)
              | ((with_reducible refine store_res_at 2 116 (g + 1) false none 0 0 none 0 0 false (.slice none 0 0) (.slice none 0 0) ?_ ?_ Z7.out ?_); (· rfl); (· rfl)))
            exact GivesRes.row (p := 2) (u := 3) (er := 2) rfl rfl rfl rfl Z7.out AZ.out B7.out (by have := HG.out; omega)
          | true =>
            rw [hsm] at C7
            have e : rz = (⟨false, Y0 ++ Y1, Y2⟩, 0) := by rw [ER.out, if_pos ⟨rfl, hsm⟩]
            subst e
            clear ER hsm
            go_wp2_with (first
              | (refine load_node_any (by rfl) (.tmp 14) rfl h6 rfl QB.out ?_)
              | (refine load_node_any (by rfl) (.tmp 1) rfl g rfl N7.out ?_)
              | (go_at_call 13
                 refine C7.out.mono ?_
                 rintro e w7 ⟨rfl, hb7⟩
                 replace B7 := Lib.hid (Below.step B7.out hb7)
                 replace F1 := Lib.hid (F1.out.over (Over.below hb7))
                 replace F2 := Lib.hid (F2.out.over (Over.below hb7))
                 replace Z7 := Lib.hid (Z7.out.below hb7 Z7.out.lt)
                 replace RB := Lib.hid (RB.out.below hb7 RB.out.lt)
                 clear hb7 C7)
              | (refine load_res_any (by rfl) (.tmp 4) rfl R rfl RB.out ?_)
              | ((with_reducible refine store_res_at 2 117 (g + 1) false aS s1 cS aR s2 cR false (.slice none 0 0) (.slice none 0 0) ?_ ?_ Z7.out ?_); (· rfl); (· rfl)))
            exact GivesRes.row2 (x := ((ResZ.mk false (Y0 ++ Y1) (Y2)), (0 : Int))) (p := 2) (u := 3) (er := 0) rfl rfl rfl rfl rfl Z7.out F1.out F2.out HB.out B7.out (by have := HG.out; omega)
    · omega
end Go.Proofs.YtlmndmfebgaidaaGreatDoor
