/-
  Merged texts: RsA, ShaZ, ShaH, ShaL, ShaWr, ShaSu, ShaOf, Out32.
-/
import Derived.Test.YtgmefdmeeihgoaaGreatDoorGrI
import Derived.Test.YtgmefdmeeihgoaaGreatDoorGrA
import Derived.Lib.AppendZeros
import Derived.Test.YtgmefdmeeihgoaaGreatDoorGrB
import Derived.Maps.AppendAt
namespace Go.Proofs.YtgmefdmeeihgoaaGreatDoor
open Go.RowKit
set_option linter.unusedVariables false
def KeyAt (w : World) (a : Option Addr) (n c : Nat) (e : Int) (ns : List Int) : Prop := Row w a n ns ∧ n ≤ c ∧ (a = none → c = 0) ∧ 0 ≤ e ∧ e ≤ 4294967295
theorem KeyAt.below {w w' : World} {a : Option Addr} {n c : Nat} {e : Int} {ns : List Int} (h : KeyAt w a n c e ns) (hb : Below w.heap.size w w') : KeyAt w' a n c e ns := ⟨h.1.below hb, h.2⟩
theorem key_box (w : World) (a : Option Addr) (n c : Nat) (e : Int) : Blk (w.alloc (.cells #[.slice a n c, .int .u32 e] 25)) w.heap.size 25 #[.slice a n c, .int .u32 e] := Blk.new _ _ _
theorem box_below (w : World) (o : Obj) : Below w.heap.size w (w.alloc o) := (Below.refl _ _).alloc (Nat.le_refl _) o
set_option maxRecDepth 100000 in
theorem ksize_any (s : Int) (w : World) (h0 : -9223372036854775808 ≤ s) (h1 : s ≤ 9223372036854775807) : Calls Tryz.prog 70 #[.int .i64 s] w fun e w' => e = .returned (.bool (decide (62 ≤ s) && decide (s ≤ 512))) ∧ w' = w := by
  go_enter Tryz.func70, Tryz.ntmps70
  by_cases h : 62 ≤ s
  · have t1 : decide ((62 : Int) ≤ s) = true := decide_eq_true h
    go_wp2_with fail
    go_ret
    exact ⟨by rw [t1]; rfl, rfl⟩
  · have t1 : decide ((62 : Int) ≤ s) = false := decide_eq_false h
    go_wp2_with fail
    go_ret
    exact ⟨rfl, rfl⟩
set_option maxHeartbeats 1000000 in
set_option maxRecDepth 100000 in
theorem kright_any (a : Option Addr) (n c : Nat) (e : Int) (ns : List Int) (w : World) (hk : KeyAt w a n c e ns) (hn : n ≤ 1000000) :
    Calls Tryz.prog 39 #[.agg #[.slice a n c, .int .u32 e]] w fun r w' => r = .returned (.bool (rightZ ns e)) ∧ Below w.heap.size w w' := by
  have BX := Lib.hid (key_box w a n c e)
  have BW := Lib.hid (box_below w (.cells #[.slice a n c, .int .u32 e] 25))
  have HR := Lib.hid (hk.1.below BW.out)
  have hl := hk.1.1
  obtain ⟨_, _, _, e0, e1⟩ := hk
  have c0 := BX.out.cell 0
  have c1 := BX.out.cell 1
  simp only [List.getElem?_toArray, List.getElem?_cons_zero, List.getElem?_cons_succ] at c0 c1
  have RZ : Hid (rightZ ns e = (decide (62 ≤ n) && decide (n ≤ 512) && !(ns[0]?.getD 0 == 0) && (ns[n - 1]?.getD 0 % 2 == 1) && (e % 2 == 1) && decide (3 ≤ e))) := by
    unfold rightZ
    rw [hl]
    exact Lib.hid rfl
  have b0 := HR.out.byte 0
  have b1 := HR.out.byte (n - 1)
  go_enter Tryz.func39, Tryz.ntmps39
  generalize hw2 : w.alloc (.cells #[.slice a n c, .int .u32 e] 25) = w2 at *
  have CS := Lib.hid (ksize_any (n : Int) w2 (by omega) (by omega))
  clear hl
  by_cases h : 62 ≤ n ∧ n ≤ 512
  · have t1 : (decide ((62 : Int) ≤ (n : Int)) && decide ((n : Int) ≤ 512)) = true := by simp; omega
    rw [t1] at CS
    have t2 : (decide (62 ≤ n) && decide (n ≤ 512)) = true := by simp; omega
    rw [t2] at RZ
    obtain ⟨b, o, rfl, hb, hc⟩ := HR.out.2.2 (by omega)
    have d0 := hc 0 (by omega)
    have d1 := hc (n - 1) (by omega)
    obtain ⟨m, rfl⟩ : ∃ m, n = m + 1 := ⟨n - 1, by omega⟩
    rw [Nat.add_sub_cancel] at d1 b1 RZ
    rw [Nat.add_zero] at d0
    clear hc HR BX t1 t2
    generalize ns[0]?.getD 0 = x at *
    generalize ns[m]?.getD 0 = y at *
    rw [show ((m + 1 : Nat) : Int) = (m : Int) + 1 from rfl] at CS
    go_wp2_with fail
    refine CS.out.mono ?_
    rintro r w3 ⟨rfl, rfl⟩
    clear CS hw2
    go_wp2_with fail
    all_goals
      go_ret
      refine ⟨ret_bool ?_, BW.out⟩
      rw [RZ.out]
      rw [Bool.eq_iff_iff]
      simp [*]
  · have t1 : (decide ((62 : Int) ≤ (n : Int)) && decide ((n : Int) ≤ 512)) = false := by
      simp only [Bool.and_eq_false_iff, decide_eq_false_iff_not]
      omega
    rw [t1] at CS
    have t2 : (decide (62 ≤ n) && decide (n ≤ 512)) = false := by
      simp only [Bool.and_eq_false_iff, decide_eq_false_iff_not]
      omega
    rw [t2] at RZ
    go_wp2_with fail
    refine CS.out.mono ?_
    rintro r w3 ⟨rfl, rfl⟩
    go_wp2_with fail
    go_ret
    exact ⟨by rw [RZ.out]; rfl, BW.out⟩
set_option maxHeartbeats 1000000 in
set_option maxRecDepth 100000 in
theorem krright_any (a : Option Addr) (n c : Nat) (e : Int) (ns : List Int) (w : World) (hk : KeyAt w a n c e ns) (hn : n ≤ 1000000) :
    Calls Tryz.prog 22 #[.agg #[.slice a n c, .int .u32 e]] w fun r w' => r = .returned (.bool (rightZ ns e)) ∧ Below w.heap.size w w' := by
  have BX := Lib.hid (key_box w a n c e)
  have BW := Lib.hid (box_below w (.cells #[.slice a n c, .int .u32 e] 25))
  have HR := Lib.hid (hk.1.below BW.out)
  have hl := hk.1.1
  obtain ⟨_, _, _, e0, e1⟩ := hk
  have c0 := BX.out.cell 0
  have c1 := BX.out.cell 1
  simp only [List.getElem?_toArray, List.getElem?_cons_zero, List.getElem?_cons_succ] at c0 c1
  have RZ : Hid (rightZ ns e = (decide (62 ≤ n) && decide (n ≤ 512) && !(ns[0]?.getD 0 == 0) && (ns[n - 1]?.getD 0 % 2 == 1) && (e % 2 == 1) && decide (3 ≤ e))) := by
    unfold rightZ
    rw [hl]
    exact Lib.hid rfl
  have b0 := HR.out.byte 0
  have b1 := HR.out.byte (n - 1)
  go_enter Tryz.func22, Tryz.ntmps22
  generalize hw2 : w.alloc (.cells #[.slice a n c, .int .u32 e] 25) = w2 at *
  clear hl
  by_cases h : 62 ≤ n ∧ n ≤ 512
  · have t2 : (decide (62 ≤ n) && decide (n ≤ 512)) = true := by simp; omega
    rw [t2] at RZ
    obtain ⟨b, o, rfl, hb, hc⟩ := HR.out.2.2 (by omega)
    have d0 := hc 0 (by omega)
    have d1 := hc (n - 1) (by omega)
    obtain ⟨m, rfl⟩ : ∃ m, n = m + 1 := ⟨n - 1, by omega⟩
    rw [Nat.add_sub_cancel] at d1 b1 RZ
    rw [Nat.add_zero] at d0
    clear hc HR BX t2
    generalize ns[0]?.getD 0 = x at *
    generalize ns[m]?.getD 0 = y at *
    have t3 : decide ((62 : Int) ≤ (m : Int) + 1) = true := decide_eq_true (by omega)
    have t4 : decide ((m : Int) + 1 ≤ 512) = true := decide_eq_true (by omega)
    go_wp2_with fail
    all_goals
      go_ret
      refine ⟨ret_bool ?_, BW.out⟩
      rw [RZ.out]
      rw [Bool.eq_iff_iff]
      simp [*]
  · have t2 : (decide (62 ≤ n) && decide (n ≤ 512)) = false := by
      simp only [Bool.and_eq_false_iff, decide_eq_false_iff_not]
      omega
    rw [t2] at RZ
    by_cases h6 : 62 ≤ n
    · have t3 : decide ((62 : Int) ≤ (n : Int)) = true := decide_eq_true (by omega)
      have t4 : decide ((n : Int) ≤ 512) = false := decide_eq_false (by omega)
      go_wp2_with fail
      go_ret
      exact ⟨by rw [RZ.out]; rfl, BW.out⟩
    · have t3 : decide ((62 : Int) ≤ (n : Int)) = false := decide_eq_false (by omega)
      go_wp2_with fail
      go_ret
      exact ⟨by rw [RZ.out]; rfl, BW.out⟩
set_option maxRecDepth 100000 in
theorem klight_any (a : Option Addr) (n c : Nat) (e : Int) (ns : List Int) (w : World) (hk : KeyAt w a n c e ns) (hn : n ≤ maxLen) :
    Calls Tryz.prog 5 #[.agg #[.slice a n c, .int .u32 e]] w fun r w' => r = .returned (.bool (decide (n ≤ 140))) ∧ Below w.heap.size w w' := by
  have BX := Lib.hid (key_box w a n c e)
  have BW := Lib.hid (box_below w (.cells #[.slice a n c, .int .u32 e] 25))
  have c0 := BX.out.cell 0
  simp only [List.getElem?_toArray, List.getElem?_cons_zero] at c0
  have TD : Hid (decide ((n : Int) ≤ 140) = decide (n ≤ 140)) := Lib.hid (by rw [decide_eq_decide]; omega)
  go_enter Tryz.func5, Tryz.ntmps5
  generalize hw2 : w.alloc (.cells #[.slice a n c, .int .u32 e] 25) = w2 at *
  go_wp2_with fail
  go_ret
  exact ⟨ret_bool TD.out, BW.out⟩
end Go.Proofs.YtgmefdmeeihgoaaGreatDoor
namespace Go.Proofs.YtgmefdmeeihgoaaGreatDoor
open Go.RowKit
set_option linter.unusedVariables false
theorem zeros_list (n : Nat) : (Builtin.zeroCells #[Value.int .u8 0] n).toList = List.replicate n (Value.int .u8 0) := by
  unfold Builtin.zeroCells
  apply List.ext_getElem
  · simp
  · intro i h1 h2
    have : i % 1 = 0 := Nat.mod_one i
    simp [this]
set_option maxHeartbeats 1000000 in
theorem run_zeros (w : World) (m : Nat) (hm : m ≤ 64) (ty : TypeId) : ∃ V' w', (Builtin.append_ #[22, 60] ty #[.slice (some ⟨w.heap.size, 0, none⟩) 1 1, .int .u64 (m : Int)]).run Tryz.prog (w.alloc (.cells #[.int .u8 128] 5)) = .ok V' w' ∧ Out w w' V' ([128] ++ List.replicate m 0) := by
  obtain ⟨i0, hi5, hz0, hz1, hz2⟩ := info_parts Tryz.infoByte
  have hw : IntKind.i64.wrap (m : Int) = m := by rw [IntKind.wrap_i64]; omega
  have hneg : ¬ ((m : Int) < 0) := by omega
  have h48i : ¬ (281474976710656 < (m : Int)) := by omega
  rcases Nat.eq_zero_or_pos m with h0 | h0
  · subst h0
    refine ⟨.slice (some ⟨w.heap.size, 0, none⟩) 1 1, w.alloc (.cells #[.int .u8 128] 5), ?_, by simpa using out_one w 128⟩
    simp [Builtin.append_, run_underlying Tryz.underlying22, run_underlying Tryz.underlying60, sizeOf, typeInfo, hi5, hz2, asInt, asIntOf, storeCells, IntKind.wrap_i64]
  · have hn : ¬ (m = 0) := by omega
    have hneed : ¬ (1 + m ≤ 1) := by omega
    have h63' : ¬ (9223372036854775807 < ((1 : Int) + (m : Int))) := by omega
    have h48' : ¬ (281474976710656 < Builtin.nextslicecap (1 + m) 1) := by
      have := nextslicecap_le (need := 1 + m) (old := 1) (by omega)
      omega
    have hold := run_firstCells_some (P := Tryz.prog) (w.alloc (.cells #[.int .u8 128] 5)).drew 1 1 ⟨w.heap.size, 0, none⟩ 1 1 [.int .u8 128] rfl (fun j v hv => by
      rcases j with _ | j
      · simp at hv
        subst hv
        rw [Addr.add_lit]
        exact cell_of_row _ w.heap.size _ #[.int .u8 128] 5 (0, 0) (by show (w.alloc (.cells #[.int .u8 128] 5)).heap[w.heap.size]? = _; exact heap_alloc_new w _)
      · simp at hv)
    have hge := grownCap_ge (w.alloc (.cells #[.int .u8 128] 5)) (1 + m) 1 5
    have hcm := grownCap_le_maxLen (w.alloc (.cells #[.int .u8 128] 5)) (1 + m) 1 5 (by unfold maxLen; omega)
    refine ⟨.slice (some ⟨(w.alloc (.cells #[.int .u8 128] 5)).heap.size, 0, none⟩) (1 + m) (grownCap (w.alloc (.cells #[.int .u8 128] 5)) (1 + m) 1 5),
      (w.alloc (.cells #[.int .u8 128] 5)).drew.alloc (.cells (#[.int .u8 128] ++ Builtin.zeroCells #[.int .u8 0] m ++ Builtin.zeroCells #[.int .u8 0] (grownCap (w.alloc (.cells #[.int .u8 128] 5)) (1 + m) 1 5 - (1 + m))) 5), ?_, ?_, ?_⟩
    · simp [Builtin.append_, run_underlying Tryz.underlying22, run_underlying Tryz.underlying60, sizeOf, typeInfo, zeroValue, hi5, hz0, hz1, hz2, asInt, asIntOf, hw, hn, hneg, h48i, hneed, h63', h48', Question.forced, hold, newRow, grownCap]
      rfl
    · have hl : ([128] ++ List.replicate m (0 : Int)).length = 1 + m := by simp; omega
      refine ⟨by rw [hl]; simp; omega, .inr ⟨_, _, _, by rw [hl]; rfl, by simp, heap_alloc_new _ _, by rw [hl]; exact hge, hcm, ?_, ?_⟩⟩
      · rw [← Array.length_toList, Array.toList_append, Array.toList_append, zeros_list, zeros_list]
        simp
        omega
      · rw [Array.toList_append, Array.toList_append, zeros_list, zeros_list, hl]
        simp only [List.map_append, List.map_replicate, List.map_cons, List.map_nil]
        rw [List.take_append_of_le_length (by simp; omega), List.take_of_length_le (by simp; omega)]
    · exact (((Below.refl _ _).alloc (Nat.le_refl _) _).drew).alloc (by simp) _
theorem zeros_op {ops : Array Oper} {rest : List Oper} {o : Oper} {a : Act} {Q : Exit → Act → World → Prop} {w : World} (m : Nat) (hm : m ≤ 64) (hgd : o.guard = none) (s x : Operand)
    (hop : o.op = .call { callee := .builtin .append, args := #[s, x], argTypes := #[22, 60] }) (hs : a.eval s = .slice (some ⟨w.heap.size, 0, none⟩) 1 1) (hx : a.eval x = .int .u64 (m : Int))
    (h : ∀ V' w', Out w w' V' ([128] ++ List.replicate m 0) → wpList Tryz.prog ops Q rest (a.put o.dst V') w') : wpList Tryz.prog ops Q (o :: rest) a (w.alloc (.cells #[.int .u8 128] 5)) := by
  obtain ⟨V', w', hr, ho⟩ := run_zeros w m hm o.type
  exact Lib.wpList_append_run _ hgd s x _ _ hop _ _ hs hx V' w' hr (h V' w' ho)
def padZ (n : Nat) : List Int := [128] ++ List.replicate (padN n) 0 ++ beZ 8 (8 * (n : Int))
theorem fill_is (zs : List Int) : fillZ zs = zs ++ padZ zs.length := by
  unfold fillZ padZ
  simp only [List.append_assoc]
set_option maxHeartbeats 500000 in
set_option maxRecDepth 100000 in
theorem padding_any (n : Nat) (w : World) (hn : n ≤ 1000000) : Calls Tryz.prog 114 #[.int .u64 (n : Int)] w (GivesNew (padZ n) w) := by
  have hz : IntKind.u64.wrap (55 - (n : Int)) = 55 - (n : Int) ∨ IntKind.u64.wrap (55 - (n : Int)) = 18446744073709551616 + (55 - (n : Int)) := by
    rw [IntKind.wrap_u64]
    omega
  have hp : IntKind.u64.wrap (55 - (n : Int)) % 64 = ((padN n : Nat) : Int) := by
    unfold padN
    omega
  have hw0 : 0 ≤ IntKind.u64.wrap (55 - (n : Int)) := by
    rw [IntKind.wrap_u64]
    omega
  have htm : (IntKind.u64.wrap (55 - (n : Int))).tmod 64 = ((padN n : Nat) : Int) := by
    rw [Int.tmod_eq_emod_of_nonneg hw0]
    exact hp
  have hpl := pad_le n
  have F : Hid (padZ n = [128] ++ List.replicate (padN n) 0 ++ beZ 8 (8 * (n : Int))) := Lib.hid rfl
  have LL : Hid (([128] ++ List.replicate (padN n) (0 : Int)).length + 8 ≤ 1000000) := Lib.hid (by simp; omega)
  have w8 : IntKind.u64.wrap (8 * (n : Int)) = 8 * (n : Int) := IntWalk.u64_in _ (by omega)
  have h8 : (8 * (n : Int)) / 256 ^ 8 = 0 := by
    rw [show (256 : Int) ^ 8 = 18446744073709551616 by rfl]; omega
  have CB := Lib.hid (fun W => bytes_ok (8 * (n : Int)) 8 8 W rfl (by omega) (by omega) (by omega) h8)
  clear hz h8
  generalize padN n = m at *
  go_enter Tryz.func114, Tryz.ntmps114
  go_wp2_with (at_builtin; go_must (refine zeros_op (w := w) m (by omega) rfl _ _ rfl rfl rfl ?_; intro V1 w1 ho1; have O1 := Lib.hid ho1; clear ho1))
  clear htm hp hw0
  have hL : Hid (([128] ++ List.replicate m (0 : Int)).length + 8 ≤ 1000000) := LL
  generalize ([128] ++ List.replicate m (0 : Int)) = L at *
  generalize hB : beZ 8 (8 * (n : Int)) = B8 at *
  have BB : Hid (∀ x ∈ B8, 0 ≤ x ∧ x ≤ 255) := by rw [← hB]; exact Lib.hid (beZ_byte 8 _)
  clear hB
  refine (CB.out _).mono ?_
  rintro e w5 ⟨a5, c5, rfl, hr5, hb5, hc5⟩
  have O5 := Lib.hid (O1.out.below hb5)
  have R5 := Lib.hid hr5
  have N5 : Hid (a5 = none → c5 = 0) := by
    obtain ⟨b, off, e, _⟩ := hr5.2.2 (by omega)
    exact Lib.hid (fun h => by rw [e] at h; cases h)
  clear hr5 hb5 O1 CB
  go_wp2_with (at_builtin; go_must (refine out_append (W0 := w) (L := L) (zs := B8) rfl _ _ rfl rfl O5.out rfl R5.out N5.out hL.out ?_; intro V4 w4 ho4; have O4 := Lib.hid ho4; clear ho4))
  go_ret
  rw [F.out]
  exact ⟨V4, rfl, O4.out⟩
end Go.Proofs.YtgmefdmeeihgoaaGreatDoor
namespace Go.Proofs.YtgmefdmeeihgoaaGreatDoor
open Go.RowKit
set_option linter.unusedVariables false
def hcells (s : V8) (m : Int) (rs : List Int) : Array Value := (s.cells.toList ++ (Value.int .u64 m :: rs.map (Value.int .u8))).toArray
theorem hcells_size (s : V8) (m : Int) (rs : List Int) (h : rs.length = 64) : (hcells s m rs).size = 73 := by
  unfold hcells
  simp [h, V8.cells]
theorem hcells_many (s : V8) (m : Int) (rs : List Int) : (hcells s m rs)[8]? = some (.int .u64 m) := rfl
theorem hcells_word (s : V8) (m : Int) (rs : List Int) (j : Nat) (v : Value) (h : s.cells.toList[j]? = some v) : (hcells s m rs)[j]? = some v := by
  unfold hcells
  have hj : j < s.cells.toList.length := (List.getElem?_eq_some_iff.1 h).1
  rw [List.getElem?_toArray, List.getElem?_append_left hj]
  exact h
theorem hcells_rest (s : V8) (m : Int) (rs : List Int) (j : Nat) (h : j < rs.length) : (hcells s m rs)[9 + j]? = some (.int .u8 (rs[j]?.getD 0)) := by
  unfold hcells
  rw [List.getElem?_toArray, List.getElem?_append_right (by simp [V8.cells]; omega), show 9 + j - s.cells.toList.length = j + 1 by simp [V8.cells]; omega, List.getElem?_cons_succ, List.getElem?_map, List.getElem?_eq_getElem h]
  rfl
theorem hcells_setMany (s : V8) (m m' : Int) (rs : List Int) : (hcells s m rs).setIfInBounds 8 (.int .u64 m') = hcells s m' rs := rfl
theorem hcells_setWords (s s' : V8) (m : Int) (rs : List Int) : ((hcells s m rs).toList.take 0 ++ s'.cells.toList ++ (hcells s m rs).toList.drop (0 + s'.cells.toList.length)).toArray = hcells s' m rs := by
  unfold hcells
  simp [V8.cells]
theorem hcells_setRest (s : V8) (m : Int) (rs cs : List Int) (k : Nat) (h : k + cs.length ≤ rs.length) : (splice (hcells s m rs).toList (9 + k) (cs.map (Value.int .u8))).toArray = hcells s m (rs.take k ++ cs ++ rs.drop (k + cs.length)) := by
  unfold splice hcells
  have e : s.cells.toList.length = 8 := by simp [V8.cells]
  apply Array.ext'
  simp only [List.map_append, List.map_take, List.map_drop, List.length_map]
  rw [List.take_append, List.drop_append, e, show 9 + k - 8 = k + 1 by omega, show 9 + k + cs.length - 8 = (k + cs.length) + 1 by omega, List.take_succ_cons, List.drop_succ_cons, List.take_of_length_le (by omega), List.drop_of_length_le (by omega)]
  simp [List.append_assoc]
def HBlk (w : World) (g : Nat) (s : V8) (m : Int) (rs : List Int) : Prop := Blk w g 120 (hcells s m rs)
theorem HBlk.row {w : World} {g : Nat} {s : V8} {m : Int} {rs : List Int} (h : HBlk w g s m rs) (hl : rs.length = 64) (hb : ∀ x ∈ rs, 0 ≤ x ∧ x ≤ 255) : Row w (some ⟨g, 9, none⟩) 64 rs :=
  ⟨hl, hb, fun _ => ⟨g, 9, rfl, Blk.lt h, fun i hi => (Blk.cell h (9 + i)).trans (hcells_rest s m rs i (by omega))⟩⟩
theorem HBlk.range {w : World} {g : Nat} {s : V8} {m : Int} {rs : List Int} (h : HBlk w g s m rs) : w.rangeAt g 0 s.cells.toList := by
  intro j v hj
  rw [Nat.zero_add, Blk.cell h j]
  exact hcells_word s m rs j v hj
def Holds (w : World) (g : Nat) (L : List Int) : Prop :=
  ∃ rs : List Int, rs.length = 64 ∧ (∀ x ∈ rs, 0 ≤ x ∧ x ≤ 255) ∧ rs.take (L.length % 64) = L.drop (64 * (L.length / 64)) ∧ HBlk w g (runV (L.length / 64) H0 L) (L.length : Int) rs
theorem Holds.kept {w w' : World} {g : Nat} {L : List Int} (h : Holds w g L) (hb : w'.heap[g]? = w.heap[g]?) : Holds w' g L := by
  obtain ⟨rs, h1, h2, h3, h4⟩ := h
  exact ⟨rs, h1, h2, h3, hb.trans h4⟩
theorem Holds.lt {w : World} {g : Nat} {L : List Int} (h : Holds w g L) : g < w.heap.size := by
  obtain ⟨rs, h1, h2, h3, h4⟩ := h
  exact Blk.lt h4
theorem Holds.below {w w' : World} {g : Nat} {L : List Int} (h : Holds w g L) (hb : Below w.heap.size w w') : Holds w' g L := h.kept (hb.block g h.lt)
theorem ok_run (k : Nat) : ∀ {s : V8} (l : List Int), s.ok → (runV k s l).ok := by
  induction k with
  | zero => intro s l h; exact h
  | succ k ih => intro s l h; exact ih _ (ok_block _ _)
def NewHash : Array Value := hcells H0 0 (List.replicate 64 0)
set_option maxHeartbeats 500000 in
set_option maxRecDepth 100000 in
theorem new_any (w : World) (ht : Tab w) : Calls Tryz.prog 81 #[] w fun e w' => e = .returned (.pointer (some ⟨w.heap.size, 0, none⟩)) ∧ w' = w.alloc (.cells NewHash 120) := by
  obtain ⟨tt, fr, hg⟩ := ht.2.1
  have HG := Lib.hid hg
  clear hg ht
  go_enter Tryz.func81, Tryz.ntmps81
  go_wp2_with (first
    | (refine wpList_load_row rfl 117 (.global 0) rfl 0 rfl tt H0.cells fr (.array 8 23) HG.out Tryz.underlying117 rfl (Tryz.size41 _) ?_)
    | (refine wpList_buildTo rfl 120 #[(0, .tmp 1)] rfl (some 2) rfl NewHash (by kernel_rfl) ?_)
    | (refine Great.wpList_boxTo rfl 120 (.tmp 2) rfl (some 3) rfl w.heap.size rfl NewHash rfl ?_))
  go_ret
  exact ⟨rfl, rfl⟩
theorem new_holds (w : World) : Holds (w.alloc (.cells NewHash 120)) w.heap.size [] :=
  ⟨List.replicate 64 0, by simp, by intro x hx; have := List.eq_of_mem_replicate hx; omega, rfl, Blk.new w _ _⟩
end Go.Proofs.YtgmefdmeeihgoaaGreatDoor
namespace Go.Proofs.YtgmefdmeeihgoaaGreatDoor
open Go.RowKit
set_option linter.unusedVariables false
theorem runV_pre (j : Nat) : ∀ (s : V8) (l1 l2 : List Int), 64 * j ≤ l1.length → runV j s (l1 ++ l2) = runV j s l1 := by
  induction j with
  | zero => intro s l1 l2 h; rfl
  | succ j ih =>
    intro s l1 l2 h
    rw [runV, runV, List.take_append_of_le_length (by omega), List.drop_append_of_le_length (by omega)]
    exact ih _ _ _ (by rw [List.length_drop]; omega)
theorem runV_last (j : Nat) : ∀ (s : V8) (l : List Int), runV (j + 1) s l = blockV (runV j s l) ((l.drop (64 * j)).take 64) := by
  induction j with
  | zero => intro s l; rfl
  | succ j ih =>
    intro s l
    rw [runV, ih, runV, List.drop_drop, show 64 + 64 * j = 64 * (j + 1) by omega]
theorem drop_next (l : List Int) (j : Nat) : (l.drop (64 * j)).drop 64 = l.drop (64 * (j + 1)) := by
  rw [List.drop_drop, show 64 * j + 64 = 64 * (j + 1) by omega]
theorem rest_short {L zs rs : List Int} (h64 : rs.length = 64) (hr : rs.take (L.length % 64) = L.drop (64 * (L.length / 64))) (hs : L.length % 64 + zs.length < 64) :
    (L ++ zs).length / 64 = L.length / 64 ∧ (L ++ zs).length % 64 = L.length % 64 + zs.length ∧
    (rs.take (L.length % 64) ++ zs ++ rs.drop (L.length % 64 + zs.length)).take ((L ++ zs).length % 64) = (L ++ zs).drop (64 * ((L ++ zs).length / 64)) ∧
    (rs.take (L.length % 64) ++ zs ++ rs.drop (L.length % 64 + zs.length)).length = 64 := by
  have e1 : (L ++ zs).length / 64 = L.length / 64 := by rw [List.length_append]; omega
  have e2 : (L ++ zs).length % 64 = L.length % 64 + zs.length := by rw [List.length_append]; omega
  refine ⟨e1, e2, ?_, ?_⟩
  · have hl : (rs.take (L.length % 64) ++ zs).length = L.length % 64 + zs.length := by rw [List.length_append, List.length_take]; omega
    rw [e1, e2, ← hl, List.take_left, hr, List.drop_append_of_le_length (by omega)]
  · simp only [List.length_append, List.length_take, List.length_drop]
    omega
theorem rest_full {L zs rs : List Int} (h64 : rs.length = 64) (hr : rs.take (L.length % 64) = L.drop (64 * (L.length / 64))) (hs : 64 ≤ L.length % 64 + zs.length) :
    rs.take (L.length % 64) ++ zs.take (64 - L.length % 64) ++ rs.drop (L.length % 64 + (zs.take (64 - L.length % 64)).length) = ((L ++ zs).drop (64 * (L.length / 64))).take 64 ∧
    runV (L.length / 64 + 1) H0 (L ++ zs) = blockV (runV (L.length / 64) H0 L) (rs.take (L.length % 64) ++ zs.take (64 - L.length % 64) ++ rs.drop (L.length % 64 + (zs.take (64 - L.length % 64)).length)) ∧
    zs.drop (64 - L.length % 64) = (L ++ zs).drop (64 * (L.length / 64 + 1)) ∧
    (rs.take (L.length % 64) ++ zs.take (64 - L.length % 64) ++ rs.drop (L.length % 64 + (zs.take (64 - L.length % 64)).length)).length = 64 := by
  have hlz : (zs.take (64 - L.length % 64)).length = 64 - L.length % 64 := by rw [List.length_take]; omega
  have hd : rs.drop (L.length % 64 + (zs.take (64 - L.length % 64)).length) = [] := List.drop_of_length_le (by omega)
  have hll : (L.drop (64 * (L.length / 64))).length = L.length % 64 := by rw [List.length_drop]; omega
  have e1 : rs.take (L.length % 64) ++ zs.take (64 - L.length % 64) ++ rs.drop (L.length % 64 + (zs.take (64 - L.length % 64)).length) = ((L ++ zs).drop (64 * (L.length / 64))).take 64 := by
    rw [hd, List.append_nil, hr, List.drop_append_of_le_length (by omega), List.take_append, hll, List.take_of_length_le (l := L.drop (64 * (L.length / 64))) (by omega)]
  refine ⟨e1, ?_, ?_, ?_⟩
  · rw [e1, runV_last, runV_pre _ _ _ _ (by omega)]
  · have : 64 * (L.length / 64 + 1) = L.length + (64 - L.length % 64) := by omega
    rw [this, List.drop_length_add_append]
  · rw [hd]
    simp only [List.length_append, List.length_take, List.length_nil]
    omega
theorem rest_end {T rs : List Int} {j n : Nat} (h64 : rs.length = 64) (hj : 64 * j + n = T.length) (hn : n < 64) :
    T.length / 64 = j ∧ T.length % 64 = n ∧ (rs.take 0 ++ T.drop (64 * j) ++ rs.drop (0 + (T.drop (64 * j)).length)).take (T.length % 64) = T.drop (64 * (T.length / 64)) ∧ (rs.take 0 ++ T.drop (64 * j) ++ rs.drop (0 + (T.drop (64 * j)).length)).length = 64 := by
  have e1 : T.length / 64 = j := by omega
  have e2 : T.length % 64 = n := by omega
  have hl : (T.drop (64 * j)).length = n := by rw [List.length_drop]; omega
  refine ⟨e1, e2, ?_, ?_⟩
  · rw [e1, e2, List.take_zero, List.nil_append]
    have := hl
    rw [List.take_append_of_le_length (by omega), List.take_of_length_le (by omega)]
  · simp only [List.length_append, List.length_drop, List.take_zero, List.length_nil]
    omega
theorem Tryz.sizeU8H : (Tryz.prog.info? 5).map (·.size) = some 1 := by kernel_rfl
theorem u8_one (cs : List Int) : ∀ v ∈ cs.map (Value.int .u8), v.oneCell' = true := by
  intro v hv
  obtain ⟨_, _, rfl⟩ := List.mem_map.1 hv
  rfl
theorem grown_setRow (w : World) (g : Nat) (cs : Array Value) : w.grownBy (w.setRow g cs) (some g) :=
  ⟨rfl, rfl, rfl, by simp [World.setRow], fun k _ hk => setRow_other w g k _ (fun e => hk (by simp [e]))⟩
theorem copy_part {ops : Array Oper} {rest : List Oper} {o : Oper} {a : Act} {Q : Exit → Act → World → Prop} {w : World} (hgd : o.guard = none) (d s : Operand) (hop : o.op = .call { callee := .builtin .copy, args := #[d, s], argTypes := #[22, 22] })
    (g off dLen dCap : Nat) (sp : Option Addr) (sLen sCap : Nat) (hd : a.eval d = .slice (some ⟨g, off, none⟩) dLen dCap) (hs : a.eval s = .slice sp sLen sCap)
    (cur : Array Value) (t : TypeId) (hg : Blk w g t cur) (cs : List Int) (hn : cs.length = Nat.min sLen dLen) (hsrc : 0 < cs.length → ∃ ad, sp = some ad ∧ ∀ j v, (cs.map (Value.int .u8))[j]? = some v → w.cell? (ad.add j) = some v) (hfit : off + cs.length ≤ cur.size)
    (h : ∀ w', Blk w' g t (splice cur.toList off (cs.map (Value.int .u8))).toArray → w.grownBy w' (some g) → wpList Tryz.prog ops Q rest (a.put o.dst (.int .i64 (cs.length : Int))) w') : wpList Tryz.prog ops Q (o :: rest) a w := by
  by_cases h0 : cs.length = 0
  · obtain rfl : cs = [] := List.eq_nil_of_length_eq_zero h0
    refine wpList_copy_nothing hgd d s 22 22 hop 5 Tryz.underlying22 Tryz.sizeU8H _ sp dLen dCap sLen sCap hd hs (by simpa using hn.symm) ?_
    refine h w ?_ (World.grownBy.refl w _)
    have : (splice cur.toList off (([] : List Int).map (Value.int .u8))).toArray = cur := by simp [splice]
    rw [this]
    exact hg
  · obtain ⟨ad, rfl, hsrc'⟩ := hsrc (by omega)
    refine wpList_copy_own hgd d s 22 22 hop 5 Tryz.underlying22 Tryz.sizeU8H g off dLen dCap ad sLen sCap hd hs cur t hg (cs.map (Value.int .u8)) (by rw [List.length_map]; exact hn) hsrc' (by rw [List.length_map]; exact hfit) (u8_one cs) ?_
    rw [List.length_map]
    refine h _ ?_ (grown_setRow w g _)
    have := setRow_heap w g cur (cur.toList.take off ++ (cs.map (Value.int .u8) ++ cur.toList.drop (off + cs.length))).toArray t (0, 0) hg
    unfold Blk splice
    rw [List.length_map]
    exact this
theorem wp_store_part {P : Program} {o : Oper} {a : Act} {w : World} {K : Act → World → Prop} {Q : Exit → Act → World → Prop} (ty : TypeId) (x y : Operand) (ho : o.op = .store ty x y) (hd : o.dst = none)
    (g off : Nat) (cells : Array Value) (hx : a.eval x = .pointer (some ⟨g, off, none⟩)) (hy : a.eval y = .agg cells) (t : TypeId) (cur : Array Value) (hg : Blk w g t cur)
    (hfit : off + cells.size ≤ cur.size) (hi : (P.info? ty).map (·.size) = some cells.size) (h1 : cells.all (·.oneCell') = true)
    (h : K a (w.setRow g (cur.toList.take off ++ cells.toList ++ cur.toList.drop (off + cells.toList.length)).toArray)) : o.wp P a w K Q := by
  have hst := run_storeCells_at P g off t cells.toList 0 cur w hg (by simpa using hfit) (fun v hv => (Array.all_eq_true_iff_forall_mem.1 h1) v (by simpa using hv))
  simp only [Nat.add_zero] at hst
  have hv : (storeVar ty ⟨g, off, none⟩ (.agg cells)).run P w = .ok () (w.setRow g (cur.toList.take off ++ cells.toList ++ cur.toList.drop (off + cells.toList.length)).toArray) := by
    cases hq : P.info? ty with
    | none => simp [hq] at hi
    | some i =>
      have hs : cells.size = i.size := by simp [hq] at hi; omega
      simp [storeVar, sizeOf, typeInfo, hq, Value.cells, hs]
      simpa [hs] using hst
  unfold Oper.wp execOp
  simp only [ho, hx, hy, Instr.storeAt, Instr.sureAddr, Sem.run_bind, Sem.run_pure, Result.andThen_ok, hv]
  show K (a.put o.dst undef) _
  rw [hd]
  exact h
theorem Row.grown {w w' : World} {a : Option Addr} {n g : Nat} {zs : List Int} (h : Row w a n zs) (hg : w.grownBy w' (some g)) (hne : 0 < n → ∃ b off, a = some ⟨b, off, none⟩ ∧ b ≠ g) : Row w' a n zs := by
  refine ⟨h.1, h.2.1, fun h0 => ?_⟩
  obtain ⟨b, off, e, hb, hc⟩ := h.2.2 h0
  obtain ⟨b', off', e', hne'⟩ := hne h0
  rw [e] at e'
  obtain ⟨rfl, rfl⟩ : b = b' ∧ off = off' := by simpa using e'
  exact ⟨b, off, e, Nat.lt_of_lt_of_le hb hg.size, fun i hi => (hg.cell (hc i hi) (by intro e; exact hne' (by simpa using e)))⟩
theorem Tab.grown {w w' : World} {g : Nat} (h : Tab w) (hg : w.grownBy w' (some g)) (h2 : 2 ≤ g) : Tab w' := by
  obtain ⟨h0, ⟨t0, f0, k0⟩, t1, f1, k1⟩ := h
  exact ⟨Nat.le_trans h0 hg.size, ⟨t0, f0, (hg.block 0 (by omega) (by simp; omega)).trans k0⟩, t1, f1, (hg.block 1 (by omega) (by simp; omega)).trans k1⟩
theorem grown_belowH {a w w' : World} {g : Nat} (h : a.grownBy w (some g)) (hb : Below w.heap.size w w') : a.grownBy w' (some g) :=
  ⟨hb.os.trans h.os, hb.tape.trans h.tape, hb.output.trans h.output, Nat.le_trans h.size hb.size, fun k hk hne => (hb.block k (Nat.lt_of_lt_of_le hk h.size)).trans (h.block k hk hne)⟩
theorem grown_setH (w : World) (g i : Nat) (v : Value) : w.grownBy (w.setCell ⟨g, i, none⟩ v) (some g) :=
  ⟨rfl, rfl, rfl, by simp, fun k hk hne => heap_setCell_other w ⟨g, i, none⟩ k v (fun e => hne (by simp [e]))⟩
end Go.Proofs.YtgmefdmeeihgoaaGreatDoor
namespace Go.Proofs.YtgmefdmeeihgoaaGreatDoor
open Go.RowKit
set_option linter.unusedVariables false
def InLoop (w wr : World) (g : Nat) (T : List Int) (j : Nat) : Prop :=
  ∃ rs : List Int, rs.length = 64 ∧ (∀ x ∈ rs, 0 ≤ x ∧ x ≤ 255) ∧ HBlk wr g (runV j H0 T) (T.length : Int) rs ∧ w.grownBy wr (some g) ∧ Tab wr
def ApartH (w : World) (g : Nat) (a : Option Addr) (n : Nat) (zs : List Int) : Prop := Row w a n zs ∧ (0 < n → ∃ b off, a = some ⟨b, off, none⟩ ∧ b ≠ g)
theorem ApartH.grown {w w' : World} {g : Nat} {a : Option Addr} {n : Nat} {zs : List Int} (h : ApartH w g a n zs) (hg : w.grownBy w' (some g)) : ApartH w' g a n zs := ⟨h.1.grown hg h.2, h.2⟩
theorem ApartH.first {w : World} {g : Nat} {a : Option Addr} {n : Nat} {zs : List Int} (h : ApartH w g a n zs) (k : Nat) (hk : k ≤ n) : ApartH w g a k (zs.take k) := ⟨h.1.first k hk, fun h0 => h.2 (by omega)⟩
theorem ApartH.rest {w : World} {g : Nat} {a : Option Addr} {n : Nat} {zs : List Int} (h : ApartH w g a n zs) (k c : Nat) (hk : k ≤ n) (hc : n ≤ c) : ApartH w g (if c = k then a else a.map (·.add k)) (n - k) (zs.drop k) := by
  refine ⟨h.1.rest k c hk hc, fun h0 => ?_⟩
  obtain ⟨b, off, rfl, hne⟩ := h.2 (by omega)
  rw [if_neg (by omega)]
  exact ⟨b, off + k, by rw [Option.map_some, Addr.add_lit], hne⟩
def Wrote (w : World) (g : Nat) (T : List Int) (e : Ending) (w' : World) : Prop := e = .returned (.tuple #[]) ∧ Holds w' g T ∧ w.grownBy w' (some g)
theorem hblk_many {w : World} {g : Nat} {s : V8} {m : Int} {rs : List Int} (h : HBlk w g s m rs) (m' : Int) : HBlk (w.setCell ⟨g, 8, none⟩ (.int .u64 m')) g s m' rs := by
  have := Blk.set h 8 (.int .u64 m')
  rw [hcells_setMany] at this
  exact this
theorem byte_mem {rs zs : List Int} {i k l : Nat} (h1 : ∀ x ∈ rs, 0 ≤ x ∧ x ≤ 255) (h2 : ∀ x ∈ zs, 0 ≤ x ∧ x ≤ 255) : ∀ x ∈ rs.take i ++ zs ++ rs.drop l, 0 ≤ x ∧ x ≤ 255 := by
  intro x hx
  rcases List.mem_append.1 hx with hx | hx
  · rcases List.mem_append.1 hx with hx | hx
    · exact h1 x (List.mem_of_mem_take hx)
    · exact h2 x hx
  · exact h1 x (List.mem_of_mem_drop hx)
set_option maxHeartbeats 1000000 in
set_option maxRecDepth 100000 in
theorem hwrite_any (g : Nat) (L : List Int) (a : Option Addr) (n ca : Nat) (zs : List Int) (w : World) (hh : Holds w g L) (hg2 : 2 ≤ g) (hr : ApartH w g a n zs) (hca : n ≤ ca) (ht : Tab w) (hl : L.length + n ≤ 1000000) :
    Calls Tryz.prog 82 #[.pointer (some ⟨g, 0, none⟩), .slice a n ca] w (Wrote w g (L ++ zs)) := by
  obtain ⟨rs, h64, hrb, hrt, hblk⟩ := hh
  have hzn := hr.1.1
  have HR := Lib.hid hr
  have HB := Lib.hid hblk
  have HB1 := Lib.hid (hblk_many hblk ((L.length : Int) + n))
  have HRT := Lib.hid hrt
  have HRB := Lib.hid hrb
  have TA := Lib.hid ht
  have c8 := (Blk.cell hblk 8).trans (hcells_many _ _ _)
  have f8 := Blk.free hblk 8
  have G1 := Lib.hid (grown_setH w g 8 (.int .u64 ((L.length : Int) + n)))
  have TL : (L ++ zs).length = L.length + n := by rw [List.length_append, hzn]
  have RS := Lib.hid (fun h => rest_short (L := L) (zs := zs) h64 hrt h)
  have RF := Lib.hid (fun h => rest_full (L := L) (zs := zs) h64 hrt h)
  have PE := Lib.hid (fun (h : L.length % 64 = 0) => (runV_pre (L.length / 64) H0 L zs (by omega)))
  have PD := Lib.hid (fun (h : L.length % 64 = 0) => (show (L ++ zs).drop (64 * (L.length / 64)) = zs from by rw [show 64 * (L.length / 64) = L.length by omega, List.drop_left]))
  have LD := Lib.hid (show 64 * (L.length / 64) + L.length % 64 = L.length from by omega)
  have h64' : L.length % 64 < 64 := by omega
  generalize hhe : L.length % 64 = h at *
  generalize hqe : L.length / 64 = q at *
  have HH := Lib.hid hhe
  have HQ := Lib.hid hqe
  have e1 : ((L.length : Int)).tmod 64 = (h : Int) := by
    rw [Int.tmod_eq_emod_of_nonneg (by omega)]
    omega
  have k1 : IntKind.i64.wrap (h : Int) = (h : Int) := IntWalk.i64_in _ (by omega)
  have k2 : IntKind.u64.wrap (n : Int) = (n : Int) := IntWalk.u64_in _ (by omega)
  have k3 : IntKind.u64.wrap ((L.length : Int) + (n : Int)) = (L.length : Int) + (n : Int) := IntWalk.u64_in _ (by omega)
  have hi64 : (h : Int) ≤ 64 := by omega
  have hne : ¬ 64 = h := by omega
  generalize hT : L ++ zs = T at *
  have HT := Lib.hid hT
  clear hblk hrt ht hr hrb hhe hqe hT
  by_cases h0 : h = 0
  case' pos =>
    subst h0
    have IL : Hid (InLoop w (w.setCell ⟨g, 8, none⟩ (.int .u64 ((L.length : Int) + n))) g T q) := by
      refine Lib.hid ⟨rs, h64, HRB.out, ?_, G1.out, TA.out.grown G1.out hg2⟩
      rw [PE.out rfl, TL, Int.natCast_add]
      exact HB1.out
    have AP := HR.out.grown G1.out
    have HAP : Hid (ApartH (w.setCell ⟨g, 8, none⟩ (.int .u64 ((L.length : Int) + n))) g a n (T.drop (64 * q))) := by
      rw [PD.out rfl]
      exact Lib.hid AP
    have JN : 64 * q + n = T.length := by have := LD.out; omega
    have NC : n ≤ ca := hca
    clear AP HB1 HB PE PD RS RF HR
    go_enter Tryz.func82, Tryz.ntmps82
    go_wp2_with fail
    generalize w.setCell ⟨g, 8, none⟩ (.int .u64 ((L.length : Int) + n)) = w4 at *
  case' neg => 
    have t0 : decide ((0 : Int) < (h : Int)) = true := by simp; omega
    have hb1 := hcells_size (runV q H0 L) ((L.length : Int) + n) rs h64
    by_cases hs : h + n < 64
    case pos =>
      have t1 : decide ((h : Int) + (n : Int) < 64) = true := by simp; omega
      have k4 : IntKind.i64.wrap ((h : Int) + (n : Int)) = (h : Int) + (n : Int) := IntWalk.i64_in _ (by omega)
      have CS : Hid (0 < zs.length → ∃ ad, a = some ad ∧ ∀ j v, (zs.map (Value.int .u8))[j]? = some v → (w.setCell ⟨g, 8, none⟩ (.int .u64 ((L.length : Int) + n))).cell? (ad.add j) = some v) := Lib.hid (fun hz => by
        obtain ⟨b, off, e, _⟩ := HR.out.2 (by omega)
        subst e
        exact ⟨_, rfl, (HR.out.grown G1.out).1.cells⟩)
      obtain ⟨s1, s2, s3, s4⟩ := RS.out (by omega)
      have S1 := Lib.hid s1
      have S3 := Lib.hid s3
      have S4 := Lib.hid s4
      have SR := Lib.hid (hcells_setRest (runV q H0 L) ((L.length : Int) + n) rs zs h (by omega))
      have MN : Hid (zs.length = Nat.min n (64 - h)) := Lib.hid (by rw [hzn]; exact (Nat.min_eq_left (by omega)).symm)
      have BM := Lib.hid (byte_mem (i := h) (k := 0) (l := h + zs.length) HRB.out HR.out.1.2.1)
      have PE1 := Lib.hid (fun (hh : 64 * q ≤ L.length) => (runV_pre q H0 L zs hh).trans (by rfl))
      rw [HT.out] at PE1
      clear s1 s2 s3 s4 RS RF PE PD HB
      go_enter Tryz.func82, Tryz.ntmps82
      go_wp2_with (refine copy_part rfl _ _ rfl g (9 + h) (64 - h) (64 - h) a n ca rfl rfl (hcells (runV q H0 L) ((L.length : Int) + n) rs) 120 HB1.out zs MN.out CS.out (by omega) ?_; intro w2 hb2 hg2'; have HB2 := Lib.hid hb2; have G2 := Lib.hid (World.grownBy.trans G1.out hg2'); clear hb2 hg2'; rw [hzn])
      go_end0
      refine ⟨rfl, ⟨_, S4.out, BM.out, S3.out, ?_⟩, G2.out⟩
      rw [S1.out, PE1.out (by have := LD.out; omega), TL, Int.natCast_add]
      have e := HB2.out
      rw [SR.out] at e
      exact e
    case' neg =>
      have t1 : decide ((h : Int) + ((64 - h : Nat) : Int) < 64) = false := by simp; omega
      have k4 : IntKind.i64.wrap ((h : Int) + ((64 - h : Nat) : Int)) = 64 := by rw [show (h : Int) + ((64 - h : Nat) : Int) = 64 by omega]; exact IntWalk.i64_in _ (by omega)
      obtain ⟨bb, off, rfl, hbne⟩ := HR.out.2 (by omega)
      obtain ⟨s1, s2, s3, s4⟩ := RF.out (by omega)
      have SR := hcells_setRest (runV q H0 L) ((L.length : Int) + n) rs (zs.take (64 - h)) h (by rw [List.length_take]; omega)
      have BM := Lib.hid (byte_mem (i := h) (k := 0) (l := h + (zs.take (64 - h)).length) HRB.out (fun x hx => HR.out.1.2.1 x (List.mem_of_mem_take (i := 64 - h) hx)))
      have MN : (zs.take (64 - h)).length = 64 - h := by rw [List.length_take]; omega
      have CS : Hid (0 < (zs.take (64 - h)).length → ∃ ad, (some ⟨bb, off, none⟩ : Option Addr) = some ad ∧ ∀ j v, ((zs.take (64 - h)).map (Value.int .u8))[j]? = some v → (w.setCell ⟨g, 8, none⟩ (.int .u64 ((L.length : Int) + n))).cell? (ad.add j) = some v) := Lib.hid (fun hz => by
        exact ⟨_, rfl, ((HR.out.grown G1.out).1.first (64 - h) (by omega)).cells⟩)
      generalize hc1 : zs.take (64 - h) = c1 at *
      generalize hR : rs.take h ++ c1 ++ rs.drop (h + c1.length) = R at *
      have S2 := Lib.hid s2
      have S3 := Lib.hid s3
      have S4 := Lib.hid s4
      have SRR := Lib.hid SR
      have MM : Hid (c1.length = Nat.min n (64 - h)) := Lib.hid (by rw [MN]; exact (Nat.min_eq_right (by omega)).symm)
      have HMN := Lib.hid MN
      have OK := Lib.hid (ok_run q L ok_H0)
      clear s1 s2 s3 s4 RS RF PE PD HB SR hc1 hR
      have hc1l : h + c1.length = 64 := by omega
      go_enter Tryz.func82, Tryz.ntmps82
      go_wp2_with (refine copy_part rfl _ _ rfl g (9 + h) (64 - h) (64 - h) (some ⟨bb, off, none⟩) n ca rfl rfl (hcells (runV q H0 L) ((L.length : Int) + n) rs) 120 HB1.out c1 MM.out CS.out (by omega) ?_; intro w2 hb2 hg2'; have HB2 := Lib.hid hb2; have G2 := Lib.hid (World.grownBy.trans G1.out hg2'); clear hb2 hg2'; rw [HMN.out])
      have HB3 : Hid (HBlk w2 g (runV q H0 L) ((L.length : Int) + n) R) := by
        have e := HB2.out
        rw [SRR.out] at e
        exact Lib.hid e
      clear HB2 HB1 SRR
      generalize runV q H0 L = s at *
      refine wp_region_ord (fun _ _ => True) (fun _ => trivial) (fun _ _ _ _ _ => trivial) ((0, false) :: (1, false) :: (2, false) :: (3, false) :: (5, false) :: (6, false) :: (7, false) :: (8, false) :: (4, true) :: (9, true) :: (10, false) :: (11, false) :: (12, true) :: []) (by kernel_rfl) (by kernel_rfl) rfl (by kernel_rfl) (fun _ _ _ _ _ h => h) ?_
      repeat (refine ord_take _ rfl (by rfl) (fun W hW => by go_simp; first | done | rfl) ?_; simp only [Act.put, List.setIfInBounds_toArray, List.set_cons_zero, List.set_cons_succ])
      refine ord_sole rfl (by rfl) (fun K1 hK1 => ?_)
      refine wp_load_mid 117 (.tmp 38) rfl g 0 rfl s.cells.toList (.array 8 23) (show HBlk w2.drew g s ((L.length : Int) + n) R from HB3.out).range Tryz.underlying117 rfl (Tryz.size41 s) ?_
      refine hK1 _ _ trivial ?_
      clear hK1 K1
      simp only [Act.put, List.setIfInBounds_toArray, List.set_cons_zero, List.set_cons_succ]
      refine ord_sole rfl (by rfl) (fun K1 hK1 => ?_)
      go_simp
      have R2 : Hid (Row w2.drew (some ⟨g, 9, none⟩) 64 R) := Lib.hid ((show HBlk w2.drew g s ((L.length : Int) + n) R from HB3.out).row S4.out BM.out)
      have T2 : Hid (Tab w2.drew) := Lib.hid (show Tab w2 from TA.out.grown G2.out hg2)
      have WM : Hid (w.grownBy w2.drew (some g)) := Lib.hid (show w.grownBy w2.drew (some g) from { G2.out with })
      refine (after_any s OK.out (some ⟨g, 9, none⟩) 64 R w2.drew R2.out (Nat.le_refl _) T2.out).mono ?_
      rintro e w3 ⟨rfl, hb3⟩
      have HB4 : Hid (HBlk w3 g s ((L.length : Int) + n) R) := Lib.hid (Blk.below (show HBlk w2.drew g s ((L.length : Int) + n) R from HB3.out) hb3 (Blk.lt (show HBlk w2.drew g s ((L.length : Int) + n) R from HB3.out)))
      have G3 : Hid (w.grownBy w3 (some g)) := Lib.hid (grown_belowH WM.out hb3)
      refine hK1 _ _ trivial ?_
      clear hK1 K1 hb3 R2 T2 WM G2 HB3
      repeat (refine ord_take _ rfl (by rfl) (fun W hW => by go_simp; first | done | rfl) ?_; simp only [Act.put, List.setIfInBounds_toArray, List.set_cons_zero, List.set_cons_succ])
      refine ord_sole rfl (by rfl) (fun K1 hK1 => ?_)
      refine wp_store_part 117 (.tmp 46) (.tmp 44) rfl rfl g 0 (blockV s R).cells rfl rfl 120 (hcells s ((L.length : Int) + n) R) HB4.out (by rw [hcells_size _ _ _ S4.out]; show 0 + 8 ≤ 73; omega) (Tryz.size41 _) (cells_one _) ?_
      refine hK1 _ _ trivial ?_
      clear hK1 K1
      refine ord_end ?_
      have IL : Hid (InLoop w (w3.setRow g ((hcells s ((L.length : Int) + n) R).toList.take 0 ++ (blockV s R).cells.toList ++ (hcells s ((L.length : Int) + n) R).toList.drop (0 + (blockV s R).cells.toList.length)).toArray) g T (q + 1)) := by
        rw [hcells_setWords]
        have g4 := World.grownBy.trans G3.out (grown_setRow w3 g (hcells (blockV s R) ((L.length : Int) + n) R))
        refine Lib.hid ⟨R, S4.out, BM.out, ?_, g4, TA.out.grown g4 hg2⟩
        rw [S2.out, TL, Int.natCast_add]
        exact setRow_heap _ _ _ _ _ _ HB4.out
      generalize (w3.setRow g ((hcells s ((L.length : Int) + n) R).toList.take 0 ++ (blockV s R).cells.toList ++ (hcells s ((L.length : Int) + n) R).toList.drop (0 + (blockV s R).cells.toList.length)).toArray) = w4 at *
      have g4 := IL.out
      obtain ⟨_, _, _, _, g4, _⟩ := g4
      have AP := (HR.out.grown g4).rest (64 - h) ca (by omega) hca
      rw [S3.out] at AP
      obtain ⟨A1, hA1⟩ : ∃ A1 : Option Addr, (if ca = 64 - h then some (⟨bb, off, none⟩ : Addr) else some ⟨bb, off + (64 - h), none⟩) = A1 := ⟨_, rfl⟩
      rw [Option.map_some, Addr.add_lit, hA1] at AP
      have HAP := Lib.hid AP
      clear AP g4 G3 HB4 HR
      have kl : (((64 - h : Nat)) : Int) ≤ (n : Int) := by omega
      have kc : (((64 - h : Nat)) : Int) ≤ (ca : Int) := by omega
      have kn : (0 : Int) ≤ ((64 - h : Nat) : Int) := by omega
      have JN : 64 * (q + 1) + (n - (64 - h)) = T.length := by have := LD.out; omega
      have NC : n - (64 - h) ≤ ca - (64 - h) := by omega
      go_wp2_with fail
  all_goals
    go_loopw [1] (fun b wr => ∃ (j : Nat) (A : Option Addr) (m c : Nat), b = .slice A m c ∧ m ≤ c ∧ 64 * j + m = T.length ∧ InLoop w wr g T j ∧ ApartH wr g A m (T.drop (64 * j))) (fun b _ => lenS b)
    case atStart => exact ⟨_, _, _, _, rfl, NC, JN, IL.out, HAP.out⟩
    case round =>
      obtain ⟨j, A, m, c, rfl, hmc, hjm, hil, hap⟩ := hrel
      obtain ⟨ss, l64, ssb, hblk, hgr, htab⟩ := hil
      have HB := Lib.hid hblk
      have SSB := Lib.hid ssb
      have GR := Lib.hid hgr
      have TB := Lib.hid htab
      have AP := Lib.hid hap
      have OK := Lib.hid (ok_run j T ok_H0)
      clear hblk ssb hgr htab hap
      by_cases hm : 64 ≤ m
      · obtain ⟨bb, off, rfl, hbn⟩ := AP.out.2 (by omega)
        have t0 : decide ((64 : Int) ≤ (m : Int)) = true := by simp; omega
        have km : (64 : Int) ≤ (m : Int) := by omega
        have kc : (64 : Int) ≤ (c : Int) := by omega
        have RL := Lib.hid (runV_last j H0 T)
        have DN := Lib.hid (drop_next T j)
        generalize hs1 : runV (j + 1) H0 T = s1 at *
        have RS1 := Lib.hid hs1
        clear hs1
        have kc' : 64 ≤ c := by omega
        generalize runV j H0 T = s at *
        generalize T.drop (64 * j) = D at *
        go_wp2_with fail
        refine wp_region_ord (fun _ _ => True) (fun _ => trivial) (fun _ _ _ _ _ => trivial) ((0, false) :: (1, false) :: (2, false) :: (3, false) :: (5, false) :: (6, false) :: (4, true) :: (7, true) :: (8, false) :: (9, false) :: (10, true) :: []) (by kernel_rfl) (by kernel_rfl) rfl (by kernel_rfl) (fun _ _ _ _ _ h => h) ?_
        repeat (refine ord_take _ rfl (by rfl) (fun W hW => by go_simp; first | done | rfl) ?_; simp only [Act.put, List.setIfInBounds_toArray, List.set_cons_zero, List.set_cons_succ])
        refine ord_sole rfl (by rfl) (fun K1 hK1 => ?_)
        refine wp_load_mid 117 (.tmp 56) rfl g 0 rfl s.cells.toList (.array 8 23) (show HBlk wr.drew g s (T.length : Int) ss from HB.out).range Tryz.underlying117 rfl (Tryz.size41 s) ?_
        refine hK1 _ _ trivial ?_
        clear hK1 K1
        simp only [Act.put, List.setIfInBounds_toArray, List.set_cons_zero, List.set_cons_succ]
        have R2 : Hid (Row wr.drew (some ⟨bb, off, none⟩) 64 (D.take 64)) := Lib.hid ((AP.out.first 64 hm).1.drewN 1)
        have T2 : Hid (Tab wr.drew) := Lib.hid (show Tab wr.drew from TB.out)
        have WM : Hid (w.grownBy wr.drew (some g)) := Lib.hid (show w.grownBy wr.drew (some g) from { GR.out with })
        have WD : Hid (wr.grownBy wr.drew (some g)) := Lib.hid (show wr.grownBy wr.drew (some g) from { World.grownBy.refl wr (some g) with })
        refine ord_sole rfl (by rfl) (fun K1 hK1 => ?_)
        go_simp
        refine (after_any s OK.out (some ⟨bb, off, none⟩) c (D.take 64) wr.drew R2.out kc' T2.out).mono ?_
        rintro e w3 ⟨rfl, hb3⟩
        have HB4 : Hid (HBlk w3 g s (T.length : Int) ss) := Lib.hid (Blk.below (show HBlk wr.drew g s (T.length : Int) ss from HB.out) hb3 (Blk.lt (show HBlk wr.drew g s (T.length : Int) ss from HB.out)))
        have G3 : Hid (w.grownBy w3 (some g)) := Lib.hid (grown_belowH WM.out hb3)
        have D3 : Hid (wr.grownBy w3 (some g)) := Lib.hid (grown_belowH WD.out hb3)
        refine hK1 _ _ trivial ?_
        clear hK1 K1 hb3 R2 T2 WM WD HB
        repeat (refine ord_take _ rfl (by rfl) (fun W hW => by go_simp; first | done | rfl) ?_; simp only [Act.put, List.setIfInBounds_toArray, List.set_cons_zero, List.set_cons_succ])
        refine ord_sole rfl (by rfl) (fun K1 hK1 => ?_)
        refine wp_store_part 117 (.tmp 62) (.tmp 60) rfl rfl g 0 (blockV s (D.take 64)).cells rfl rfl 120 (hcells s (T.length : Int) ss) HB4.out (by rw [hcells_size _ _ _ l64]; show 0 + 8 ≤ 73; omega) (Tryz.size41 _) (cells_one _) ?_
        refine hK1 _ _ trivial ?_
        clear hK1 K1
        refine ord_end ?_
        have IL2 : Hid (InLoop w (w3.setRow g ((hcells s (T.length : Int) ss).toList.take 0 ++ (blockV s (D.take 64)).cells.toList ++ (hcells s (T.length : Int) ss).toList.drop (0 + (blockV s (D.take 64)).cells.toList.length)).toArray) g T (j + 1) ∧ wr.grownBy (w3.setRow g ((hcells s (T.length : Int) ss).toList.take 0 ++ (blockV s (D.take 64)).cells.toList ++ (hcells s (T.length : Int) ss).toList.drop (0 + (blockV s (D.take 64)).cells.toList.length)).toArray) (some g)) := by
          rw [hcells_setWords]
          have g4 := World.grownBy.trans G3.out (grown_setRow w3 g (hcells (blockV s (D.take 64)) (T.length : Int) ss))
          refine Lib.hid ⟨⟨ss, l64, SSB.out, ?_, g4, TA.out.grown g4 hg2⟩, World.grownBy.trans D3.out (grown_setRow w3 g _)⟩
          rw [RS1.out, RL.out]
          exact setRow_heap _ _ _ _ _ _ HB4.out
        generalize (w3.setRow g ((hcells s (T.length : Int) ss).toList.take 0 ++ (blockV s (D.take 64)).cells.toList ++ (hcells s (T.length : Int) ss).toList.drop (0 + (blockV s (D.take 64)).cells.toList.length)).toArray) = w5 at *
        have AP2 := (AP.out.grown IL2.out.2).rest 64 c hm hmc
        rw [DN.out] at AP2
        obtain ⟨A1, hA1⟩ : ∃ A1 : Option Addr, (if c = 64 then some (⟨bb, off, none⟩ : Addr) else some ⟨bb, off + 64, none⟩) = A1 := ⟨_, rfl⟩
        rw [Option.map_some, Addr.add_lit, hA1] at AP2
        have HAP2 := Lib.hid AP2
        clear AP2 G3 D3 HB4 AP SSB GR TB RL DN
        go_wp2_with fail
        go_roundw
        case rel => exact ⟨j + 1, _, _, _, rfl, by omega, by omega, IL2.out.1, HAP2.out⟩
        case measure => simp only [lenS]; omega
      · have t0 : decide ((64 : Int) ≤ (m : Int)) = false := by simp; omega
        obtain ⟨s1, s2, s3, s4⟩ := rest_end (T := T) (rs := ss) l64 hjm (by omega)
        have S1 := Lib.hid s1
        have S3 := Lib.hid s3
        have S4 := Lib.hid s4
        have AL := AP.out.1.1
        have SRR := Lib.hid (hcells_setRest (runV j H0 T) (T.length : Int) ss (T.drop (64 * j)) 0 (by omega))
        have BM := Lib.hid (byte_mem (i := 0) (k := 0) (l := 0 + (T.drop (64 * j)).length) SSB.out AP.out.1.2.1)
        have MM : Hid ((T.drop (64 * j)).length = Nat.min m 64) := Lib.hid (by rw [AL]; exact (Nat.min_eq_left (by omega)).symm)
        have HAL := Lib.hid AL
        have CS2 : Hid (0 < (T.drop (64 * j)).length → ∃ ad, A = some ad ∧ ∀ i v, ((T.drop (64 * j)).map (Value.int .u8))[i]? = some v → wr.cell? (ad.add i) = some v) := Lib.hid (fun hz => by
          obtain ⟨b, off, e, _⟩ := AP.out.2 (by omega)
          have ap := AP.out
          subst e
          exact ⟨_, rfl, ap.1.cells⟩)
        have hsz := hcells_size (runV j H0 T) (T.length : Int) ss l64
        clear s1 s2 s3 s4
        generalize hD : T.drop (64 * j) = D at *
        clear hD
        generalize hs1 : runV j H0 T = s at *
        have HS1 := Lib.hid hs1
        clear hs1
        go_wp2_with (refine copy_part rfl _ _ rfl g (9 + 0) 64 64 A m c rfl rfl (hcells s (T.length : Int) ss) 120 HB.out D MM.out CS2.out (by omega) ?_; intro w6 hb6 hg6; have HB6 := Lib.hid hb6; have G6 := Lib.hid (World.grownBy.trans GR.out hg6); clear hb6 hg6; rw [HAL.out])
        go_end0
        refine ⟨rfl, ⟨_, S4.out, BM.out, S3.out, ?_⟩, G6.out⟩
        rw [S1.out, HS1.out]
        have e := HB6.out
        rw [SRR.out] at e
        exact e
end Go.Proofs.YtgmefdmeeihgoaaGreatDoor
namespace Go.Proofs.YtgmefdmeeihgoaaGreatDoor
open Go.RowKit
set_option linter.unusedVariables false
def bcells (l : List Int) : Array Value := ((l ++ List.replicate (32 - l.length) 0).map (Value.int .u8)).toArray
def Z32 : Array Value := (List.replicate 32 (Value.int .u8 0)).toArray
theorem bcells_size (l : List Int) (h : l.length ≤ 32) : (bcells l).size = 32 := by
  unfold bcells
  simp
  omega
theorem bcells_set (l : List Int) (x : Int) (k : Nat) (hk : k = l.length) (h : l.length < 32) : (bcells l).setIfInBounds k (.int .u8 x) = bcells (l ++ [x]) := by
  subst hk
  unfold bcells
  apply Array.ext'
  rw [Array.toList_setIfInBounds, List.length_append, List.length_singleton]
  show ((l ++ List.replicate (32 - l.length) 0).map (Value.int .u8)).set l.length (.int .u8 x) = (l ++ [x] ++ List.replicate (32 - (l.length + 1)) 0).map (Value.int .u8)
  rw [← List.map_set, List.set_append_right _ _ (Nat.le_refl _), Nat.sub_self, show 32 - l.length = (32 - (l.length + 1)) + 1 by omega, List.replicate_succ, List.set_cons_zero, List.append_assoc]
  rfl
theorem bcells_get (l : List Int) (i : Nat) (h : i < 32) : (bcells l)[i]? = some (.int .u8 (l[i]?.getD 0)) := by
  unfold bcells
  rw [List.getElem?_toArray, List.getElem?_map, List.getElem?_append]
  split
  · rename_i hi
    rw [List.getElem?_eq_getElem hi]
    rfl
  · rename_i hi
    rw [List.getElem?_replicate, if_pos (by omega), List.getElem?_eq_none (by omega)]
    rfl
theorem bcells_one (l : List Int) : (bcells l).all (·.oneCell') = true := by
  unfold bcells
  exact all_oneCell_toArray (u8_one _)
theorem Tryz.size24 (l : List Int) (h : l.length ≤ 32) : (Tryz.prog.info? 72).map (·.size) = some (bcells l).size := by
  rw [bcells_size l h]
  kernel_rfl
theorem be4 (x : Int) : beZ 4 x = [x / 16777216 % 256, x / 65536 % 256, x / 256 % 256, x % 256] := by
  have e : beZ 4 x = [x / 256 ^ 3 % 256, x / 256 ^ 2 % 256, x / 256 ^ 1 % 256, x / 256 ^ 0 % 256] := rfl
  rw [e, show (256 : Int) ^ 3 = 16777216 by rfl, show (256 : Int) ^ 2 = 65536 by rfl, show (256 : Int) ^ 1 = 256 by rfl, show (256 : Int) ^ 0 = 1 by rfl, Int.ediv_one]
set_option maxHeartbeats 500000 in
set_option maxRecDepth 100000 in
theorem putw_any (g : Nat) (l : List Int) (o n c : Nat) (x : Int) (w : World) (hb : Blk w g 72 (bcells l)) (ho : o = l.length) (hl : l.length + 4 ≤ 32) (hn : 4 ≤ n) : Calls Tryz.prog 115 #[.slice (some ⟨g, o, none⟩) n c, .int .u32 x] w fun e w' => e = .returned (.tuple #[]) ∧ Blk w' g 72 (bcells (l ++ beZ 4 x)) ∧ w.grownBy w' (some g) := by
  subst ho
  have c0 := (hb.cell l.length).trans (bcells_get l l.length (by omega))
  have c1 := (hb.cell (l.length + 1)).trans (bcells_get l (l.length + 1) (by omega))
  have c2 := (hb.cell (l.length + 2)).trans (bcells_get l (l.length + 2) (by omega))
  have c3 := (hb.cell (l.length + 3)).trans (bcells_get l (l.length + 3) (by omega))
  have f0 := hb.free l.length
  have f1 := hb.free (l.length + 1)
  have f2 := hb.free (l.length + 2)
  have f3 := hb.free (l.length + 3)
  have F : Hid (∀ y0 y1 y2 y3 : Int, y0 = x / 16777216 % 256 → y1 = x / 65536 % 256 → y2 = x / 256 % 256 → y3 = x % 256 → Blk ((((w.setCell ⟨g, l.length, none⟩ (.int .u8 y0)).setCell ⟨g, l.length + 1, none⟩ (.int .u8 y1)).setCell ⟨g, l.length + 2, none⟩ (.int .u8 y2)).setCell ⟨g, l.length + 3, none⟩ (.int .u8 y3)) g 72 (bcells (l ++ beZ 4 x)) ∧
      w.grownBy ((((w.setCell ⟨g, l.length, none⟩ (.int .u8 y0)).setCell ⟨g, l.length + 1, none⟩ (.int .u8 y1)).setCell ⟨g, l.length + 2, none⟩ (.int .u8 y2)).setCell ⟨g, l.length + 3, none⟩ (.int .u8 y3)) (some g)) := by
    refine Lib.hid ?_
    rintro _ _ _ _ rfl rfl rfl rfl
    refine ⟨?_, ((((grown_setH w g _ _).trans (grown_setH _ g _ _)).trans (grown_setH _ g _ _)).trans (grown_setH _ g _ _))⟩
    have b1 := hb.set l.length (.int .u8 (x / 16777216 % 256))
    rw [bcells_set l _ _ rfl (by omega)] at b1
    have b2 := b1.set (l.length + 1) (.int .u8 (x / 65536 % 256))
    rw [bcells_set _ _ _ (by simp) (by simp; omega)] at b2
    have b3 := b2.set (l.length + 2) (.int .u8 (x / 256 % 256))
    rw [bcells_set _ _ _ (by simp) (by simp; omega)] at b3
    have b4 := b3.set (l.length + 3) (.int .u8 (x % 256))
    rw [bcells_set _ _ _ (by simp) (by simp; omega)] at b4
    rw [be4]
    simpa using b4
  have k0 : (0 : Int) < (n : Int) := by omega
  have k1 : (1 : Int) < (n : Int) := by omega
  have k2 : (2 : Int) < (n : Int) := by omega
  have k3 : (3 : Int) < (n : Int) := by omega
  clear hb
  go_enter Tryz.func115, Tryz.ntmps115
  go_wp2_with fail
  go_end0
  exact ⟨rfl, F.out _ _ _ _ rfl rfl rfl rfl⟩
def outK (v : V8) (k : Nat) : List Int := (v.list.take k).flatMap fun x => beZ 4 x
theorem outK_len (v : V8) (k : Nat) (h : k ≤ 8) : (outK v k).length = 4 * k := by
  rcases k with _ | _ | _ | _ | _ | _ | _ | _ | _ | k
  all_goals first | rfl | omega
theorem outK_next (v : V8) (k : Nat) (h : k < 8) : outK v (k + 1) = outK v k ++ beZ 4 (v.list[k]?.getD 0) := by
  unfold outK
  have hl : k < v.list.length := h
  rw [List.take_add_one, List.flatMap_append, List.getElem?_eq_getElem hl]
  simp
theorem outK_all (v : V8) : outK v 8 = outV v := rfl
theorem hash_len (zs : List Int) : (hashZ zs).length = 32 := by
  unfold hashZ outV V8.list
  simp [beZ_length]
theorem hash_byte (zs : List Int) : ∀ x ∈ hashZ zs, 0 ≤ x ∧ x ≤ 255 := by
  intro x hx
  unfold hashZ outV at hx
  obtain ⟨y, _, hy⟩ := List.mem_flatMap.1 hx
  exact beZ_byte 4 y x hy
def GivesHash (zs : List Int) (w : World) (e : Ending) (w' : World) : Prop := e = .returned (.agg (bcells zs)) ∧ Below w.heap.size w w'
def SumAt (w wr : World) (S : Nat) (l : List Int) : Prop := Blk wr w.heap.size 72 Z32 ∧ Blk wr S 72 (bcells l) ∧ Below w.heap.size w wr
theorem Tryz.size45 (s : V8) (m : Int) (rs : List Int) (h : rs.length = 64) : (Tryz.prog.info? 120).map (·.size) = some (hcells s m rs).size := by
  rw [hcells_size _ _ _ h]
  kernel_rfl
theorem hcells_one (s : V8) (m : Int) (rs : List Int) : (hcells s m rs).all (·.oneCell') = true := by
  unfold hcells
  refine all_oneCell_toArray ?_
  intro v hv
  rcases List.mem_append.1 hv with hv | hv
  · exact (Array.all_eq_true_iff_forall_mem.1 (cells_one s)) v (by simpa using hv)
  · rcases List.mem_cons.1 hv with rfl | hv
    · rfl
    · exact u8_one rs v hv
theorem idx_words (v : V8) (k : Nat) (h : k < 8) (W : World) : (Instr.index 117 (.agg v.cells) (.int .i64 (k : Int))).run Tryz.prog W = .ok (.int .u32 (v.list[k]?.getD 0)) W := by
  obtain ⟨a, b, c, d, e, f, g, hh⟩ := v
  rcases k with _ | _ | _ | _ | _ | _ | _ | _ | k
  all_goals first
    | (exfalso; omega)
    | (simp only [V8.cells, V8.list]; kernel_rfl)
theorem SumAt.next {w wr w' : World} {S : Nat} {v : V8} {k : Nat} (h : SumAt w wr S (outK v k)) (hk : k < 8) (hS : w.heap.size < S) (hb : Blk w' S 72 (bcells (outK v k ++ beZ 4 (v.list[k]?.getD 0)))) (hg : wr.grownBy w' (some S)) : SumAt w w' S (outK v (k + 1)) := by
  refine ⟨(hg.block _ (Blk.lt h.1) (by simp; omega)).trans h.1, ?_, h.2.2.grown hg h.2.2.size (fun j e => by simp at e; omega)⟩
  rw [outK_next v k hk]
  exact hb
def ZHash : Array Value := hcells Z8 0 (List.replicate 64 0)
def Copied (w wr : World) (g : Nat) (L : List Int) : Prop := Blk wr w.heap.size 72 Z32 ∧ Holds wr (w.heap.size + 1) L ∧ Below w.heap.size w wr ∧ w.heap.size + 1 < wr.heap.size
theorem copied_start {w : World} {g : Nat} {L rs : List Int} (h64 : rs.length = 64) (hrb : ∀ x ∈ rs, 0 ≤ x ∧ x ≤ 255) (hrt : rs.take (L.length % 64) = L.drop (64 * (L.length / 64))) :
    Blk ((w.alloc (.cells Z32 72)).alloc (.cells ZHash 120)) (w.heap.size + 1) 120 ZHash ∧ Copied w (((w.alloc (.cells Z32 72)).alloc (.cells ZHash 120)).setRow (w.heap.size + 1) (hcells (runV (L.length / 64) H0 L) (L.length : Int) rs)) g L := by
  have hs : (w.alloc (.cells Z32 72)).heap.size = w.heap.size + 1 := by simp
  have h2 := Blk.new (w.alloc (.cells Z32 72)) 120 ZHash
  rw [hs] at h2
  refine ⟨h2, (setRow_other _ _ _ _ (by omega)).trans ((Blk.new w _ _).alloc _), ⟨rs, h64, hrb, hrt, setRow_heap _ _ _ _ _ _ h2⟩, below_setRow (((Below.refl _ _).alloc (Nat.le_refl _) _).alloc (by rw [hs]; omega) _) (by omega) _, ?_⟩
  show _ < (World.setRow _ _ _).heap.size
  simp [World.setRow]
set_option maxHeartbeats 1000000 in
set_option maxRecDepth 100000 in
theorem sum_any (g : Nat) (L : List Int) (w : World) (hh : Holds w g L) (ht : Tab w) (hl : L.length ≤ 100000) :
    Calls Tryz.prog 83 #[.pointer (some ⟨g, 0, none⟩)] w (GivesHash (hashZ L) w) := by
  obtain ⟨rs, h64, hrb, hrt, hblk⟩ := hh
  have hlt := Blk.lt hblk
  have BR : Below w.heap.size w (w.alloc (.cells Z32 72)) := (Below.refl _ _).alloc (Nat.le_refl _) _
  have HB := Lib.hid (Blk.below hblk BR hlt)
  have HH := Lib.hid hblk
  have CS := Lib.hid (copied_start (w := w) (g := g) h64 hrb hrt)
  have TA := Lib.hid ht
  clear hblk hrb hrt ht BR
  generalize hC : hcells (runV (L.length / 64) H0 L) (L.length : Int) rs = C at *
  have S45 : Hid ((Tryz.prog.info? 120).map (·.size) = some C.size) := by rw [← hC]; exact Lib.hid (Tryz.size45 _ _ _ h64)
  have SZ : Hid (ZHash.size = C.size) := by rw [← hC, hcells_size _ _ _ h64]; exact Lib.hid rfl
  have ONE : Hid (C.all (·.oneCell') = true) := by rw [← hC]; exact Lib.hid (hcells_one _ _ _)
  have CM : Hid (C[8]? = some (.int .u64 (L.length : Int))) := by rw [← hC]; exact Lib.hid (hcells_many _ _ _)
  have HH2 : Hid (Blk w g 120 C) := by rw [← hC]; exact Lib.hid HH.out
  clear hC HH
  have CS1 : Hid (Blk ((w.alloc (.cells Z32 72)).alloc (.cells ZHash 120)) (w.alloc (.cells Z32 72)).heap.size 120 ZHash) := Lib.hid (Blk.new _ _ _)
  have K3 := Lib.hid CS.out.2
  have d8 := (K3.out.2.2.1.cell (p := ⟨g, 8, none⟩) hlt).trans ((Blk.cell HH2.out 8).trans CM.out)
  go_enter Tryz.func83, Tryz.ntmps83
  go_wp2_with (first
    | (refine Great.wpList_allocTo rfl (some 2) rfl (.pointer (some ⟨w.heap.size, 0, none⟩)) (.cells Z32 72) rfl ?_)
    | (refine wpList_load_row rfl 120 (.tmp 8) rfl g rfl 120 C (0, 0) _ HB.out Tryz.underlying120 rfl S45.out ?_)
    | (refine Great.wpList_allocTo rfl (some 3) rfl (.pointer (some ⟨(w.alloc (.cells Z32 72)).heap.size, 0, none⟩)) (.cells ZHash 120) rfl ?_)
    | (refine wpList_store_rowTo rfl 120 (.tmp 3) (.tmp 9) rfl rfl (w.alloc (.cells Z32 72)).heap.size C rfl rfl 120 ZHash CS1.out S45.out SZ.out ONE.out ?_))
  generalize (((w.alloc (.cells Z32 72)).alloc (.cells ZHash 120)).setRow (w.heap.size + 1) C) = w3 at *
  clear d8 CS CS1 S45 SZ ONE CM HH2 HB
  refine (padding_any L.length w3 (by omega)).mono ?_
  rintro e w4 ⟨V, rfl, ho⟩
  have hp9 : 0 < (padZ L.length).length := by unfold padZ; simp
  have hpl : (padZ L.length).length ≤ 200 := by
    have := pad_le L.length
    unfold padZ
    simp only [List.length_append, List.length_cons, List.length_nil, List.length_replicate, beZ_length]
    omega
  obtain ⟨gp, cap, rfl, hge⟩ := ho.form hp9
  have hpb : ∀ x ∈ padZ L.length, 0 ≤ x ∧ x ≤ 255 := by
    intro x hx
    unfold padZ at hx
    rcases List.mem_append.1 hx with hx | hx
    · rcases List.mem_append.1 hx with hx | hx
      · simp at hx
        omega
      · have := List.eq_of_mem_replicate hx
        omega
    · exact beZ_byte _ _ x hx
  have hcap := own_cap ho.1
  have hrow : Row w4 (some ⟨gp, 0, none⟩) (padZ L.length).length (padZ L.length) := Row.of_own ho.1 hpb
  have hb4 := ho.2
  have hP := K3.out.2.2.2
  have T3 := TA.out.below K3.out.2.2.1
  have TW := Lib.hid (T3.below hb4)
  have H4 := Lib.hid (K3.out.2.1.below hb4)
  have A4 := Lib.hid (Blk.below K3.out.1 hb4 (by omega))
  have B4 := Lib.hid (Below.step K3.out.2.2.1 hb4)
  have AP := Lib.hid (show ApartH w4 (w.heap.size + 1) (some ⟨gp, 0, none⟩) (padZ L.length).length (padZ L.length) from ⟨hrow, fun _ => ⟨gp, 0, rfl, by omega⟩⟩)
  have h2 := TA.out.1
  have FI := Lib.hid (fill_is L)
  clear ho hrow hb4 T3 K3 hpb hp9 hP
  generalize padZ L.length = pz at *
  go_wp2_with fail
  refine (hwrite_any (w.heap.size + 1) L (some ⟨gp, 0, none⟩) pz.length cap pz w4 H4.out (by omega) AP.out hcap TW.out (by omega)).mono ?_
  rintro e w5 ⟨rfl, hh5, hg5⟩
  have A5 : Hid (Blk w5 w.heap.size 72 Z32) := Lib.hid ((hg5.block _ (Blk.lt A4.out) (by simp)).trans A4.out)
  have B5 : Hid (Below w.heap.size w w5) := Lib.hid (B4.out.grown hg5 B4.out.size (fun k e => by simp at e; omega))
  rw [← FI.out] at hh5
  obtain ⟨r5, k64, -, -, hk⟩ := hh5
  have HX : Hid (hashZ L = outV (runV ((fillZ L).length / 64) H0 (fillZ L))) := Lib.hid rfl
  have L32 := hash_len L
  generalize hashZ L = hz at *
  generalize runV ((fillZ L).length / 64) H0 (fillZ L) = v at *
  generalize ((fillZ L).length : Int) = fl at *
  have P5 := Lib.hid hk
  have hP5 := Blk.lt hk
  clear hk hg5 A4 B4 AP TW H4 hcap FI h2
  have A6 : Hid (Blk (w5.alloc (.cells Z32 72)) w.heap.size 72 Z32) := Lib.hid (A5.out.alloc _)
  have P6 : Hid (HBlk (w5.alloc (.cells Z32 72)) (w.heap.size + 1) v fl r5) := Lib.hid (Blk.alloc P5.out _)
  have S6 : Hid (Blk (w5.alloc (.cells Z32 72)) w5.heap.size 72 Z32) := Lib.hid (Blk.new _ _ _)
  have B6 : Hid (Below w.heap.size w (w5.alloc (.cells Z32 72))) := Lib.hid (B5.out.alloc B5.out.size _)
  go_wp2_with (first
    | (refine Great.wpList_allocTo rfl (some 4) rfl (.pointer (some ⟨w5.heap.size, 0, none⟩)) (.cells Z32 72) rfl ?_)
    | (refine wpList_load_mid rfl 117 (.tmp 16) rfl (w.heap.size + 1) 0 rfl v.cells.toList (.array 8 23) P6.out.range Tryz.underlying117 rfl (Tryz.size41 v) ?_))
  have SA : Hid (SumAt w (w5.alloc (.cells Z32 72)) w5.heap.size (outK v 0)) := Lib.hid ⟨A6.out, S6.out, B6.out⟩
  have hRS : w.heap.size < w5.heap.size := by omega
  clear A5 B5 P5 A6 P6 S6 B6
  generalize w5.alloc (.cells Z32 72) = w6 at *
  generalize w5.heap.size = S at *
  go_loopw [18] (fun i wr => ∃ k : Nat, k ≤ 8 ∧ i = .int .i64 (k : Int) ∧ SumAt w wr S (outK v k)) (fun i _ => (9 - intOf i).toNat)
  case atStart => exact ⟨0, by omega, rfl, SA.out⟩
  case round =>
    obtain ⟨k, hk, rfl, hsa⟩ := hrel
    have SB := Lib.hid hsa
    clear hsa SA
    by_cases hk2 : k < 8
    · have t0 : decide ((k : Int) < 8) = true := by simp; omega
      have IX := fun W => idx_words v k hk2 W
      have OL := outK_len v k hk
      have PU := Lib.hid (fun c => putw_any S (outK v k) (4 * k) (32 - 4 * k) c (v.list[k]?.getD 0) wr SB.out.2.1 OL.symm (by omega) (by omega))
      have NX := Lib.hid (fun w' hb hg => SB.out.next (w' := w') hk2 hRS hb hg)
      obtain ⟨o, ho⟩ : ∃ o : Nat, 4 * k = o := ⟨_, rfl⟩
      rw [ho] at PU
      have h4 : IntKind.i64.wrap (4 * (k : Int)) = (o : Int) := by rw [show 4 * (k : Int) = (o : Int) by omega]; exact IntWalk.i64_in _ (by omega)
      have hle : (o : Int) ≤ 32 := by omega
      have hne : ¬ 32 = o := by omega
      clear SB OL
      generalize v.list[k]?.getD 0 = x at *
      generalize outK v k = l at *
      generalize hl1 : outK v (k + 1) = l1 at *
      have HL1 := Lib.hid hl1
      clear hl1
      go_wp2_with fail
      refine (PU.out _).mono ?_
      rintro e w7 ⟨rfl, hb7, hg7⟩
      have N7 := Lib.hid (NX.out _ hb7 hg7)
      clear hb7 hg7 NX PU
      go_wp2_with fail
      go_roundw
      case rel => exact ⟨k + 1, by omega, by first | rfl | go_num, by rw [HL1.out]; exact N7.out⟩
      case measure => simp only [intOf]; omega
    · obtain rfl : k = 8 := by omega
      have F : Hid (outK v 8 = hz) := by rw [HX.out, outK_all]; exact Lib.hid rfl
      rw [F.out] at SB
      have KA := Lib.hid SB.out.1
      have KS := Lib.hid SB.out.2.1
      have KW := Lib.hid SB.out.2.2
      have L2 : hz.length ≤ 32 := by omega
      clear SB F HX
      rw [show ((8 : Nat) : Int) = 8 by rfl]
      go_wp2_with (first
        | (refine wpList_load_row rfl 72 (.tmp 4) rfl S rfl 72 (bcells hz) (0, 0) (.array 32 5) KS.out Tryz.underlying72 rfl (Tryz.size24 hz L2) ?_)
        | (refine wpList_store_rowTo rfl 72 (.tmp 2) (.tmp 28) rfl rfl w.heap.size (bcells hz) rfl rfl 72 Z32 KA.out (Tryz.size24 hz L2) (by rw [bcells_size hz L2]; rfl) (bcells_one hz) ?_))
      exact bodyPost_ret (results_cell_row rfl _ _ w.heap.size 72 (bcells hz) (0, 0) (.array 32 5) rfl (setRow_heap _ _ _ _ 72 _ KA.out) Tryz.underlying72 rfl (Tryz.size24 hz L2)) rfl ⟨rfl, below_setRow KW.out (Nat.le_refl _) _⟩
end Go.Proofs.YtgmefdmeeihgoaaGreatDoor
namespace Go.Proofs.YtgmefdmeeihgoaaGreatDoor
open Go.RowKit
set_option linter.unusedVariables false
set_option maxHeartbeats 300000 in
set_option maxRecDepth 100000 in
theorem hof_any (a : Option Addr) (n ca : Nat) (zs : List Int) (w : World) (hr : Row w a n zs) (hca : n ≤ ca) (hn : n ≤ 100000) (ht : Tab w) :
    Calls Tryz.prog 48 #[.slice a n ca] w (GivesHash (hashZ zs) w) := by
  have B1 : Hid (Below w.heap.size w (w.alloc (.cells Z32 72))) := Lib.hid ((Below.refl _ _).alloc (Nat.le_refl _) _)
  have A1 : Hid (Blk (w.alloc (.cells Z32 72)) w.heap.size 72 Z32) := Lib.hid (Blk.new _ _ _)
  have hs1 : (w.alloc (.cells Z32 72)).heap.size = w.heap.size + 1 := by simp
  have T1 := Lib.hid (ht.below B1.out)
  have HR := Lib.hid hr
  have hzn := hr.1
  have L32 : (hashZ zs).length ≤ 32 := by rw [hash_len]; omega
  have h2 := ht.1
  clear hr ht
  go_enter Tryz.func48, Tryz.ntmps48
  go_wp2_with (refine Great.wpList_allocTo rfl (some 2) rfl (.pointer (some ⟨w.heap.size, 0, none⟩)) (.cells Z32 72) rfl ?_)
  generalize w.alloc (.cells Z32 72) = w1 at *
  have HS1 := Lib.hid hs1
  clear hs1
  refine (new_any w1 T1.out).mono ?_
  rintro e w2 ⟨rfl, hw2⟩
  have H2 : Hid (Holds w2 w1.heap.size []) := by rw [hw2]; exact Lib.hid (new_holds w1)
  have B2 : Hid (Below w1.heap.size w1 w2) := by rw [hw2]; exact Lib.hid ((Below.refl _ _).alloc (Nat.le_refl _) _)
  clear hw2
  have T2 := Lib.hid (T1.out.below B2.out)
  have BW := Lib.hid (Below.step B1.out B2.out)
  have A2 := Lib.hid (A1.out.below B2.out A1.out.lt)
  have AP : Hid (ApartH w2 w1.heap.size a n zs) := Lib.hid ⟨HR.out.below BW.out, fun h0 => by
    obtain ⟨b, off, e, hb, _⟩ := HR.out.2.2 h0
    exact ⟨b, off, e, by have := HS1.out; omega⟩⟩
  clear B2 T1 A1 HR
  go_wp2_with fail
  refine (hwrite_any w1.heap.size [] a n ca zs w2 H2.out (by have := HS1.out; omega) AP.out hca T2.out (by simp; omega)).mono ?_
  rintro e w3 ⟨rfl, hh3, hg3⟩
  rw [List.nil_append] at hh3
  have H3 : Hid (Holds w3 w1.heap.size zs) := Lib.hid hh3
  have B3 : Hid (Below w.heap.size w w3) := Lib.hid (BW.out.grown hg3 BW.out.size (fun k e => by have := HS1.out; simp at e; omega))
  have A3 : Hid (Blk w3 w.heap.size 72 Z32) := Lib.hid ((hg3.block _ (Blk.lt A2.out) (by have := HS1.out; simp; omega)).trans A2.out)
  have T3 := Lib.hid (T2.out.grown hg3 (by have := HS1.out; omega))
  clear hh3 hg3 H2 AP T2 A2 BW
  go_wp2_with fail
  refine (sum_any w1.heap.size zs w3 H3.out T3.out (by omega)).mono ?_
  rintro e w4 ⟨rfl, hb4⟩
  have A4 := Lib.hid (A3.out.below hb4 A3.out.lt)
  have B4 := Lib.hid (Below.step B3.out hb4)
  clear hb4 A3 B3 H3 T3
  generalize hashZ zs = hz at *
  go_wp2_with (refine wpList_store_rowTo rfl 72 (.tmp 2) (.tmp 9) rfl rfl w.heap.size (bcells hz) rfl rfl 72 Z32 A4.out (Tryz.size24 hz L32) (by rw [bcells_size hz L32]; rfl) (bcells_one hz) ?_)
  exact bodyPost_ret (results_cell_row rfl _ _ w.heap.size 72 (bcells hz) (0, 0) (.array 32 5) rfl (setRow_heap _ _ _ _ 72 _ A4.out) Tryz.underlying72 rfl (Tryz.size24 hz L32)) rfl ⟨rfl, below_setRow B4.out (Nat.le_refl _) _⟩
end Go.Proofs.YtgmefdmeeihgoaaGreatDoor
namespace Go.Proofs.YtgmefdmeeihgoaaGreatDoor
open Go.RowKit
set_option linter.unusedVariables false
theorem out_zero32 (w : World) : Out32 w (w.alloc (.cells #[] 23)) (.slice (some ⟨w.heap.size, 0, none⟩) 0 0) [] :=
  ⟨⟨rfl, .inr ⟨w.heap.size, 0, #[], rfl, Nat.le_refl _, heap_alloc_new w _, Nat.le_refl _, by unfold maxLen; omega, rfl, rfl⟩⟩, (Below.refl _ _).alloc (Nat.le_refl _) _⟩
theorem Out32.cell {W0 wr : World} {g cap n : Nat} {L : List Int} (h : Out32 W0 wr (.slice (some ⟨g, 0, none⟩) n cap) L) (j : Nat) (hj : j < L.length) : wr.cell? ⟨g, j, none⟩ = some (.int .u32 (L[j]?.getD 0)) ∧ wr.frozen? ⟨g, j, none⟩ = false := by
  have hn : n = L.length := by
    rcases h.1.2 with ⟨e, _⟩ | ⟨g, cap, cur, e, hb, _⟩
    · cases e
    · injection e
  subst hn
  refine ⟨?_, h.1.frozenAt j⟩
  rw [h.1.cellAt j (by omega), List.getElem?_map, List.getElem?_eq_getElem hj]
  rfl
theorem Out32.set {W0 wr : World} {g cap n : Nat} {L : List Int} (h : Out32 W0 wr (.slice (some ⟨g, 0, none⟩) n cap) L) (hg : W0.heap.size ≤ g) (j : Nat) (x : Int) : Out32 W0 (wr.setCell ⟨g, j, none⟩ (.int .u32 x)) (.slice (some ⟨g, 0, none⟩) n cap) (L.set j x) := by
  have hn : n = L.length := by
    rcases h.1.2 with ⟨e, _⟩ | ⟨g, cap, cur, e, hb, _⟩
    · cases e
    · injection e
  subst hn
  refine ⟨?_, h.2.setCell hg _⟩
  have := (h.1.stored j (.int .u32 x)).1
  rw [List.length_set, List.map_set]
  exact this
theorem Out32.drewN {W0 wr : World} {V : Value} {L : List Int} (h : Out32 W0 wr V L) (q : Nat) : Out32 W0 (wr.drewN q) V L := ⟨h.1, { h.2 with }⟩
end Go.Proofs.YtgmefdmeeihgoaaGreatDoor
