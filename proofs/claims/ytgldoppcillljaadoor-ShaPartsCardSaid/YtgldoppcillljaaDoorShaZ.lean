/-
  'append(pad, make([]byte, n)...)' to a new row of one byte; what the package's padding answers, for stage 6 (sha).
-/
import Derived.Test.YtgldoppcillljaaDoorShaC
import Derived.Lib.AppendZeros
namespace Go.Proofs.YtgldoppcillljaaDoor
open Go.RowKit
set_option linter.unusedVariables false

theorem zeros_list (n : Nat) : (Builtin.zeroCells #[Value.int .u8 0] n).toList = List.replicate n (Value.int .u8 0) := by
  unfold Builtin.zeroCells
  apply List.ext_getElem
  · simp
  · intro i h1 h2
    have : i % 1 = 0 := Nat.mod_one i
    simp [this]
set_option maxHeartbeats 1000000 in
theorem run_zeros (w : World) (m : Nat) (hm : m ≤ 64) (ty : TypeId) : ∃ V' w', (Builtin.append_ #[22, 42] ty #[.slice (some ⟨w.heap.size, 0, none⟩) 1 1, .int .u64 (m : Int)]).run Tryd.prog (w.alloc (.cells #[.int .u8 128] 5)) = .ok V' w' ∧ Out w w' V' ([128] ++ List.replicate m 0) := by
  obtain ⟨i0, hi5, hz0, hz1, hz2⟩ := info_parts Tryd.infoByte
  have hw : IntKind.i64.wrap (m : Int) = m := by rw [IntKind.wrap_i64]; omega
  have hneg : ¬ ((m : Int) < 0) := by omega
  have h48i : ¬ (281474976710656 < (m : Int)) := by omega
  rcases Nat.eq_zero_or_pos m with h0 | h0
  · subst h0
    refine ⟨.slice (some ⟨w.heap.size, 0, none⟩) 1 1, w.alloc (.cells #[.int .u8 128] 5), ?_, by simpa using out_one w 128⟩
    simp [Builtin.append_, run_underlying Tryd.underlying22, run_underlying Tryd.underlying42, sizeOf, typeInfo, hi5, hz2, asInt, asIntOf, storeCells, IntKind.wrap_i64]
  · have hn : ¬ (m = 0) := by omega
    have hneed : ¬ (1 + m ≤ 1) := by omega
    have h63' : ¬ (9223372036854775807 < ((1 : Int) + (m : Int))) := by omega
    have h48' : ¬ (281474976710656 < Builtin.nextslicecap (1 + m) 1) := by
      have := nextslicecap_le (need := 1 + m) (old := 1) (by omega)
      omega
    have hold := run_firstCells_some (P := Tryd.prog) (w.alloc (.cells #[.int .u8 128] 5)).drew 1 1 ⟨w.heap.size, 0, none⟩ 1 1 [.int .u8 128] rfl (fun j v hv => by
      rcases j with _ | j
      · simp at hv
        subst hv
        rw [Addr.add_lit]
        exact cell_of_row _ w.heap.size _ #[.int .u8 128] 5 (0, 0) (by show (w.alloc (.cells #[.int .u8 128] 5)).heap[w.heap.size]? = _; exact heap_alloc_new w _)
      · simp at hv)
    have hge := grownCap_ge (w.alloc (.cells #[.int .u8 128] 5)) (1 + m) 1 5
    have hcm := grownCap_le_maxLen (w.alloc (.cells #[.int .u8 128] 5)) (1 + m) 1 5 (by unfold maxLen; omega)
    refine ⟨.slice (some ⟨(w.alloc (.cells #[.int .u8 128] 5)).heap.size, 0, none⟩) (1 + m) (grownCap (w.alloc (.cells #[.int .u8 128] 5)) (1 + m) 1 5),
      (w.alloc (.cells #[.int .u8 128] 5)).drew.alloc (.cells (#[.int .u8 128] ++ Builtin.zeroCells #[.int .u8 0] m ++ Builtin.zeroCells #[.int .u8 0] (grownCap (w.alloc (.cells #[.int .u8 128] 5)) (1 + m) 1 5 - (1 + m))) 5), ?_, ?_, ?_⟩
    · simp [Builtin.append_, run_underlying Tryd.underlying22, run_underlying Tryd.underlying42, sizeOf, typeInfo, zeroValue, hi5, hz0, hz1, hz2, asInt, asIntOf, hw, hn, hneg, h48i, hneed, h63', h48', Question.forced, hold, newRow, grownCap]
      rfl
    · have hl : ([128] ++ List.replicate m (0 : Int)).length = 1 + m := by simp; omega
      refine ⟨by rw [hl]; simp; omega, .inr ⟨_, _, _, by rw [hl]; rfl, by simp, heap_alloc_new _ _, by rw [hl]; exact hge, hcm, ?_, ?_⟩⟩
      · rw [← Array.length_toList, Array.toList_append, Array.toList_append, zeros_list, zeros_list]
        simp
        omega
      · rw [Array.toList_append, Array.toList_append, zeros_list, zeros_list, hl]
        simp only [List.map_append, List.map_replicate, List.map_cons, List.map_nil]
        rw [List.take_append_of_le_length (by simp; omega), List.take_of_length_le (by simp; omega)]
    · exact (((Below.refl _ _).alloc (Nat.le_refl _) _).drew).alloc (by simp) _

theorem zeros_op {ops : Array Oper} {rest : List Oper} {o : Oper} {a : Act} {Q : Exit → Act → World → Prop} {w : World} (m : Nat) (hm : m ≤ 64) (hgd : o.guard = none) (s x : Operand)
    (hop : o.op = .call { callee := .builtin .append, args := #[s, x], argTypes := #[22, 42] }) (hs : a.eval s = .slice (some ⟨w.heap.size, 0, none⟩) 1 1) (hx : a.eval x = .int .u64 (m : Int))
    (h : ∀ V' w', Out w w' V' ([128] ++ List.replicate m 0) → wpList Tryd.prog ops Q rest (a.put o.dst V') w') : wpList Tryd.prog ops Q (o :: rest) a (w.alloc (.cells #[.int .u8 128] 5)) := by
  obtain ⟨V', w', hr, ho⟩ := run_zeros w m hm o.type
  exact Lib.wpList_append_run _ hgd s x _ _ hop _ _ hs hx V' w' hr (h V' w' ho)

def padZ (n : Nat) : List Int := [128] ++ List.replicate (padN n) 0 ++ beZ 8 (8 * (n : Int))
theorem fill_is (zs : List Int) : fillZ zs = zs ++ padZ zs.length := by
  unfold fillZ padZ
  simp only [List.append_assoc]

set_option maxHeartbeats 500000 in
set_option maxRecDepth 10000 in
theorem padding_any (n : Nat) (w : World) (hn : n ≤ 1000000) : Calls Tryd.prog 21 #[.int .u64 (n : Int)] w (GivesNew (padZ n) w) := by
  have hz : IntKind.u64.wrap (55 - (n : Int)) = 55 - (n : Int) ∨ IntKind.u64.wrap (55 - (n : Int)) = 18446744073709551616 + (55 - (n : Int)) := by
    rw [IntKind.wrap_u64]
    omega
  have hp : IntKind.u64.wrap (55 - (n : Int)) % 64 = ((padN n : Nat) : Int) := by
    unfold padN
    omega
  have hw0 : 0 ≤ IntKind.u64.wrap (55 - (n : Int)) := by
    rw [IntKind.wrap_u64]
    omega
  have htm : (IntKind.u64.wrap (55 - (n : Int))).tmod 64 = ((padN n : Nat) : Int) := by
    rw [Int.tmod_eq_emod_of_nonneg hw0]
    exact hp
  have hpl := pad_le n
  have F : Hid (padZ n = [128] ++ List.replicate (padN n) 0 ++ beZ 8 (8 * (n : Int))) := Lib.hid rfl
  have LL : Hid (([128] ++ List.replicate (padN n) (0 : Int)).length + 8 ≤ 1000000) := Lib.hid (by simp; omega)
  have w8 : IntKind.u64.wrap (8 * (n : Int)) = 8 * (n : Int) := IntWalk.u64_in _ (by omega)
  have h8 : (8 * (n : Int)) / 256 ^ 8 = 0 := by
    rw [show (256 : Int) ^ 8 = 18446744073709551616 by rfl]; omega
  have CB := Lib.hid (fun W => bytes_ok (8 * (n : Int)) 8 8 W rfl (by omega) (by omega) (by omega) h8)
  clear hz h8
  generalize padN n = m at *
  go_enter Tryd.func21, Tryd.ntmps21
  go_wp2_with (at_builtin; go_must (refine zeros_op (w := w) m (by omega) rfl _ _ rfl rfl rfl ?_; intro V1 w1 ho1; have O1 := Lib.hid ho1; clear ho1))
  clear htm hp hw0
  have hL : Hid (([128] ++ List.replicate m (0 : Int)).length + 8 ≤ 1000000) := LL
  generalize ([128] ++ List.replicate m (0 : Int)) = L at *
  generalize hB : beZ 8 (8 * (n : Int)) = B8 at *
  have BB : Hid (∀ x ∈ B8, 0 ≤ x ∧ x ≤ 255) := by rw [← hB]; exact Lib.hid (beZ_byte 8 _)
  clear hB
  refine (CB.out _).mono ?_
  rintro e w5 ⟨a5, c5, rfl, hr5, hb5, hc5⟩
  have O5 := Lib.hid (O1.out.below hb5)
  have R5 := Lib.hid hr5
  have N5 : Hid (a5 = none → c5 = 0) := by
    obtain ⟨b, off, e, _⟩ := hr5.2.2 (by omega)
    exact Lib.hid (fun h => by rw [e] at h; cases h)
  clear hr5 hb5 O1 CB
  go_wp2_with (at_builtin; go_must (refine out_append (W0 := w) (L := L) (zs := B8) rfl _ _ rfl rfl O5.out rfl R5.out N5.out hL.out ?_; intro V4 w4 ho4; have O4 := Lib.hid ho4; clear ho4))
  go_ret
  rw [F.out]
  exact ⟨V4, rfl, O4.out⟩

end Go.Proofs.YtgldoppcillljaaDoor
