/-
  Which keys may be: both answers, for stage 9 (rsa).
-/
import Derived.Test.YtdhablbfblkagaaRsO
namespace Go.Proofs.Ytdhablbfblkagaa
open Go.RowKit
set_option linter.unusedVariables false

/-- A key: its bytes, its exponent. -/
def KeyAt (w : World) (a : Option Addr) (n c : Nat) (e : Int) (ns : List Int) : Prop := Row w a n ns ∧ n ≤ c ∧ (a = none → c = 0) ∧ 0 ≤ e ∧ e ≤ 4294967295
theorem KeyAt.below {w w' : World} {a : Option Addr} {n c : Nat} {e : Int} {ns : List Int} (h : KeyAt w a n c e ns) (hb : Below w.heap.size w w') : KeyAt w' a n c e ns := ⟨h.1.below hb, h.2⟩
/-- The block into which a key is put. -/
theorem key_box (w : World) (a : Option Addr) (n c : Nat) (e : Int) : Blk (w.alloc (.cells #[.slice a n c, .int .u32 e] 26)) w.heap.size 26 #[.slice a n c, .int .u32 e] := Blk.new _ _ _
theorem box_below (w : World) (o : Obj) : Below w.heap.size w (w.alloc o) := (Below.refl _ _).alloc (Nat.le_refl _) o

set_option maxRecDepth 100000 in
theorem size_any (s : Int) (w : World) (h0 : -9223372036854775808 ≤ s) (h1 : s ≤ 9223372036854775807) : Calls Try.prog 10 #[.int .i64 s] w fun e w' => e = .returned (.bool (decide (62 ≤ s) && decide (s ≤ 512))) ∧ w' = w := by
  go_enter Try.func10, Try.ntmps10
  by_cases h : 62 ≤ s
  · have t1 : decide ((62 : Int) ≤ s) = true := decide_eq_true h
    go_wp2_with fail
    go_ret
    exact ⟨by rw [t1]; rfl, rfl⟩
  · have t1 : decide ((62 : Int) ≤ s) = false := decide_eq_false h
    go_wp2_with fail
    go_ret
    exact ⟨rfl, rfl⟩

set_option maxHeartbeats 1000000 in
set_option maxRecDepth 100000 in
theorem right_any (a : Option Addr) (n c : Nat) (e : Int) (ns : List Int) (w : World) (hk : KeyAt w a n c e ns) (hn : n ≤ 1000000) :
    Calls Try.prog 8 #[.agg #[.slice a n c, .int .u32 e]] w fun r w' => r = .returned (.bool (rightZ ns e)) ∧ Below w.heap.size w w' := by
  have BX := Lib.hid (key_box w a n c e)
  have BW := Lib.hid (box_below w (.cells #[.slice a n c, .int .u32 e] 26))
  have HR := Lib.hid (hk.1.below BW.out)
  have hl := hk.1.1
  obtain ⟨_, _, _, e0, e1⟩ := hk
  have c0 := BX.out.cell 0
  have c1 := BX.out.cell 1
  simp only [List.getElem?_toArray, List.getElem?_cons_zero, List.getElem?_cons_succ] at c0 c1
  have RZ : Hid (rightZ ns e = (decide (62 ≤ n) && decide (n ≤ 512) && !(ns[0]?.getD 0 == 0) && (ns[n - 1]?.getD 0 % 2 == 1) && (e % 2 == 1) && decide (3 ≤ e))) := by
    unfold rightZ
    rw [hl]
    exact Lib.hid rfl
  have b0 := HR.out.byte 0
  have b1 := HR.out.byte (n - 1)
  go_enter Try.func8, Try.ntmps8
  generalize hw2 : w.alloc (.cells #[.slice a n c, .int .u32 e] 26) = w2 at *
  have CS := Lib.hid (size_any (n : Int) w2 (by omega) (by omega))
  clear hl
  by_cases h : 62 ≤ n ∧ n ≤ 512
  · have t1 : (decide ((62 : Int) ≤ (n : Int)) && decide ((n : Int) ≤ 512)) = true := by simp; omega
    rw [t1] at CS
    have t2 : (decide (62 ≤ n) && decide (n ≤ 512)) = true := by simp; omega
    rw [t2] at RZ
    obtain ⟨b, o, rfl, hb, hc⟩ := HR.out.2.2 (by omega)
    have d0 := hc 0 (by omega)
    have d1 := hc (n - 1) (by omega)
    obtain ⟨m, rfl⟩ : ∃ m, n = m + 1 := ⟨n - 1, by omega⟩
    rw [Nat.add_sub_cancel] at d1 b1 RZ
    rw [Nat.add_zero] at d0
    clear hc HR BX t1 t2
    generalize ns[0]?.getD 0 = x at *
    generalize ns[m]?.getD 0 = y at *
    rw [show ((m + 1 : Nat) : Int) = (m : Int) + 1 from rfl] at CS
    go_wp2_with fail
    refine CS.out.mono ?_
    rintro r w3 ⟨rfl, rfl⟩
    clear CS hw2
    go_wp2_with fail
    all_goals
      go_ret
      refine ⟨ret_bool ?_, BW.out⟩
      rw [RZ.out]
      rw [Bool.eq_iff_iff]
      simp [*]
  · have t1 : (decide ((62 : Int) ≤ (n : Int)) && decide ((n : Int) ≤ 512)) = false := by
      simp only [Bool.and_eq_false_iff, decide_eq_false_iff_not]
      omega
    rw [t1] at CS
    have t2 : (decide (62 ≤ n) && decide (n ≤ 512)) = false := by
      simp only [Bool.and_eq_false_iff, decide_eq_false_iff_not]
      omega
    rw [t2] at RZ
    go_wp2_with fail
    refine CS.out.mono ?_
    rintro r w3 ⟨rfl, rfl⟩
    go_wp2_with fail
    go_ret
    exact ⟨by rw [RZ.out]; rfl, BW.out⟩

set_option maxHeartbeats 1000000 in
set_option maxRecDepth 100000 in
theorem rright_any (a : Option Addr) (n c : Nat) (e : Int) (ns : List Int) (w : World) (hk : KeyAt w a n c e ns) (hn : n ≤ 1000000) :
    Calls Try.prog 9 #[.agg #[.slice a n c, .int .u32 e]] w fun r w' => r = .returned (.bool (rightZ ns e)) ∧ Below w.heap.size w w' := by
  have BX := Lib.hid (key_box w a n c e)
  have BW := Lib.hid (box_below w (.cells #[.slice a n c, .int .u32 e] 26))
  have HR := Lib.hid (hk.1.below BW.out)
  have hl := hk.1.1
  obtain ⟨_, _, _, e0, e1⟩ := hk
  have c0 := BX.out.cell 0
  have c1 := BX.out.cell 1
  simp only [List.getElem?_toArray, List.getElem?_cons_zero, List.getElem?_cons_succ] at c0 c1
  have RZ : Hid (rightZ ns e = (decide (62 ≤ n) && decide (n ≤ 512) && !(ns[0]?.getD 0 == 0) && (ns[n - 1]?.getD 0 % 2 == 1) && (e % 2 == 1) && decide (3 ≤ e))) := by
    unfold rightZ
    rw [hl]
    exact Lib.hid rfl
  have b0 := HR.out.byte 0
  have b1 := HR.out.byte (n - 1)
  go_enter Try.func9, Try.ntmps9
  generalize hw2 : w.alloc (.cells #[.slice a n c, .int .u32 e] 26) = w2 at *
  clear hl
  by_cases h : 62 ≤ n ∧ n ≤ 512
  · have t2 : (decide (62 ≤ n) && decide (n ≤ 512)) = true := by simp; omega
    rw [t2] at RZ
    obtain ⟨b, o, rfl, hb, hc⟩ := HR.out.2.2 (by omega)
    have d0 := hc 0 (by omega)
    have d1 := hc (n - 1) (by omega)
    obtain ⟨m, rfl⟩ : ∃ m, n = m + 1 := ⟨n - 1, by omega⟩
    rw [Nat.add_sub_cancel] at d1 b1 RZ
    rw [Nat.add_zero] at d0
    clear hc HR BX t2
    generalize ns[0]?.getD 0 = x at *
    generalize ns[m]?.getD 0 = y at *
    have t3 : decide ((62 : Int) ≤ (m : Int) + 1) = true := decide_eq_true (by omega)
    have t4 : decide ((m : Int) + 1 ≤ 512) = true := decide_eq_true (by omega)
    go_wp2_with fail
    all_goals
      go_ret
      refine ⟨ret_bool ?_, BW.out⟩
      rw [RZ.out]
      rw [Bool.eq_iff_iff]
      simp [*]
  · have t2 : (decide (62 ≤ n) && decide (n ≤ 512)) = false := by
      simp only [Bool.and_eq_false_iff, decide_eq_false_iff_not]
      omega
    rw [t2] at RZ
    by_cases h6 : 62 ≤ n
    · have t3 : decide ((62 : Int) ≤ (n : Int)) = true := decide_eq_true (by omega)
      have t4 : decide ((n : Int) ≤ 512) = false := decide_eq_false (by omega)
      go_wp2_with fail
      go_ret
      exact ⟨by rw [RZ.out]; rfl, BW.out⟩
    · have t3 : decide ((62 : Int) ≤ (n : Int)) = false := decide_eq_false (by omega)
      go_wp2_with fail
      go_ret
      exact ⟨by rw [RZ.out]; rfl, BW.out⟩

set_option maxRecDepth 100000 in
theorem light_any (a : Option Addr) (n c : Nat) (e : Int) (ns : List Int) (w : World) (hk : KeyAt w a n c e ns) (hn : n ≤ maxLen) :
    Calls Try.prog 5 #[.agg #[.slice a n c, .int .u32 e]] w fun r w' => r = .returned (.bool (decide (n ≤ 140))) ∧ Below w.heap.size w w' := by
  have BX := Lib.hid (key_box w a n c e)
  have BW := Lib.hid (box_below w (.cells #[.slice a n c, .int .u32 e] 26))
  have c0 := BX.out.cell 0
  simp only [List.getElem?_toArray, List.getElem?_cons_zero] at c0
  have TD : Hid (decide ((n : Int) ≤ 140) = decide (n ≤ 140)) := Lib.hid (by rw [decide_eq_decide]; omega)
  go_enter Try.func5, Try.ntmps5
  generalize hw2 : w.alloc (.cells #[.slice a n c, .int .u32 e] 26) = w2 at *
  go_wp2_with fail
  go_ret
  exact ⟨ret_bool TD.out, BW.out⟩

end Go.Proofs.Ytdhablbfblkagaa
