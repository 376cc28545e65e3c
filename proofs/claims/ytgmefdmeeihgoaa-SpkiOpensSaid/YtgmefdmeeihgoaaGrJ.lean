/-
  Merged texts: SkO.
-/
import Derived.Test.YtgmefdmeeihgoaaGrH
namespace Go.Proofs.Ytgmefdmeeihgoaa
open Go.RowKit
set_option linter.unusedVariables false
set_option linter.unusedSimpArgs false

set_option maxHeartbeats 2000000 in
theorem opens_walk (a0 : Option Addr) (len0 cap0 : Nat) (zs : List Int) (w : World) (hr : Row w a0 len0 zs) (hm : len0 ≤ maxLen) (hnc : len0 ≤ cap0) (hnil : a0 = none → cap0 = 0) : Calls Try.prog 4 #[.slice a0 len0 cap0] w fun e w' => e = .returned (.bool true) ∧ Below w.heap.size w w' := by
  have R0 := Lib.hid hr
  have NI := Lib.hid hnil
  have HB := Lib.hid hr.2.1
  have HL := Lib.hid hr.1
  clear hr hnil
  unfold maxLen at hm
  by_cases h0 : 5000 < len0
  · have t0 : decide (5000 < (len0 : Int)) = true := by simp; omega
    go_enter Try.func4, Try.ntmps4
    go_wp2_with fail
    refine (awake14_any _).mono ?_
    rintro e w9 ⟨rfl, hb⟩
    have B9 := Lib.hid hb
    clear hb
    go_wp2_with fail
    go_ret
    exact ⟨rfl, B9.out⟩
  have t0 : decide (5000 < (len0 : Int)) = false := by simp; omega
  go_enter Try.func4, Try.ntmps4
  go_wp2_with fail
  refine (awake14_any _).mono ?_
  rintro e w2 ⟨rfl, hb2⟩
  have R2 := Lib.hid (R0.out.below hb2)
  have B2 := Lib.hid hb2
  clear hb2
  go_wp2_with fail
  refine (open_any a0 len0 cap0 zs w2 R2.out hnc (by omega) NI.out).mono ?_
  rintro e w3 ⟨hb3, hways⟩
  have R3 := Lib.hid (R2.out.below hb3)
  have B3 := Lib.hid (B2.out.trans (hb3.mono B2.out.size))
  clear hb3 R2 B2
  rcases hways with ⟨z, hz, hz0, rfl⟩ | ⟨t, said, sig, A, nn, c, K, m, d, a4, c4, a5, c5, hz, rfl, hin, hr4, hn4, hr5, hn5⟩
  · have t1 : (z != 0) = true := by simpa using hz0
    have B4 := Lib.hid (B3.out.alloc B3.out.size (.cells #[.int .i64 0, .slice none 0 0, .slice none 0 0] 25))
    have n4 := (Blk.new w3 25 #[.int .i64 0, .slice none 0 0, .slice none 0 0]).cell 0
    simp only [List.getElem?_toArray, List.getElem?_cons_zero] at n4
    clear hz hz0
    go_wp2_with fail
    go_ret
    exact ⟨rfl, B4.out⟩
  · obtain ⟨hs1, hs2, hs3, hs4, hs5⟩ := seal_open HB.out hz
    have A4 : Below w3.heap.size w3 (w3.alloc (.cells #[.int .i64 t.tag, .slice A nn c, .slice K m d] 25)) := (Below.refl _ _).alloc (Nat.le_refl _) _
    obtain ⟨x0, x1, x2, _, _, _⟩ := (Blk.new w3 25 #[.int .i64 t.tag, .slice A nn c, .slice K m d]).facts
    have f := write_fit hs3
    have hwt := wt_le t f.1
    have hsl : sig.length ≤ 100000 := by
      have g := write_fit (t := sealT t sig) (by rw [hs1])
      have h1 := wt_le (sealT t sig) g.1
      have h2 := wt_bits sig
      have h3 : wt (bitsT sig) ≤ wt (sealT t sig) := by
        have := wt_kid (t := sealT t sig) (x := bitsT sig) (by simp [sealT, T.kids])
        omega
      omega
    have CS := Lib.hid (seal_any t _ a5 sig.length c5 sig _ (T.In.below A4 t hin) (by omega) (hr5.below A4) hsl hn5)
    rw [hs1] at CS
    have R4 := Lib.hid (R3.out.below A4)
    have B4 := Lib.hid (B3.out.trans (A4.mono B3.out.size))
    have hl := HL.out
    have t3 : decide ((0 : Int) < (said.length : Int)) = true := decide_eq_true (by omega)
    have t3' : decide (0 < said.length) = true := decide_eq_true (by omega)
    have t4 : decide ((said.length : Int) < (len0 : Int)) = true := decide_eq_true (by omega)
    have t4' : decide (said.length < len0) = true := decide_eq_true (by omega)
    clear hz hin hr4 hn4 hr5 hn5 hs1 hs2 hs3 hs4 hs5 A4 f hwt hsl R3 B3 hl HL R0
    go_wp2_with fail
    generalize hw4 : w3.alloc (.cells #[.int .i64 t.tag, .slice A nn c, .slice K m d] 25) = w4 at *
    refine CS.out.mono ?_
    rintro e w5 ⟨a6, c6, rfl, hr6, hn6, hb6, _⟩
    have k6 := conv_at c6 hr6
    have k0 := conv_at cap0 (R4.out.below hb6)
    have B6 := Lib.hid (B4.out.trans (hb6.mono B4.out.size))
    have ts : ((strOfNums zs).toList == (strOfNums zs).toList) = true := by simp
    clear CS hr6 hn6 hb6 B4 R4 hw4 x0 x1 x2
    go_wp2_with fail
    go_ret
    exact ⟨rfl, B6.out⟩

end Go.Proofs.Ytgmefdmeeihgoaa
