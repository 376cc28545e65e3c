/-
  awake answers true, for stage 4 (tlv).
-/
import Derived.Test.YtefdfdnfpacfjaaTRead
import Derived.Test.YtefdfdnfpacfjaaTWrite
import Derived.Test.YtefdfdnfpacfjaaPirt
import Derived.Test.YtefdfdnfpacfjaaNest
namespace Go.Proofs.Ytefdfdnfpacfjaa
open Go.RowKit
set_option linter.unusedVariables false

theorem T.In.parts {w : World} {t : T} {z : Int} {A : Option Addr} {n c : Nat} {K : Option Addr} {m d : Nat} (h : t.In w (.agg #[.int .i64 z, .slice A n c, .slice K m d])) : z = t.tag ∧ n = t.body.length ∧ m = t.kids.length := by
  obtain ⟨A1, n1, c1, K1, m1, d1, e, _, hr, _, _, hm, _⟩ := h.open
  simp only [Value.agg.injEq] at e
  have e' := congrArg Array.toList e
  simp only [List.cons.injEq, and_true, Value.slice.injEq, Value.int.injEq, true_and] at e'
  obtain ⟨rfl, ⟨rfl, rfl, rfl⟩, rfl, rfl, rfl⟩ := e'
  exact ⟨rfl, hr.1.symm, hm.symm⟩
/-- An element that can be written is not heavy. -/
theorem wt_of_write {t : T} (h : (writeZ t).2 = 0) : wt t < 30000 := by
  obtain ⟨h1, _, h3, _⟩ := write_sound h
  have := wt_le t h1
  omega

def awakeT : T := .node 48 [] [.node 2 [5] []]
theorem awake_reads : readZ [48, 3, 2, 1, 5] = .ok awakeT := by kernel_rfl
theorem awake_bad : readZ [48, 3, 2, 2, 5] = .error 2 := by kernel_rfl
theorem awake_writes : writeZ awakeT = ([48, 3, 2, 1, 5], 0) := (write_read (by intro z hz; have : z = 48 ∨ z = 3 ∨ z = 2 ∨ z = 1 ∨ z = 5 := (by simpa using hz); omega) awake_reads).1

set_option maxHeartbeats 1000000 in
theorem awake_any (w : World) : Calls Try.prog 9 #[] w fun e w' => e = .returned (.bool true) ∧ Below w.heap.size w w' := by
  have R0 : Hid (Row (w.alloc (.cells #[.int .u8 48, .int .u8 3, .int .u8 2, .int .u8 1, .int .u8 5] 5)) (some ⟨w.heap.size, 0, none⟩) 5 [48, 3, 2, 1, 5]) :=
    row_const w [48, 3, 2, 1, 5] (0, 0) (by intro z hz; have : z = 48 ∨ z = 3 ∨ z = 2 ∨ z = 1 ∨ z = 5 := (by simpa using hz); omega)
  have B0 : Hid (Below w.heap.size w (w.alloc (.cells #[.int .u8 48, .int .u8 3, .int .u8 2, .int .u8 1, .int .u8 5] 5))) := (Below.refl _ _).alloc (Nat.le_refl _) _
  go_enter Try.func9, Try.ntmps9
  go_wp2_with fail
  refine (tread_any _ 5 5 _ _ R0.out (by omega) (by omega) (fun e => by cases e)).mono ?_
  rintro e w2 ⟨hb2, hways⟩
  rw [awake_reads] at hways
  rcases hways with ⟨z, hz, _⟩ | ⟨t, v, ht, rfl, hin⟩
  · cases hz
  have WT : Hid (writeZ t = ([48, 3, 2, 1, 5], 0) ∧ t.kids.length = 1) := by
    injection ht with ht
    subst ht
    exact ⟨awake_writes, rfl⟩
  obtain ⟨A, n, c, K, m, d, rfl⟩ := hin.form
  obtain rfl : m = 1 := (hin.in).parts.2.2.trans WT.out.2
  have I2 := Lib.hid (T.In.below ((Below.refl _ _).alloc (Nat.le_refl _) (.cells #[.int .i64 t.tag, .slice A n c, .slice K 1 d] 26)) _ hin.in)
  have K2 := Lib.hid (Blk.new w2 26 #[.int .i64 t.tag, .slice A n c, .slice K 1 d])
  have B2 := Lib.hid (Below.step (Below.step B0.out hb2) ((Below.refl w2.heap.size w2).alloc (Nat.le_refl _) (.cells #[.int .i64 t.tag, .slice A n c, .slice K 1 d] 26)))
  clear hb2 hin ht R0 B0
  go_wp2_with fail
  refine (twrite_any t _ _ I2.out (wt_of_write (by rw [WT.out.1]))).mono ?_
  intro e w3 h3
  rw [WT.out.1] at h3
  obtain ⟨a3, c3, rfl, hr3, hn3, hb3, _⟩ := h3
  have B3 := Lib.hid (Below.step B2.out hb3)
  have K3 := Lib.hid (K2.out.below hb3 (by simp))
  have R3 := Lib.hid hr3
  have R4 : Hid (Row (w3.alloc (.cells #[.int .u8 48, .int .u8 3, .int .u8 2, .int .u8 2, .int .u8 5] 5)) (some ⟨w3.heap.size, 0, none⟩) 5 [48, 3, 2, 2, 5]) :=
    row_const w3 [48, 3, 2, 2, 5] (0, 0) (by intro z hz; have : z = 48 ∨ z = 3 ∨ z = 2 ∨ z = 5 := (by simpa using hz); omega)
  have B4 : Hid (Below w3.heap.size w3 (w3.alloc (.cells #[.int .u8 48, .int .u8 3, .int .u8 2, .int .u8 2, .int .u8 5] 5))) := (Below.refl _ _).alloc (Nat.le_refl _) _
  clear hr3 hb3 I2 B2 K2 hn3
  go_wp2_with fail
  refine (tread_any _ 5 5 _ _ R4.out (by omega) (by omega) (fun e => by cases e)).mono ?_
  rintro e w5 ⟨hb5, hways⟩
  rw [awake_bad] at hways
  rcases hways with ⟨z, hz, rfl⟩ | ⟨t, v, ht, _, _⟩
  rotate_left
  · cases ht
  obtain rfl : (2 : Int) = z := by injection hz
  have K5 := Lib.hid (((K3.out.below B4.out K3.out.lt).below hb5 (Blk.lt (K3.out.below B4.out K3.out.lt))).alloc (.cells #[.int .i64 0, .slice none 0 0, .slice none 0 0] 26))
  have kc : (convert 22 9 (.slice a3 5 c3)).run Try.prog (w5.alloc (.cells #[.int .i64 0, .slice none 0 0, .slice none 0 0] 26)) = .ok (.string ⟨#[48, 3, 2, 1, 5]⟩) (w5.alloc (.cells #[.int .i64 0, .slice none 0 0, .slice none 0 0] 26)) := conv_at c3 (((R3.out.below B4.out).below hb5).below ((Below.refl w5.heap.size w5).alloc (Nat.le_refl _) (.cells #[.int .i64 0, .slice none 0 0, .slice none 0 0] 26)))
  have B5 := Lib.hid (Below.step (Below.step (Below.step B3.out B4.out) hb5) ((Below.refl w5.heap.size w5).alloc (Nat.le_refl _) (.cells #[.int .i64 0, .slice none 0 0, .slice none 0 0] 26)))
  obtain ⟨p0, p1, p2, f0, f1, f2⟩ := K5.out.facts
  clear hb5 hz R3 R4 B4 K3
  go_wp2
  go_ret
  exact ⟨rfl, B5.out⟩

end Go.Proofs.Ytefdfdnfpacfjaa
