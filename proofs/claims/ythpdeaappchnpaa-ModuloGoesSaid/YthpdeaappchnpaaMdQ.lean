/-
  The calls of stage 8's laws (modulo), and its awake.
-/
import Derived.Test.YthpdeaappchnpaaMdO
namespace Go.Proofs.Ythpdeaappchnpaa
open Go.RowKit
set_option linter.unusedVariables false

theorem one_num (v : Int) (W : World) (g : Nat) (v0 : 0 ≤ v) (v1 : v ≤ 4294967295) (hg : g = W.heap.size) : Num (W.alloc (.cells #[.int .u32 v] 35)) v (some ⟨g, 0, none⟩) 1 1 := by
  subst hg
  obtain ⟨a1, c1, e1, r1⟩ := (out_one32 W v).row (by intro q hq; simp at hq; omega)
  injection e1 with e1 e2 e3
  subst e1 e3
  exact ⟨_, r1, by simp [valZ], Nat.le_refl _, fun e => by cases e⟩
theorem limZ_one {v : Int} (v0 : 0 < v) (v1 : v ≤ 4294967295) : limZ v = [v] := by
  have e := limZ_of (l := [v]) (fun x hx => by simp at hx; omega) (fun x hx => by simp at hx; omega)
  rw [show valZ [v] = v by simp [valZ]] at e
  exact e.symm
theorem norm_one {w : World} {v : Int} {a : Option Addr} {n c : Nat} (h : Norm w v a n c) (v0 : 0 < v) (v1 : v ≤ 4294967295) : n = 1 ∧ ∃ b off, a = some ⟨b, off, none⟩ ∧ b < w.heap.size ∧ w.cell? ⟨b, off, none⟩ = some (.int .u32 v) := by
  obtain ⟨hn, hr, _, _⟩ := h
  rw [limZ_one v0 v1] at hn hr
  obtain rfl : n = 1 := hn
  obtain ⟨b, off, e, hb, hc⟩ := hr.2.2 (by omega)
  exact ⟨rfl, b, off, e, hb, hc 0 (by omega)⟩

set_option maxHeartbeats 1000000 in
set_option maxRecDepth 10000 in
theorem awake_any (w : World) : Calls Try.prog 8 #[] w fun e w' => e = .returned (.bool true) ∧ Below w.heap.size w w' := by
  have AL : Hid (∀ (W : World) (o : Obj), Below W.heap.size W (W.alloc o)) := Lib.hid (fun W o => (Below.refl _ _).alloc (Nat.le_refl _) o)
  have DC := Lib.hid (divmod_call ((one_num 100 w _ (by omega) (by omega) rfl).below (AL.out (w.alloc (.cells #[.int .u32 100] 35)) (.cells #[.int .u32 7] 35))) (one_num 7 (w.alloc (.cells #[.int .u32 100] 35)) (w.heap.size + 1) (by omega) (by omega) (by simp)) (by omega) (by omega))
  go_enter Try.func8, Try.ntmps8
  go_wp2_with fail
  refine DC.out.mono ?_
  rintro e w2 ⟨qa, n1, c1, ra, n2, c2, rfl, hq, hr, h1, h2, hb⟩
  rw [show (100 : Int) / 7 = 14 by decide] at hq
  rw [show remZ 100 7 = 2 by decide] at hr
  obtain ⟨rfl, b1, o1, rfl, hb1, cl1⟩ := norm_one hq (by omega) (by omega)
  obtain ⟨rfl, b2, o2, rfl, hb2, cl2⟩ := norm_one hr (by omega) (by omega)
  have D1 := Lib.hid cl1
  have D2 := Lib.hid cl2
  have B2 := Lib.hid (Below.step ((AL.out w (.cells #[.int .u32 100] 35)).alloc (by simp) (.cells #[.int .u32 7] 35)) hb)
  rw [show (!decide ((7 : Int) = 0)) = true from rfl]
  clear DC hq hr hb cl1 cl2
  go_wp2_with fail
  have EC := Lib.hid (exp_call (w := ((w2.alloc (.cells #[.int .u32 3] 35)).alloc (.cells #[.int .u32 4] 35)).alloc (.cells #[.int .u32 7] 35)) (((one_num 3 w2 _ (by omega) (by omega) rfl).below (AL.out _ _)).below (AL.out _ _)) ((one_num 4 (w2.alloc (.cells #[.int .u32 3] 35)) (w2.heap.size + 1) (by omega) (by omega) (by simp)).below (AL.out _ _)) (one_num 7 ((w2.alloc (.cells #[.int .u32 3] 35)).alloc (.cells #[.int .u32 4] 35)) (w2.heap.size + 1 + 1) (by omega) (by omega) (by simp)) (by omega) (by omega) (by omega))
  have B3 := Lib.hid (Below.step B2.out (((AL.out w2 (.cells #[.int .u32 3] 35)).alloc (by simp) (.cells #[.int .u32 4] 35)).alloc (by simp; omega) (.cells #[.int .u32 7] 35)))
  have E2 := Lib.hid (((AL.out w2 (.cells #[.int .u32 3] 35)).alloc (by simp) (.cells #[.int .u32 4] 35)).alloc (by simp; omega) (.cells #[.int .u32 7] 35))
  refine EC.out.mono ?_
  rintro e w3 ⟨a3, n3, c3, rfl, hN, h3, hb3⟩
  rw [show remZ ((3 : Int) ^ (4 : Int).toNat) 7 = 4 by decide] at hN
  obtain ⟨rfl, b4, o4, rfl, hb4, c4⟩ := norm_one hN (by omega) (by omega)
  have B4 := Lib.hid (Below.step B3.out hb3)
  have E3 := Below.step E2.out hb3
  have d1 : w3.cell? ⟨b1, o1, none⟩ = some (.int .u32 14) := (E3.cell (p := ⟨b1, o1, none⟩) hb1).trans D1.out
  have d2 : w3.cell? ⟨b2, o2, none⟩ = some (.int .u32 2) := (E3.cell (p := ⟨b2, o2, none⟩) hb2).trans D2.out
  rw [show (!decide ((7 : Int) = 0)) = true from rfl]
  clear EC hN hb3 E3 E2 B3 B2 D1 D2
  go_wp2_with fail
  go_ret
  exact ⟨rfl, B4.out⟩

end Go.Proofs.Ythpdeaappchnpaa
