/-
  Proved: for every two arrays of six ints the law ClockOrder returns true, and each argument reads afterwards as it read before. No condition. (The frame is the guide's; the walk is by hand.)
-/
import Derived.Test.YtebefamnmmbdnaaRows
import Derived.Test.YtebefamnmmbdnaaLess
import Derived.Test.YtebefamnmmbdnaaArr
import Derived.Deep.QuietTactic
import Derived.BigQuiet
import Derived.WalkKit
import Derived.ProofKit
import Derived.OpenShut
import Derived.ShutString
import Derived.ChangeOld
import Derived.Below
namespace Go.Proofs.Ytebefamnmmbdnaa.clockOrder
open Go.ChangeShapes Go.WideShapes Go.ChangeAt Go.RowKit
open Go.ChangeMaps (open_string shut_string)
set_option linter.unusedVariables false

theorem own : ownKnob Try.prog.godebug = none := by kernel_rfl
theorem laidOut : laidOutB Try.prog = true := by kernel_rfl

theorem keeps_drewN {B : Nat} {w W : World} (k : Below B w W) (m : Nat) : Below B w (W.drewN m) := { k with }
/-- The first k parts are the same. -/
def Eqs (a b : D6) (k : Nat) : Prop := (0 < k → a.y = b.y) ∧ (1 < k → a.m = b.m) ∧ (2 < k → a.d = b.d) ∧ (3 < k → a.h = b.h) ∧ (4 < k → a.i = b.i) ∧ (5 < k → a.s = b.s)

/-! ### STEP 1: THE WALK -/
set_option maxRecDepth 100000 in
set_option maxHeartbeats 20000000 in
theorem walk (xy0 xm0 xd0 xh0 xn0 xs0 : Int) (xy1 xm1 xd1 xh1 xn1 xs1 : Int) (w : World) :
    Calls Try.prog 6 #[.agg #[.int .i64 xy0, .int .i64 xm0, .int .i64 xd0, .int .i64 xh0, .int .i64 xn0, .int .i64 xs0], .agg #[.int .i64 xy1, .int .i64 xm1, .int .i64 xd1, .int .i64 xh1, .int .i64 xn1, .int .i64 xs1]] w fun e w' => e = .returned (.bool true) ∧ Below w.heap.size w w' := by
  have S1 := Lib.hid (fun W => secs_any xy0 xm0 xd0 xh0 xn0 xs0 W)
  have S2 := Lib.hid (fun W => secs_any xy1 xm1 xd1 xh1 xn1 xs1 W)
  have K0 := Lib.hid ((Blk.new w 22 (d6c xy0 xm0 xd0 xh0 xn0 xs0)).alloc (.cells (d6c xy1 xm1 xd1 xh1 xn1 xs1) 22))
  have K1 := Lib.hid (Blk.new (w.alloc (.cells (d6c xy0 xm0 xd0 xh0 xn0 xs0) 22)) 22 (d6c xy1 xm1 xd1 xh1 xn1 xs1))
  rw [show (w.alloc (.cells (d6c xy0 xm0 xd0 xh0 xn0 xs0) 22)).heap.size = w.heap.size + 1 by simp] at K1
  have KB := Lib.hid (((Below.refl w.heap.size w).alloc (Nat.le_refl _) (.cells (d6c xy0 xm0 xd0 xh0 xn0 xs0) 22)).alloc (by simp) (.cells (d6c xy1 xm1 xd1 xh1 xn1 xs1) 22))
  simp only [d6c] at K0 K1 KB
  unfold GivesS at S1 S2
  go_enter Try.func6, Try.ntmps6
  go_wp2_with fail
  refine (awake_any _).mono ?_
  rintro e w1 ⟨rfl, hb1⟩
  have Kp : Hid (Blk w1 w.heap.size 22 (d6c xy0 xm0 xd0 xh0 xn0 xs0)) := Lib.hid (K0.out.below hb1 (by simp; omega))
  have Kq : Hid (Blk w1 (w.heap.size + 1) 22 (d6c xy1 xm1 xd1 xh1 xn1 xs1)) := Lib.hid (K1.out.below hb1 (by simp))
  have B1 := Lib.hid (Below.step KB.out hb1)
  clear hb1 K0 K1 KB
  have p0 : w1.cell? ⟨w.heap.size, 0, none⟩ = some (.int .i64 xy0) := Kp.out.cell 0
  have p1 : w1.cell? ⟨w.heap.size, 1, none⟩ = some (.int .i64 xm0) := Kp.out.cell 1
  have p2 : w1.cell? ⟨w.heap.size, 2, none⟩ = some (.int .i64 xd0) := Kp.out.cell 2
  have p3 : w1.cell? ⟨w.heap.size, 3, none⟩ = some (.int .i64 xh0) := Kp.out.cell 3
  have p4 : w1.cell? ⟨w.heap.size, 4, none⟩ = some (.int .i64 xn0) := Kp.out.cell 4
  have p5 : w1.cell? ⟨w.heap.size, 5, none⟩ = some (.int .i64 xs0) := Kp.out.cell 5
  go_wp2_with fail
  refine (S1.out _).mono ?_
  rintro e w2 ⟨rfl, hb2⟩
  clear p0 p1 p2 p3 p4 p5
  have KA := Lib.hid (Kp.out.below hb2 Kp.out.lt)
  have Kr := Lib.hid (Kq.out.below hb2 Kq.out.lt)
  have B2 := Lib.hid (Below.step B1.out hb2)
  clear hb2 Kp Kq B1 S1
  have r0 : w2.cell? ⟨w.heap.size + 1, 0, none⟩ = some (.int .i64 xy1) := Kr.out.cell 0
  have r1 : w2.cell? ⟨w.heap.size + 1, 1, none⟩ = some (.int .i64 xm1) := Kr.out.cell 1
  have r2 : w2.cell? ⟨w.heap.size + 1, 2, none⟩ = some (.int .i64 xd1) := Kr.out.cell 2
  have r3 : w2.cell? ⟨w.heap.size + 1, 3, none⟩ = some (.int .i64 xh1) := Kr.out.cell 3
  have r4 : w2.cell? ⟨w.heap.size + 1, 4, none⟩ = some (.int .i64 xn1) := Kr.out.cell 4
  have r5 : w2.cell? ⟨w.heap.size + 1, 5, none⟩ = some (.int .i64 xs1) := Kr.out.cell 5
  go_wp2_with fail
  refine (S2.out _).mono ?_
  rintro e w3 ⟨rfl, hb3⟩
  clear r0 r1 r2 r3 r4 r5
  have Kp := Lib.hid (KA.out.below hb3 KA.out.lt)
  have Kq := Lib.hid (Kr.out.below hb3 Kr.out.lt)
  have B3 := Lib.hid (Below.step B2.out hb3)
  clear hb3 KA Kr B2 S2
  by_cases hA : (⟨xy0, xm0, xd0, xh0, xn0, xs0⟩ : D6).ok
  rotate_left
  · rw [(show okB ⟨xy0, xm0, xd0, xh0, xn0, xs0⟩ = false from okB_false hA)]
    go_wp2
    go_ret
    exact ⟨rfl, B3.out⟩
  by_cases hB : (⟨xy1, xm1, xd1, xh1, xn1, xs1⟩ : D6).ok
  rotate_left
  · rw [(show okB ⟨xy0, xm0, xd0, xh0, xn0, xs0⟩ = true from okB_true hA), (show okB ⟨xy1, xm1, xd1, xh1, xn1, xs1⟩ = false from okB_false hB)]
    go_wp2
    go_ret
    exact ⟨rfl, B3.out⟩
  have va : secsR ⟨xy0, xm0, xd0, xh0, xn0, xs0⟩ = secs ⟨xy0, xm0, xd0, xh0, xn0, xs0⟩ := by unfold secsR; rw [if_pos (okB_true hA)]
  have vb : secsR ⟨xy1, xm1, xd1, xh1, xn1, xs1⟩ = secs ⟨xy1, xm1, xd1, xh1, xn1, xs1⟩ := by unfold secsR; rw [if_pos (okB_true hB)]
  rw [(show okB ⟨xy0, xm0, xd0, xh0, xn0, xs0⟩ = true from okB_true hA), (show okB ⟨xy1, xm1, xd1, xh1, xn1, xs1⟩ = true from okB_true hB), va, vb]
  clear va vb
  have CLa := Lib.hid (fun W => long_is (v := secs ⟨xy0, xm0, xd0, xh0, xn0, xs0⟩) ⟨hA, rfl⟩ W)
  have CLb := Lib.hid (fun W => long_is (v := secs ⟨xy1, xm1, xd1, xh1, xn1, xs1⟩) ⟨hB, rfl⟩ W)
  have HA := Lib.hid hA
  have HB := Lib.hid hB
  clear hA hB
  go_wp2
  go_loopw [10, 11] (fun l x wr => ∃ k n : Nat, k ≤ 6 ∧ x = .int .i64 (k : Int) ∧ l = .bool false ∧ Eqs ⟨xy0, xm0, xd0, xh0, xn0, xs0⟩ ⟨xy1, xm1, xd1, xh1, xn1, xs1⟩ k ∧ wr = w3.drewN n) (fun _ x _ => 6 - (intOf x).toNat)
  case atStart => exact ⟨0, 0, by omega, rfl, rfl, by unfold Eqs; omega, rfl⟩
  case round =>
    obtain ⟨k, n, hk, rfl, rfl, heq, rfl⟩ := hrel
    have HQ := Lib.hid heq
    clear heq
    rcases k with _ | _ | _ | _ | _ | _ | _ | k
    · have p0 : w3.cell? ⟨w.heap.size, 0, none⟩ = some (.int .i64 xy0) := Kp.out.cell 0
      have q0 : w3.cell? ⟨w.heap.size + 1, 0, none⟩ = some (.int .i64 xy1) := Kq.out.cell 0
      by_cases c : xy0 = xy1
      · have t1 : (xy0 != xy1) = false := by simpa using c
        have HN : Hid (Eqs ⟨xy0, xm0, xd0, xh0, xn0, xs0⟩ ⟨xy1, xm1, xd1, xh1, xn1, xs1⟩ 1) := by
          have := HQ.out
          unfold Eqs at this
          unfold Hid Eqs
          simp only at this ⊢
          omega
        clear c HQ
        go_wp2
        go_quiet (fail)
        go_wp2
        go_roundw
        case rel => exact ⟨1, _, by omega, by go_num, rfl, HN.out, rfl⟩
        case measure => simp [intOf]
      · have t1 : (xy0 != xy1) = true := by simpa using c
        have hq' := HQ.out
        unfold Eqs at hq'
        simp only at hq'
        by_cases cl : xy0 < xy1
        · have AN : Hid (Ans ⟨xy0, xm0, xd0, xh0, xn0, xs0⟩ ⟨xy1, xm1, xd1, xh1, xn1, xs1⟩ true false) := Lib.hid (ans_lt HA.out HB.out (by unfold D6.lt; simp only; omega))
          have t2 : decide (xy0 < xy1) = true := by simpa using cl
          clear hq' c cl HQ
          go_wp2
          go_quiet (fail)
          go_wp2
          go_quiet (fail)
          go_wp2_with fail
          refine (CLa.out _).mono ?_
          rintro e u1 ⟨rfl, hb1⟩
          go_wp2_with fail
          refine (CLb.out _).mono ?_
          rintro e u2 ⟨rfl, hb2⟩
          have Kx : Hid (Blk u2 w.heap.size 22 (d6c xy0 xm0 xd0 xh0 xn0 xs0)) := Lib.hid (((Kp.out.drewN _).below hb1 Kp.out.lt).below hb2 ((Kp.out.drewN _).below hb1 Kp.out.lt).lt)
          have Kz : Hid (Blk u2 (w.heap.size + 1) 22 (d6c xy1 xm1 xd1 xh1 xn1 xs1)) := Lib.hid (((Kq.out.drewN _).below hb1 Kq.out.lt).below hb2 ((Kq.out.drewN _).below hb1 Kq.out.lt).lt)
          have BF := Lib.hid (Below.step (Below.step (keeps_drewN B3.out _) hb1) hb2)
          clear hb1 hb2 Kp Kq B3 CLa CLb
          have x0 : u2.cell? ⟨w.heap.size, 0, none⟩ = some (.int .i64 xy0) := Kx.out.cell 0
          have x1 : u2.cell? ⟨w.heap.size, 1, none⟩ = some (.int .i64 xm0) := Kx.out.cell 1
          have x2 : u2.cell? ⟨w.heap.size, 2, none⟩ = some (.int .i64 xd0) := Kx.out.cell 2
          have x3 : u2.cell? ⟨w.heap.size, 3, none⟩ = some (.int .i64 xh0) := Kx.out.cell 3
          have x4 : u2.cell? ⟨w.heap.size, 4, none⟩ = some (.int .i64 xn0) := Kx.out.cell 4
          have x5 : u2.cell? ⟨w.heap.size, 5, none⟩ = some (.int .i64 xs0) := Kx.out.cell 5
          have z0 : u2.cell? ⟨w.heap.size + 1, 0, none⟩ = some (.int .i64 xy1) := Kz.out.cell 0
          have z1 : u2.cell? ⟨w.heap.size + 1, 1, none⟩ = some (.int .i64 xm1) := Kz.out.cell 1
          have z2 : u2.cell? ⟨w.heap.size + 1, 2, none⟩ = some (.int .i64 xd1) := Kz.out.cell 2
          have z3 : u2.cell? ⟨w.heap.size + 1, 3, none⟩ = some (.int .i64 xh1) := Kz.out.cell 3
          have z4 : u2.cell? ⟨w.heap.size + 1, 4, none⟩ = some (.int .i64 xn1) := Kz.out.cell 4
          have z5 : u2.cell? ⟨w.heap.size + 1, 5, none⟩ = some (.int .i64 xs1) := Kz.out.cell 5
          obtain ⟨s1, s2, s3, s4⟩ := AN.out
          have hq := fun W => eq6 xy0 xm0 xd0 xh0 xn0 xs0 xy1 xm1 xd1 xh1 xn1 xs1 W
          simp only at s4
          rw [s4] at hq
          clear s4 AN
          generalize secs ⟨xy0, xm0, xd0, xh0, xn0, xs0⟩ = X at s1 s3 ⊢
          generalize secs ⟨xy1, xm1, xd1, xh1, xn1, xs1⟩ = Y at s1 s3 ⊢
          generalize strOfNums (⟨xy0, xm0, xd0, xh0, xn0, xs0⟩ : D6).long = S at s2 ⊢
          generalize strOfNums (⟨xy1, xm1, xd1, xh1, xn1, xs1⟩ : D6).long = T at s2 ⊢
          go_wp2
          go_ret
          exact ⟨rfl, BF.out⟩
        · have AN : Hid (Ans ⟨xy0, xm0, xd0, xh0, xn0, xs0⟩ ⟨xy1, xm1, xd1, xh1, xn1, xs1⟩ false false) := Lib.hid (ans_gt HA.out HB.out (by unfold D6.lt; simp only; omega))
          have t2 : decide (xy0 < xy1) = false := by simpa using cl
          clear hq' c cl HQ
          go_wp2
          go_quiet (fail)
          go_wp2
          go_quiet (fail)
          go_wp2_with fail
          refine (CLa.out _).mono ?_
          rintro e u1 ⟨rfl, hb1⟩
          go_wp2_with fail
          refine (CLb.out _).mono ?_
          rintro e u2 ⟨rfl, hb2⟩
          have Kx : Hid (Blk u2 w.heap.size 22 (d6c xy0 xm0 xd0 xh0 xn0 xs0)) := Lib.hid (((Kp.out.drewN _).below hb1 Kp.out.lt).below hb2 ((Kp.out.drewN _).below hb1 Kp.out.lt).lt)
          have Kz : Hid (Blk u2 (w.heap.size + 1) 22 (d6c xy1 xm1 xd1 xh1 xn1 xs1)) := Lib.hid (((Kq.out.drewN _).below hb1 Kq.out.lt).below hb2 ((Kq.out.drewN _).below hb1 Kq.out.lt).lt)
          have BF := Lib.hid (Below.step (Below.step (keeps_drewN B3.out _) hb1) hb2)
          clear hb1 hb2 Kp Kq B3 CLa CLb
          have x0 : u2.cell? ⟨w.heap.size, 0, none⟩ = some (.int .i64 xy0) := Kx.out.cell 0
          have x1 : u2.cell? ⟨w.heap.size, 1, none⟩ = some (.int .i64 xm0) := Kx.out.cell 1
          have x2 : u2.cell? ⟨w.heap.size, 2, none⟩ = some (.int .i64 xd0) := Kx.out.cell 2
          have x3 : u2.cell? ⟨w.heap.size, 3, none⟩ = some (.int .i64 xh0) := Kx.out.cell 3
          have x4 : u2.cell? ⟨w.heap.size, 4, none⟩ = some (.int .i64 xn0) := Kx.out.cell 4
          have x5 : u2.cell? ⟨w.heap.size, 5, none⟩ = some (.int .i64 xs0) := Kx.out.cell 5
          have z0 : u2.cell? ⟨w.heap.size + 1, 0, none⟩ = some (.int .i64 xy1) := Kz.out.cell 0
          have z1 : u2.cell? ⟨w.heap.size + 1, 1, none⟩ = some (.int .i64 xm1) := Kz.out.cell 1
          have z2 : u2.cell? ⟨w.heap.size + 1, 2, none⟩ = some (.int .i64 xd1) := Kz.out.cell 2
          have z3 : u2.cell? ⟨w.heap.size + 1, 3, none⟩ = some (.int .i64 xh1) := Kz.out.cell 3
          have z4 : u2.cell? ⟨w.heap.size + 1, 4, none⟩ = some (.int .i64 xn1) := Kz.out.cell 4
          have z5 : u2.cell? ⟨w.heap.size + 1, 5, none⟩ = some (.int .i64 xs1) := Kz.out.cell 5
          obtain ⟨s1, s2, s3, s4⟩ := AN.out
          have hq := fun W => eq6 xy0 xm0 xd0 xh0 xn0 xs0 xy1 xm1 xd1 xh1 xn1 xs1 W
          simp only at s4
          rw [s4] at hq
          clear s4 AN
          generalize secs ⟨xy0, xm0, xd0, xh0, xn0, xs0⟩ = X at s1 s3 ⊢
          generalize secs ⟨xy1, xm1, xd1, xh1, xn1, xs1⟩ = Y at s1 s3 ⊢
          generalize strOfNums (⟨xy0, xm0, xd0, xh0, xn0, xs0⟩ : D6).long = S at s2 ⊢
          generalize strOfNums (⟨xy1, xm1, xd1, xh1, xn1, xs1⟩ : D6).long = T at s2 ⊢
          go_wp2
          go_ret
          exact ⟨rfl, BF.out⟩
    · have p1 : w3.cell? ⟨w.heap.size, 1, none⟩ = some (.int .i64 xm0) := Kp.out.cell 1
      have q1 : w3.cell? ⟨w.heap.size + 1, 1, none⟩ = some (.int .i64 xm1) := Kq.out.cell 1
      by_cases c : xm0 = xm1
      · have t1 : (xm0 != xm1) = false := by simpa using c
        have HN : Hid (Eqs ⟨xy0, xm0, xd0, xh0, xn0, xs0⟩ ⟨xy1, xm1, xd1, xh1, xn1, xs1⟩ 2) := by
          have := HQ.out
          unfold Eqs at this
          unfold Hid Eqs
          simp only at this ⊢
          omega
        clear c HQ
        go_wp2
        go_quiet (fail)
        go_wp2
        go_roundw
        case rel => exact ⟨2, _, by omega, by go_num, rfl, HN.out, rfl⟩
        case measure => simp [intOf]
      · have t1 : (xm0 != xm1) = true := by simpa using c
        have hq' := HQ.out
        unfold Eqs at hq'
        simp only at hq'
        by_cases cl : xm0 < xm1
        · have AN : Hid (Ans ⟨xy0, xm0, xd0, xh0, xn0, xs0⟩ ⟨xy1, xm1, xd1, xh1, xn1, xs1⟩ true false) := Lib.hid (ans_lt HA.out HB.out (by unfold D6.lt; simp only; omega))
          have t2 : decide (xm0 < xm1) = true := by simpa using cl
          clear hq' c cl HQ
          go_wp2
          go_quiet (fail)
          go_wp2
          go_quiet (fail)
          go_wp2_with fail
          refine (CLa.out _).mono ?_
          rintro e u1 ⟨rfl, hb1⟩
          go_wp2_with fail
          refine (CLb.out _).mono ?_
          rintro e u2 ⟨rfl, hb2⟩
          have Kx : Hid (Blk u2 w.heap.size 22 (d6c xy0 xm0 xd0 xh0 xn0 xs0)) := Lib.hid (((Kp.out.drewN _).below hb1 Kp.out.lt).below hb2 ((Kp.out.drewN _).below hb1 Kp.out.lt).lt)
          have Kz : Hid (Blk u2 (w.heap.size + 1) 22 (d6c xy1 xm1 xd1 xh1 xn1 xs1)) := Lib.hid (((Kq.out.drewN _).below hb1 Kq.out.lt).below hb2 ((Kq.out.drewN _).below hb1 Kq.out.lt).lt)
          have BF := Lib.hid (Below.step (Below.step (keeps_drewN B3.out _) hb1) hb2)
          clear hb1 hb2 Kp Kq B3 CLa CLb
          have x0 : u2.cell? ⟨w.heap.size, 0, none⟩ = some (.int .i64 xy0) := Kx.out.cell 0
          have x1 : u2.cell? ⟨w.heap.size, 1, none⟩ = some (.int .i64 xm0) := Kx.out.cell 1
          have x2 : u2.cell? ⟨w.heap.size, 2, none⟩ = some (.int .i64 xd0) := Kx.out.cell 2
          have x3 : u2.cell? ⟨w.heap.size, 3, none⟩ = some (.int .i64 xh0) := Kx.out.cell 3
          have x4 : u2.cell? ⟨w.heap.size, 4, none⟩ = some (.int .i64 xn0) := Kx.out.cell 4
          have x5 : u2.cell? ⟨w.heap.size, 5, none⟩ = some (.int .i64 xs0) := Kx.out.cell 5
          have z0 : u2.cell? ⟨w.heap.size + 1, 0, none⟩ = some (.int .i64 xy1) := Kz.out.cell 0
          have z1 : u2.cell? ⟨w.heap.size + 1, 1, none⟩ = some (.int .i64 xm1) := Kz.out.cell 1
          have z2 : u2.cell? ⟨w.heap.size + 1, 2, none⟩ = some (.int .i64 xd1) := Kz.out.cell 2
          have z3 : u2.cell? ⟨w.heap.size + 1, 3, none⟩ = some (.int .i64 xh1) := Kz.out.cell 3
          have z4 : u2.cell? ⟨w.heap.size + 1, 4, none⟩ = some (.int .i64 xn1) := Kz.out.cell 4
          have z5 : u2.cell? ⟨w.heap.size + 1, 5, none⟩ = some (.int .i64 xs1) := Kz.out.cell 5
          obtain ⟨s1, s2, s3, s4⟩ := AN.out
          have hq := fun W => eq6 xy0 xm0 xd0 xh0 xn0 xs0 xy1 xm1 xd1 xh1 xn1 xs1 W
          simp only at s4
          rw [s4] at hq
          clear s4 AN
          generalize secs ⟨xy0, xm0, xd0, xh0, xn0, xs0⟩ = X at s1 s3 ⊢
          generalize secs ⟨xy1, xm1, xd1, xh1, xn1, xs1⟩ = Y at s1 s3 ⊢
          generalize strOfNums (⟨xy0, xm0, xd0, xh0, xn0, xs0⟩ : D6).long = S at s2 ⊢
          generalize strOfNums (⟨xy1, xm1, xd1, xh1, xn1, xs1⟩ : D6).long = T at s2 ⊢
          go_wp2
          go_ret
          exact ⟨rfl, BF.out⟩
        · have AN : Hid (Ans ⟨xy0, xm0, xd0, xh0, xn0, xs0⟩ ⟨xy1, xm1, xd1, xh1, xn1, xs1⟩ false false) := Lib.hid (ans_gt HA.out HB.out (by unfold D6.lt; simp only; omega))
          have t2 : decide (xm0 < xm1) = false := by simpa using cl
          clear hq' c cl HQ
          go_wp2
          go_quiet (fail)
          go_wp2
          go_quiet (fail)
          go_wp2_with fail
          refine (CLa.out _).mono ?_
          rintro e u1 ⟨rfl, hb1⟩
          go_wp2_with fail
          refine (CLb.out _).mono ?_
          rintro e u2 ⟨rfl, hb2⟩
          have Kx : Hid (Blk u2 w.heap.size 22 (d6c xy0 xm0 xd0 xh0 xn0 xs0)) := Lib.hid (((Kp.out.drewN _).below hb1 Kp.out.lt).below hb2 ((Kp.out.drewN _).below hb1 Kp.out.lt).lt)
          have Kz : Hid (Blk u2 (w.heap.size + 1) 22 (d6c xy1 xm1 xd1 xh1 xn1 xs1)) := Lib.hid (((Kq.out.drewN _).below hb1 Kq.out.lt).below hb2 ((Kq.out.drewN _).below hb1 Kq.out.lt).lt)
          have BF := Lib.hid (Below.step (Below.step (keeps_drewN B3.out _) hb1) hb2)
          clear hb1 hb2 Kp Kq B3 CLa CLb
          have x0 : u2.cell? ⟨w.heap.size, 0, none⟩ = some (.int .i64 xy0) := Kx.out.cell 0
          have x1 : u2.cell? ⟨w.heap.size, 1, none⟩ = some (.int .i64 xm0) := Kx.out.cell 1
          have x2 : u2.cell? ⟨w.heap.size, 2, none⟩ = some (.int .i64 xd0) := Kx.out.cell 2
          have x3 : u2.cell? ⟨w.heap.size, 3, none⟩ = some (.int .i64 xh0) := Kx.out.cell 3
          have x4 : u2.cell? ⟨w.heap.size, 4, none⟩ = some (.int .i64 xn0) := Kx.out.cell 4
          have x5 : u2.cell? ⟨w.heap.size, 5, none⟩ = some (.int .i64 xs0) := Kx.out.cell 5
          have z0 : u2.cell? ⟨w.heap.size + 1, 0, none⟩ = some (.int .i64 xy1) := Kz.out.cell 0
          have z1 : u2.cell? ⟨w.heap.size + 1, 1, none⟩ = some (.int .i64 xm1) := Kz.out.cell 1
          have z2 : u2.cell? ⟨w.heap.size + 1, 2, none⟩ = some (.int .i64 xd1) := Kz.out.cell 2
          have z3 : u2.cell? ⟨w.heap.size + 1, 3, none⟩ = some (.int .i64 xh1) := Kz.out.cell 3
          have z4 : u2.cell? ⟨w.heap.size + 1, 4, none⟩ = some (.int .i64 xn1) := Kz.out.cell 4
          have z5 : u2.cell? ⟨w.heap.size + 1, 5, none⟩ = some (.int .i64 xs1) := Kz.out.cell 5
          obtain ⟨s1, s2, s3, s4⟩ := AN.out
          have hq := fun W => eq6 xy0 xm0 xd0 xh0 xn0 xs0 xy1 xm1 xd1 xh1 xn1 xs1 W
          simp only at s4
          rw [s4] at hq
          clear s4 AN
          generalize secs ⟨xy0, xm0, xd0, xh0, xn0, xs0⟩ = X at s1 s3 ⊢
          generalize secs ⟨xy1, xm1, xd1, xh1, xn1, xs1⟩ = Y at s1 s3 ⊢
          generalize strOfNums (⟨xy0, xm0, xd0, xh0, xn0, xs0⟩ : D6).long = S at s2 ⊢
          generalize strOfNums (⟨xy1, xm1, xd1, xh1, xn1, xs1⟩ : D6).long = T at s2 ⊢
          go_wp2
          go_ret
          exact ⟨rfl, BF.out⟩
    · have p2 : w3.cell? ⟨w.heap.size, 2, none⟩ = some (.int .i64 xd0) := Kp.out.cell 2
      have q2 : w3.cell? ⟨w.heap.size + 1, 2, none⟩ = some (.int .i64 xd1) := Kq.out.cell 2
      by_cases c : xd0 = xd1
      · have t1 : (xd0 != xd1) = false := by simpa using c
        have HN : Hid (Eqs ⟨xy0, xm0, xd0, xh0, xn0, xs0⟩ ⟨xy1, xm1, xd1, xh1, xn1, xs1⟩ 3) := by
          have := HQ.out
          unfold Eqs at this
          unfold Hid Eqs
          simp only at this ⊢
          omega
        clear c HQ
        go_wp2
        go_quiet (fail)
        go_wp2
        go_roundw
        case rel => exact ⟨3, _, by omega, by go_num, rfl, HN.out, rfl⟩
        case measure => simp [intOf]
      · have t1 : (xd0 != xd1) = true := by simpa using c
        have hq' := HQ.out
        unfold Eqs at hq'
        simp only at hq'
        by_cases cl : xd0 < xd1
        · have AN : Hid (Ans ⟨xy0, xm0, xd0, xh0, xn0, xs0⟩ ⟨xy1, xm1, xd1, xh1, xn1, xs1⟩ true false) := Lib.hid (ans_lt HA.out HB.out (by unfold D6.lt; simp only; omega))
          have t2 : decide (xd0 < xd1) = true := by simpa using cl
          clear hq' c cl HQ
          go_wp2
          go_quiet (fail)
          go_wp2
          go_quiet (fail)
          go_wp2_with fail
          refine (CLa.out _).mono ?_
          rintro e u1 ⟨rfl, hb1⟩
          go_wp2_with fail
          refine (CLb.out _).mono ?_
          rintro e u2 ⟨rfl, hb2⟩
          have Kx : Hid (Blk u2 w.heap.size 22 (d6c xy0 xm0 xd0 xh0 xn0 xs0)) := Lib.hid (((Kp.out.drewN _).below hb1 Kp.out.lt).below hb2 ((Kp.out.drewN _).below hb1 Kp.out.lt).lt)
          have Kz : Hid (Blk u2 (w.heap.size + 1) 22 (d6c xy1 xm1 xd1 xh1 xn1 xs1)) := Lib.hid (((Kq.out.drewN _).below hb1 Kq.out.lt).below hb2 ((Kq.out.drewN _).below hb1 Kq.out.lt).lt)
          have BF := Lib.hid (Below.step (Below.step (keeps_drewN B3.out _) hb1) hb2)
          clear hb1 hb2 Kp Kq B3 CLa CLb
          have x0 : u2.cell? ⟨w.heap.size, 0, none⟩ = some (.int .i64 xy0) := Kx.out.cell 0
          have x1 : u2.cell? ⟨w.heap.size, 1, none⟩ = some (.int .i64 xm0) := Kx.out.cell 1
          have x2 : u2.cell? ⟨w.heap.size, 2, none⟩ = some (.int .i64 xd0) := Kx.out.cell 2
          have x3 : u2.cell? ⟨w.heap.size, 3, none⟩ = some (.int .i64 xh0) := Kx.out.cell 3
          have x4 : u2.cell? ⟨w.heap.size, 4, none⟩ = some (.int .i64 xn0) := Kx.out.cell 4
          have x5 : u2.cell? ⟨w.heap.size, 5, none⟩ = some (.int .i64 xs0) := Kx.out.cell 5
          have z0 : u2.cell? ⟨w.heap.size + 1, 0, none⟩ = some (.int .i64 xy1) := Kz.out.cell 0
          have z1 : u2.cell? ⟨w.heap.size + 1, 1, none⟩ = some (.int .i64 xm1) := Kz.out.cell 1
          have z2 : u2.cell? ⟨w.heap.size + 1, 2, none⟩ = some (.int .i64 xd1) := Kz.out.cell 2
          have z3 : u2.cell? ⟨w.heap.size + 1, 3, none⟩ = some (.int .i64 xh1) := Kz.out.cell 3
          have z4 : u2.cell? ⟨w.heap.size + 1, 4, none⟩ = some (.int .i64 xn1) := Kz.out.cell 4
          have z5 : u2.cell? ⟨w.heap.size + 1, 5, none⟩ = some (.int .i64 xs1) := Kz.out.cell 5
          obtain ⟨s1, s2, s3, s4⟩ := AN.out
          have hq := fun W => eq6 xy0 xm0 xd0 xh0 xn0 xs0 xy1 xm1 xd1 xh1 xn1 xs1 W
          simp only at s4
          rw [s4] at hq
          clear s4 AN
          generalize secs ⟨xy0, xm0, xd0, xh0, xn0, xs0⟩ = X at s1 s3 ⊢
          generalize secs ⟨xy1, xm1, xd1, xh1, xn1, xs1⟩ = Y at s1 s3 ⊢
          generalize strOfNums (⟨xy0, xm0, xd0, xh0, xn0, xs0⟩ : D6).long = S at s2 ⊢
          generalize strOfNums (⟨xy1, xm1, xd1, xh1, xn1, xs1⟩ : D6).long = T at s2 ⊢
          go_wp2
          go_ret
          exact ⟨rfl, BF.out⟩
        · have AN : Hid (Ans ⟨xy0, xm0, xd0, xh0, xn0, xs0⟩ ⟨xy1, xm1, xd1, xh1, xn1, xs1⟩ false false) := Lib.hid (ans_gt HA.out HB.out (by unfold D6.lt; simp only; omega))
          have t2 : decide (xd0 < xd1) = false := by simpa using cl
          clear hq' c cl HQ
          go_wp2
          go_quiet (fail)
          go_wp2
          go_quiet (fail)
          go_wp2_with fail
          refine (CLa.out _).mono ?_
          rintro e u1 ⟨rfl, hb1⟩
          go_wp2_with fail
          refine (CLb.out _).mono ?_
          rintro e u2 ⟨rfl, hb2⟩
          have Kx : Hid (Blk u2 w.heap.size 22 (d6c xy0 xm0 xd0 xh0 xn0 xs0)) := Lib.hid (((Kp.out.drewN _).below hb1 Kp.out.lt).below hb2 ((Kp.out.drewN _).below hb1 Kp.out.lt).lt)
          have Kz : Hid (Blk u2 (w.heap.size + 1) 22 (d6c xy1 xm1 xd1 xh1 xn1 xs1)) := Lib.hid (((Kq.out.drewN _).below hb1 Kq.out.lt).below hb2 ((Kq.out.drewN _).below hb1 Kq.out.lt).lt)
          have BF := Lib.hid (Below.step (Below.step (keeps_drewN B3.out _) hb1) hb2)
          clear hb1 hb2 Kp Kq B3 CLa CLb
          have x0 : u2.cell? ⟨w.heap.size, 0, none⟩ = some (.int .i64 xy0) := Kx.out.cell 0
          have x1 : u2.cell? ⟨w.heap.size, 1, none⟩ = some (.int .i64 xm0) := Kx.out.cell 1
          have x2 : u2.cell? ⟨w.heap.size, 2, none⟩ = some (.int .i64 xd0) := Kx.out.cell 2
          have x3 : u2.cell? ⟨w.heap.size, 3, none⟩ = some (.int .i64 xh0) := Kx.out.cell 3
          have x4 : u2.cell? ⟨w.heap.size, 4, none⟩ = some (.int .i64 xn0) := Kx.out.cell 4
          have x5 : u2.cell? ⟨w.heap.size, 5, none⟩ = some (.int .i64 xs0) := Kx.out.cell 5
          have z0 : u2.cell? ⟨w.heap.size + 1, 0, none⟩ = some (.int .i64 xy1) := Kz.out.cell 0
          have z1 : u2.cell? ⟨w.heap.size + 1, 1, none⟩ = some (.int .i64 xm1) := Kz.out.cell 1
          have z2 : u2.cell? ⟨w.heap.size + 1, 2, none⟩ = some (.int .i64 xd1) := Kz.out.cell 2
          have z3 : u2.cell? ⟨w.heap.size + 1, 3, none⟩ = some (.int .i64 xh1) := Kz.out.cell 3
          have z4 : u2.cell? ⟨w.heap.size + 1, 4, none⟩ = some (.int .i64 xn1) := Kz.out.cell 4
          have z5 : u2.cell? ⟨w.heap.size + 1, 5, none⟩ = some (.int .i64 xs1) := Kz.out.cell 5
          obtain ⟨s1, s2, s3, s4⟩ := AN.out
          have hq := fun W => eq6 xy0 xm0 xd0 xh0 xn0 xs0 xy1 xm1 xd1 xh1 xn1 xs1 W
          simp only at s4
          rw [s4] at hq
          clear s4 AN
          generalize secs ⟨xy0, xm0, xd0, xh0, xn0, xs0⟩ = X at s1 s3 ⊢
          generalize secs ⟨xy1, xm1, xd1, xh1, xn1, xs1⟩ = Y at s1 s3 ⊢
          generalize strOfNums (⟨xy0, xm0, xd0, xh0, xn0, xs0⟩ : D6).long = S at s2 ⊢
          generalize strOfNums (⟨xy1, xm1, xd1, xh1, xn1, xs1⟩ : D6).long = T at s2 ⊢
          go_wp2
          go_ret
          exact ⟨rfl, BF.out⟩
    · have p3 : w3.cell? ⟨w.heap.size, 3, none⟩ = some (.int .i64 xh0) := Kp.out.cell 3
      have q3 : w3.cell? ⟨w.heap.size + 1, 3, none⟩ = some (.int .i64 xh1) := Kq.out.cell 3
      by_cases c : xh0 = xh1
      · have t1 : (xh0 != xh1) = false := by simpa using c
        have HN : Hid (Eqs ⟨xy0, xm0, xd0, xh0, xn0, xs0⟩ ⟨xy1, xm1, xd1, xh1, xn1, xs1⟩ 4) := by
          have := HQ.out
          unfold Eqs at this
          unfold Hid Eqs
          simp only at this ⊢
          omega
        clear c HQ
        go_wp2
        go_quiet (fail)
        go_wp2
        go_roundw
        case rel => exact ⟨4, _, by omega, by go_num, rfl, HN.out, rfl⟩
        case measure => simp [intOf]
      · have t1 : (xh0 != xh1) = true := by simpa using c
        have hq' := HQ.out
        unfold Eqs at hq'
        simp only at hq'
        by_cases cl : xh0 < xh1
        · have AN : Hid (Ans ⟨xy0, xm0, xd0, xh0, xn0, xs0⟩ ⟨xy1, xm1, xd1, xh1, xn1, xs1⟩ true false) := Lib.hid (ans_lt HA.out HB.out (by unfold D6.lt; simp only; omega))
          have t2 : decide (xh0 < xh1) = true := by simpa using cl
          clear hq' c cl HQ
          go_wp2
          go_quiet (fail)
          go_wp2
          go_quiet (fail)
          go_wp2_with fail
          refine (CLa.out _).mono ?_
          rintro e u1 ⟨rfl, hb1⟩
          go_wp2_with fail
          refine (CLb.out _).mono ?_
          rintro e u2 ⟨rfl, hb2⟩
          have Kx : Hid (Blk u2 w.heap.size 22 (d6c xy0 xm0 xd0 xh0 xn0 xs0)) := Lib.hid (((Kp.out.drewN _).below hb1 Kp.out.lt).below hb2 ((Kp.out.drewN _).below hb1 Kp.out.lt).lt)
          have Kz : Hid (Blk u2 (w.heap.size + 1) 22 (d6c xy1 xm1 xd1 xh1 xn1 xs1)) := Lib.hid (((Kq.out.drewN _).below hb1 Kq.out.lt).below hb2 ((Kq.out.drewN _).below hb1 Kq.out.lt).lt)
          have BF := Lib.hid (Below.step (Below.step (keeps_drewN B3.out _) hb1) hb2)
          clear hb1 hb2 Kp Kq B3 CLa CLb
          have x0 : u2.cell? ⟨w.heap.size, 0, none⟩ = some (.int .i64 xy0) := Kx.out.cell 0
          have x1 : u2.cell? ⟨w.heap.size, 1, none⟩ = some (.int .i64 xm0) := Kx.out.cell 1
          have x2 : u2.cell? ⟨w.heap.size, 2, none⟩ = some (.int .i64 xd0) := Kx.out.cell 2
          have x3 : u2.cell? ⟨w.heap.size, 3, none⟩ = some (.int .i64 xh0) := Kx.out.cell 3
          have x4 : u2.cell? ⟨w.heap.size, 4, none⟩ = some (.int .i64 xn0) := Kx.out.cell 4
          have x5 : u2.cell? ⟨w.heap.size, 5, none⟩ = some (.int .i64 xs0) := Kx.out.cell 5
          have z0 : u2.cell? ⟨w.heap.size + 1, 0, none⟩ = some (.int .i64 xy1) := Kz.out.cell 0
          have z1 : u2.cell? ⟨w.heap.size + 1, 1, none⟩ = some (.int .i64 xm1) := Kz.out.cell 1
          have z2 : u2.cell? ⟨w.heap.size + 1, 2, none⟩ = some (.int .i64 xd1) := Kz.out.cell 2
          have z3 : u2.cell? ⟨w.heap.size + 1, 3, none⟩ = some (.int .i64 xh1) := Kz.out.cell 3
          have z4 : u2.cell? ⟨w.heap.size + 1, 4, none⟩ = some (.int .i64 xn1) := Kz.out.cell 4
          have z5 : u2.cell? ⟨w.heap.size + 1, 5, none⟩ = some (.int .i64 xs1) := Kz.out.cell 5
          obtain ⟨s1, s2, s3, s4⟩ := AN.out
          have hq := fun W => eq6 xy0 xm0 xd0 xh0 xn0 xs0 xy1 xm1 xd1 xh1 xn1 xs1 W
          simp only at s4
          rw [s4] at hq
          clear s4 AN
          generalize secs ⟨xy0, xm0, xd0, xh0, xn0, xs0⟩ = X at s1 s3 ⊢
          generalize secs ⟨xy1, xm1, xd1, xh1, xn1, xs1⟩ = Y at s1 s3 ⊢
          generalize strOfNums (⟨xy0, xm0, xd0, xh0, xn0, xs0⟩ : D6).long = S at s2 ⊢
          generalize strOfNums (⟨xy1, xm1, xd1, xh1, xn1, xs1⟩ : D6).long = T at s2 ⊢
          go_wp2
          go_ret
          exact ⟨rfl, BF.out⟩
        · have AN : Hid (Ans ⟨xy0, xm0, xd0, xh0, xn0, xs0⟩ ⟨xy1, xm1, xd1, xh1, xn1, xs1⟩ false false) := Lib.hid (ans_gt HA.out HB.out (by unfold D6.lt; simp only; omega))
          have t2 : decide (xh0 < xh1) = false := by simpa using cl
          clear hq' c cl HQ
          go_wp2
          go_quiet (fail)
          go_wp2
          go_quiet (fail)
          go_wp2_with fail
          refine (CLa.out _).mono ?_
          rintro e u1 ⟨rfl, hb1⟩
          go_wp2_with fail
          refine (CLb.out _).mono ?_
          rintro e u2 ⟨rfl, hb2⟩
          have Kx : Hid (Blk u2 w.heap.size 22 (d6c xy0 xm0 xd0 xh0 xn0 xs0)) := Lib.hid (((Kp.out.drewN _).below hb1 Kp.out.lt).below hb2 ((Kp.out.drewN _).below hb1 Kp.out.lt).lt)
          have Kz : Hid (Blk u2 (w.heap.size + 1) 22 (d6c xy1 xm1 xd1 xh1 xn1 xs1)) := Lib.hid (((Kq.out.drewN _).below hb1 Kq.out.lt).below hb2 ((Kq.out.drewN _).below hb1 Kq.out.lt).lt)
          have BF := Lib.hid (Below.step (Below.step (keeps_drewN B3.out _) hb1) hb2)
          clear hb1 hb2 Kp Kq B3 CLa CLb
          have x0 : u2.cell? ⟨w.heap.size, 0, none⟩ = some (.int .i64 xy0) := Kx.out.cell 0
          have x1 : u2.cell? ⟨w.heap.size, 1, none⟩ = some (.int .i64 xm0) := Kx.out.cell 1
          have x2 : u2.cell? ⟨w.heap.size, 2, none⟩ = some (.int .i64 xd0) := Kx.out.cell 2
          have x3 : u2.cell? ⟨w.heap.size, 3, none⟩ = some (.int .i64 xh0) := Kx.out.cell 3
          have x4 : u2.cell? ⟨w.heap.size, 4, none⟩ = some (.int .i64 xn0) := Kx.out.cell 4
          have x5 : u2.cell? ⟨w.heap.size, 5, none⟩ = some (.int .i64 xs0) := Kx.out.cell 5
          have z0 : u2.cell? ⟨w.heap.size + 1, 0, none⟩ = some (.int .i64 xy1) := Kz.out.cell 0
          have z1 : u2.cell? ⟨w.heap.size + 1, 1, none⟩ = some (.int .i64 xm1) := Kz.out.cell 1
          have z2 : u2.cell? ⟨w.heap.size + 1, 2, none⟩ = some (.int .i64 xd1) := Kz.out.cell 2
          have z3 : u2.cell? ⟨w.heap.size + 1, 3, none⟩ = some (.int .i64 xh1) := Kz.out.cell 3
          have z4 : u2.cell? ⟨w.heap.size + 1, 4, none⟩ = some (.int .i64 xn1) := Kz.out.cell 4
          have z5 : u2.cell? ⟨w.heap.size + 1, 5, none⟩ = some (.int .i64 xs1) := Kz.out.cell 5
          obtain ⟨s1, s2, s3, s4⟩ := AN.out
          have hq := fun W => eq6 xy0 xm0 xd0 xh0 xn0 xs0 xy1 xm1 xd1 xh1 xn1 xs1 W
          simp only at s4
          rw [s4] at hq
          clear s4 AN
          generalize secs ⟨xy0, xm0, xd0, xh0, xn0, xs0⟩ = X at s1 s3 ⊢
          generalize secs ⟨xy1, xm1, xd1, xh1, xn1, xs1⟩ = Y at s1 s3 ⊢
          generalize strOfNums (⟨xy0, xm0, xd0, xh0, xn0, xs0⟩ : D6).long = S at s2 ⊢
          generalize strOfNums (⟨xy1, xm1, xd1, xh1, xn1, xs1⟩ : D6).long = T at s2 ⊢
          go_wp2
          go_ret
          exact ⟨rfl, BF.out⟩
    · have p4 : w3.cell? ⟨w.heap.size, 4, none⟩ = some (.int .i64 xn0) := Kp.out.cell 4
      have q4 : w3.cell? ⟨w.heap.size + 1, 4, none⟩ = some (.int .i64 xn1) := Kq.out.cell 4
      by_cases c : xn0 = xn1
      · have t1 : (xn0 != xn1) = false := by simpa using c
        have HN : Hid (Eqs ⟨xy0, xm0, xd0, xh0, xn0, xs0⟩ ⟨xy1, xm1, xd1, xh1, xn1, xs1⟩ 5) := by
          have := HQ.out
          unfold Eqs at this
          unfold Hid Eqs
          simp only at this ⊢
          omega
        clear c HQ
        go_wp2
        go_quiet (fail)
        go_wp2
        go_roundw
        case rel => exact ⟨5, _, by omega, by go_num, rfl, HN.out, rfl⟩
        case measure => simp [intOf]
      · have t1 : (xn0 != xn1) = true := by simpa using c
        have hq' := HQ.out
        unfold Eqs at hq'
        simp only at hq'
        by_cases cl : xn0 < xn1
        · have AN : Hid (Ans ⟨xy0, xm0, xd0, xh0, xn0, xs0⟩ ⟨xy1, xm1, xd1, xh1, xn1, xs1⟩ true false) := Lib.hid (ans_lt HA.out HB.out (by unfold D6.lt; simp only; omega))
          have t2 : decide (xn0 < xn1) = true := by simpa using cl
          clear hq' c cl HQ
          go_wp2
          go_quiet (fail)
          go_wp2
          go_quiet (fail)
          go_wp2_with fail
          refine (CLa.out _).mono ?_
          rintro e u1 ⟨rfl, hb1⟩
          go_wp2_with fail
          refine (CLb.out _).mono ?_
          rintro e u2 ⟨rfl, hb2⟩
          have Kx : Hid (Blk u2 w.heap.size 22 (d6c xy0 xm0 xd0 xh0 xn0 xs0)) := Lib.hid (((Kp.out.drewN _).below hb1 Kp.out.lt).below hb2 ((Kp.out.drewN _).below hb1 Kp.out.lt).lt)
          have Kz : Hid (Blk u2 (w.heap.size + 1) 22 (d6c xy1 xm1 xd1 xh1 xn1 xs1)) := Lib.hid (((Kq.out.drewN _).below hb1 Kq.out.lt).below hb2 ((Kq.out.drewN _).below hb1 Kq.out.lt).lt)
          have BF := Lib.hid (Below.step (Below.step (keeps_drewN B3.out _) hb1) hb2)
          clear hb1 hb2 Kp Kq B3 CLa CLb
          have x0 : u2.cell? ⟨w.heap.size, 0, none⟩ = some (.int .i64 xy0) := Kx.out.cell 0
          have x1 : u2.cell? ⟨w.heap.size, 1, none⟩ = some (.int .i64 xm0) := Kx.out.cell 1
          have x2 : u2.cell? ⟨w.heap.size, 2, none⟩ = some (.int .i64 xd0) := Kx.out.cell 2
          have x3 : u2.cell? ⟨w.heap.size, 3, none⟩ = some (.int .i64 xh0) := Kx.out.cell 3
          have x4 : u2.cell? ⟨w.heap.size, 4, none⟩ = some (.int .i64 xn0) := Kx.out.cell 4
          have x5 : u2.cell? ⟨w.heap.size, 5, none⟩ = some (.int .i64 xs0) := Kx.out.cell 5
          have z0 : u2.cell? ⟨w.heap.size + 1, 0, none⟩ = some (.int .i64 xy1) := Kz.out.cell 0
          have z1 : u2.cell? ⟨w.heap.size + 1, 1, none⟩ = some (.int .i64 xm1) := Kz.out.cell 1
          have z2 : u2.cell? ⟨w.heap.size + 1, 2, none⟩ = some (.int .i64 xd1) := Kz.out.cell 2
          have z3 : u2.cell? ⟨w.heap.size + 1, 3, none⟩ = some (.int .i64 xh1) := Kz.out.cell 3
          have z4 : u2.cell? ⟨w.heap.size + 1, 4, none⟩ = some (.int .i64 xn1) := Kz.out.cell 4
          have z5 : u2.cell? ⟨w.heap.size + 1, 5, none⟩ = some (.int .i64 xs1) := Kz.out.cell 5
          obtain ⟨s1, s2, s3, s4⟩ := AN.out
          have hq := fun W => eq6 xy0 xm0 xd0 xh0 xn0 xs0 xy1 xm1 xd1 xh1 xn1 xs1 W
          simp only at s4
          rw [s4] at hq
          clear s4 AN
          generalize secs ⟨xy0, xm0, xd0, xh0, xn0, xs0⟩ = X at s1 s3 ⊢
          generalize secs ⟨xy1, xm1, xd1, xh1, xn1, xs1⟩ = Y at s1 s3 ⊢
          generalize strOfNums (⟨xy0, xm0, xd0, xh0, xn0, xs0⟩ : D6).long = S at s2 ⊢
          generalize strOfNums (⟨xy1, xm1, xd1, xh1, xn1, xs1⟩ : D6).long = T at s2 ⊢
          go_wp2
          go_ret
          exact ⟨rfl, BF.out⟩
        · have AN : Hid (Ans ⟨xy0, xm0, xd0, xh0, xn0, xs0⟩ ⟨xy1, xm1, xd1, xh1, xn1, xs1⟩ false false) := Lib.hid (ans_gt HA.out HB.out (by unfold D6.lt; simp only; omega))
          have t2 : decide (xn0 < xn1) = false := by simpa using cl
          clear hq' c cl HQ
          go_wp2
          go_quiet (fail)
          go_wp2
          go_quiet (fail)
          go_wp2_with fail
          refine (CLa.out _).mono ?_
          rintro e u1 ⟨rfl, hb1⟩
          go_wp2_with fail
          refine (CLb.out _).mono ?_
          rintro e u2 ⟨rfl, hb2⟩
          have Kx : Hid (Blk u2 w.heap.size 22 (d6c xy0 xm0 xd0 xh0 xn0 xs0)) := Lib.hid (((Kp.out.drewN _).below hb1 Kp.out.lt).below hb2 ((Kp.out.drewN _).below hb1 Kp.out.lt).lt)
          have Kz : Hid (Blk u2 (w.heap.size + 1) 22 (d6c xy1 xm1 xd1 xh1 xn1 xs1)) := Lib.hid (((Kq.out.drewN _).below hb1 Kq.out.lt).below hb2 ((Kq.out.drewN _).below hb1 Kq.out.lt).lt)
          have BF := Lib.hid (Below.step (Below.step (keeps_drewN B3.out _) hb1) hb2)
          clear hb1 hb2 Kp Kq B3 CLa CLb
          have x0 : u2.cell? ⟨w.heap.size, 0, none⟩ = some (.int .i64 xy0) := Kx.out.cell 0
          have x1 : u2.cell? ⟨w.heap.size, 1, none⟩ = some (.int .i64 xm0) := Kx.out.cell 1
          have x2 : u2.cell? ⟨w.heap.size, 2, none⟩ = some (.int .i64 xd0) := Kx.out.cell 2
          have x3 : u2.cell? ⟨w.heap.size, 3, none⟩ = some (.int .i64 xh0) := Kx.out.cell 3
          have x4 : u2.cell? ⟨w.heap.size, 4, none⟩ = some (.int .i64 xn0) := Kx.out.cell 4
          have x5 : u2.cell? ⟨w.heap.size, 5, none⟩ = some (.int .i64 xs0) := Kx.out.cell 5
          have z0 : u2.cell? ⟨w.heap.size + 1, 0, none⟩ = some (.int .i64 xy1) := Kz.out.cell 0
          have z1 : u2.cell? ⟨w.heap.size + 1, 1, none⟩ = some (.int .i64 xm1) := Kz.out.cell 1
          have z2 : u2.cell? ⟨w.heap.size + 1, 2, none⟩ = some (.int .i64 xd1) := Kz.out.cell 2
          have z3 : u2.cell? ⟨w.heap.size + 1, 3, none⟩ = some (.int .i64 xh1) := Kz.out.cell 3
          have z4 : u2.cell? ⟨w.heap.size + 1, 4, none⟩ = some (.int .i64 xn1) := Kz.out.cell 4
          have z5 : u2.cell? ⟨w.heap.size + 1, 5, none⟩ = some (.int .i64 xs1) := Kz.out.cell 5
          obtain ⟨s1, s2, s3, s4⟩ := AN.out
          have hq := fun W => eq6 xy0 xm0 xd0 xh0 xn0 xs0 xy1 xm1 xd1 xh1 xn1 xs1 W
          simp only at s4
          rw [s4] at hq
          clear s4 AN
          generalize secs ⟨xy0, xm0, xd0, xh0, xn0, xs0⟩ = X at s1 s3 ⊢
          generalize secs ⟨xy1, xm1, xd1, xh1, xn1, xs1⟩ = Y at s1 s3 ⊢
          generalize strOfNums (⟨xy0, xm0, xd0, xh0, xn0, xs0⟩ : D6).long = S at s2 ⊢
          generalize strOfNums (⟨xy1, xm1, xd1, xh1, xn1, xs1⟩ : D6).long = T at s2 ⊢
          go_wp2
          go_ret
          exact ⟨rfl, BF.out⟩
    · have p5 : w3.cell? ⟨w.heap.size, 5, none⟩ = some (.int .i64 xs0) := Kp.out.cell 5
      have q5 : w3.cell? ⟨w.heap.size + 1, 5, none⟩ = some (.int .i64 xs1) := Kq.out.cell 5
      by_cases c : xs0 = xs1
      · have t1 : (xs0 != xs1) = false := by simpa using c
        have HN : Hid (Eqs ⟨xy0, xm0, xd0, xh0, xn0, xs0⟩ ⟨xy1, xm1, xd1, xh1, xn1, xs1⟩ 6) := by
          have := HQ.out
          unfold Eqs at this
          unfold Hid Eqs
          simp only at this ⊢
          omega
        clear c HQ
        go_wp2
        go_quiet (fail)
        go_wp2
        go_roundw
        case rel => exact ⟨6, _, by omega, by go_num, rfl, HN.out, rfl⟩
        case measure => simp [intOf]
      · have t1 : (xs0 != xs1) = true := by simpa using c
        have hq' := HQ.out
        unfold Eqs at hq'
        simp only at hq'
        by_cases cl : xs0 < xs1
        · have AN : Hid (Ans ⟨xy0, xm0, xd0, xh0, xn0, xs0⟩ ⟨xy1, xm1, xd1, xh1, xn1, xs1⟩ true false) := Lib.hid (ans_lt HA.out HB.out (by unfold D6.lt; simp only; omega))
          have t2 : decide (xs0 < xs1) = true := by simpa using cl
          clear hq' c cl HQ
          go_wp2
          go_quiet (fail)
          go_wp2
          go_quiet (fail)
          go_wp2_with fail
          refine (CLa.out _).mono ?_
          rintro e u1 ⟨rfl, hb1⟩
          go_wp2_with fail
          refine (CLb.out _).mono ?_
          rintro e u2 ⟨rfl, hb2⟩
          have Kx : Hid (Blk u2 w.heap.size 22 (d6c xy0 xm0 xd0 xh0 xn0 xs0)) := Lib.hid (((Kp.out.drewN _).below hb1 Kp.out.lt).below hb2 ((Kp.out.drewN _).below hb1 Kp.out.lt).lt)
          have Kz : Hid (Blk u2 (w.heap.size + 1) 22 (d6c xy1 xm1 xd1 xh1 xn1 xs1)) := Lib.hid (((Kq.out.drewN _).below hb1 Kq.out.lt).below hb2 ((Kq.out.drewN _).below hb1 Kq.out.lt).lt)
          have BF := Lib.hid (Below.step (Below.step (keeps_drewN B3.out _) hb1) hb2)
          clear hb1 hb2 Kp Kq B3 CLa CLb
          have x0 : u2.cell? ⟨w.heap.size, 0, none⟩ = some (.int .i64 xy0) := Kx.out.cell 0
          have x1 : u2.cell? ⟨w.heap.size, 1, none⟩ = some (.int .i64 xm0) := Kx.out.cell 1
          have x2 : u2.cell? ⟨w.heap.size, 2, none⟩ = some (.int .i64 xd0) := Kx.out.cell 2
          have x3 : u2.cell? ⟨w.heap.size, 3, none⟩ = some (.int .i64 xh0) := Kx.out.cell 3
          have x4 : u2.cell? ⟨w.heap.size, 4, none⟩ = some (.int .i64 xn0) := Kx.out.cell 4
          have x5 : u2.cell? ⟨w.heap.size, 5, none⟩ = some (.int .i64 xs0) := Kx.out.cell 5
          have z0 : u2.cell? ⟨w.heap.size + 1, 0, none⟩ = some (.int .i64 xy1) := Kz.out.cell 0
          have z1 : u2.cell? ⟨w.heap.size + 1, 1, none⟩ = some (.int .i64 xm1) := Kz.out.cell 1
          have z2 : u2.cell? ⟨w.heap.size + 1, 2, none⟩ = some (.int .i64 xd1) := Kz.out.cell 2
          have z3 : u2.cell? ⟨w.heap.size + 1, 3, none⟩ = some (.int .i64 xh1) := Kz.out.cell 3
          have z4 : u2.cell? ⟨w.heap.size + 1, 4, none⟩ = some (.int .i64 xn1) := Kz.out.cell 4
          have z5 : u2.cell? ⟨w.heap.size + 1, 5, none⟩ = some (.int .i64 xs1) := Kz.out.cell 5
          obtain ⟨s1, s2, s3, s4⟩ := AN.out
          have hq := fun W => eq6 xy0 xm0 xd0 xh0 xn0 xs0 xy1 xm1 xd1 xh1 xn1 xs1 W
          simp only at s4
          rw [s4] at hq
          clear s4 AN
          generalize secs ⟨xy0, xm0, xd0, xh0, xn0, xs0⟩ = X at s1 s3 ⊢
          generalize secs ⟨xy1, xm1, xd1, xh1, xn1, xs1⟩ = Y at s1 s3 ⊢
          generalize strOfNums (⟨xy0, xm0, xd0, xh0, xn0, xs0⟩ : D6).long = S at s2 ⊢
          generalize strOfNums (⟨xy1, xm1, xd1, xh1, xn1, xs1⟩ : D6).long = T at s2 ⊢
          go_wp2
          go_ret
          exact ⟨rfl, BF.out⟩
        · have AN : Hid (Ans ⟨xy0, xm0, xd0, xh0, xn0, xs0⟩ ⟨xy1, xm1, xd1, xh1, xn1, xs1⟩ false false) := Lib.hid (ans_gt HA.out HB.out (by unfold D6.lt; simp only; omega))
          have t2 : decide (xs0 < xs1) = false := by simpa using cl
          clear hq' c cl HQ
          go_wp2
          go_quiet (fail)
          go_wp2
          go_quiet (fail)
          go_wp2_with fail
          refine (CLa.out _).mono ?_
          rintro e u1 ⟨rfl, hb1⟩
          go_wp2_with fail
          refine (CLb.out _).mono ?_
          rintro e u2 ⟨rfl, hb2⟩
          have Kx : Hid (Blk u2 w.heap.size 22 (d6c xy0 xm0 xd0 xh0 xn0 xs0)) := Lib.hid (((Kp.out.drewN _).below hb1 Kp.out.lt).below hb2 ((Kp.out.drewN _).below hb1 Kp.out.lt).lt)
          have Kz : Hid (Blk u2 (w.heap.size + 1) 22 (d6c xy1 xm1 xd1 xh1 xn1 xs1)) := Lib.hid (((Kq.out.drewN _).below hb1 Kq.out.lt).below hb2 ((Kq.out.drewN _).below hb1 Kq.out.lt).lt)
          have BF := Lib.hid (Below.step (Below.step (keeps_drewN B3.out _) hb1) hb2)
          clear hb1 hb2 Kp Kq B3 CLa CLb
          have x0 : u2.cell? ⟨w.heap.size, 0, none⟩ = some (.int .i64 xy0) := Kx.out.cell 0
          have x1 : u2.cell? ⟨w.heap.size, 1, none⟩ = some (.int .i64 xm0) := Kx.out.cell 1
          have x2 : u2.cell? ⟨w.heap.size, 2, none⟩ = some (.int .i64 xd0) := Kx.out.cell 2
          have x3 : u2.cell? ⟨w.heap.size, 3, none⟩ = some (.int .i64 xh0) := Kx.out.cell 3
          have x4 : u2.cell? ⟨w.heap.size, 4, none⟩ = some (.int .i64 xn0) := Kx.out.cell 4
          have x5 : u2.cell? ⟨w.heap.size, 5, none⟩ = some (.int .i64 xs0) := Kx.out.cell 5
          have z0 : u2.cell? ⟨w.heap.size + 1, 0, none⟩ = some (.int .i64 xy1) := Kz.out.cell 0
          have z1 : u2.cell? ⟨w.heap.size + 1, 1, none⟩ = some (.int .i64 xm1) := Kz.out.cell 1
          have z2 : u2.cell? ⟨w.heap.size + 1, 2, none⟩ = some (.int .i64 xd1) := Kz.out.cell 2
          have z3 : u2.cell? ⟨w.heap.size + 1, 3, none⟩ = some (.int .i64 xh1) := Kz.out.cell 3
          have z4 : u2.cell? ⟨w.heap.size + 1, 4, none⟩ = some (.int .i64 xn1) := Kz.out.cell 4
          have z5 : u2.cell? ⟨w.heap.size + 1, 5, none⟩ = some (.int .i64 xs1) := Kz.out.cell 5
          obtain ⟨s1, s2, s3, s4⟩ := AN.out
          have hq := fun W => eq6 xy0 xm0 xd0 xh0 xn0 xs0 xy1 xm1 xd1 xh1 xn1 xs1 W
          simp only at s4
          rw [s4] at hq
          clear s4 AN
          generalize secs ⟨xy0, xm0, xd0, xh0, xn0, xs0⟩ = X at s1 s3 ⊢
          generalize secs ⟨xy1, xm1, xd1, xh1, xn1, xs1⟩ = Y at s1 s3 ⊢
          generalize strOfNums (⟨xy0, xm0, xd0, xh0, xn0, xs0⟩ : D6).long = S at s2 ⊢
          generalize strOfNums (⟨xy1, xm1, xd1, xh1, xn1, xs1⟩ : D6).long = T at s2 ⊢
          go_wp2
          go_ret
          exact ⟨rfl, BF.out⟩
    · have hq' := HQ.out
      unfold Eqs at hq'
      simp only at hq'
      have AN : Hid (Ans ⟨xy0, xm0, xd0, xh0, xn0, xs0⟩ ⟨xy1, xm1, xd1, xh1, xn1, xs1⟩ false true) := by
        have e : (⟨xy0, xm0, xd0, xh0, xn0, xs0⟩ : D6) = ⟨xy1, xm1, xd1, xh1, xn1, xs1⟩ := by simp only [D6.mk.injEq]; omega
        rw [e]
        exact ans_eq _
      clear hq' HQ
      go_wp2_with fail
      refine (CLa.out _).mono ?_
      rintro e u1 ⟨rfl, hb1⟩
      go_wp2_with fail
      refine (CLb.out _).mono ?_
      rintro e u2 ⟨rfl, hb2⟩
      have Kx : Hid (Blk u2 w.heap.size 22 (d6c xy0 xm0 xd0 xh0 xn0 xs0)) := Lib.hid (((Kp.out.drewN _).below hb1 Kp.out.lt).below hb2 ((Kp.out.drewN _).below hb1 Kp.out.lt).lt)
      have Kz : Hid (Blk u2 (w.heap.size + 1) 22 (d6c xy1 xm1 xd1 xh1 xn1 xs1)) := Lib.hid (((Kq.out.drewN _).below hb1 Kq.out.lt).below hb2 ((Kq.out.drewN _).below hb1 Kq.out.lt).lt)
      have BF := Lib.hid (Below.step (Below.step (keeps_drewN B3.out _) hb1) hb2)
      clear hb1 hb2 Kp Kq B3 CLa CLb
      have x0 : u2.cell? ⟨w.heap.size, 0, none⟩ = some (.int .i64 xy0) := Kx.out.cell 0
      have x1 : u2.cell? ⟨w.heap.size, 1, none⟩ = some (.int .i64 xm0) := Kx.out.cell 1
      have x2 : u2.cell? ⟨w.heap.size, 2, none⟩ = some (.int .i64 xd0) := Kx.out.cell 2
      have x3 : u2.cell? ⟨w.heap.size, 3, none⟩ = some (.int .i64 xh0) := Kx.out.cell 3
      have x4 : u2.cell? ⟨w.heap.size, 4, none⟩ = some (.int .i64 xn0) := Kx.out.cell 4
      have x5 : u2.cell? ⟨w.heap.size, 5, none⟩ = some (.int .i64 xs0) := Kx.out.cell 5
      have z0 : u2.cell? ⟨w.heap.size + 1, 0, none⟩ = some (.int .i64 xy1) := Kz.out.cell 0
      have z1 : u2.cell? ⟨w.heap.size + 1, 1, none⟩ = some (.int .i64 xm1) := Kz.out.cell 1
      have z2 : u2.cell? ⟨w.heap.size + 1, 2, none⟩ = some (.int .i64 xd1) := Kz.out.cell 2
      have z3 : u2.cell? ⟨w.heap.size + 1, 3, none⟩ = some (.int .i64 xh1) := Kz.out.cell 3
      have z4 : u2.cell? ⟨w.heap.size + 1, 4, none⟩ = some (.int .i64 xn1) := Kz.out.cell 4
      have z5 : u2.cell? ⟨w.heap.size + 1, 5, none⟩ = some (.int .i64 xs1) := Kz.out.cell 5
      obtain ⟨s1, s2, s3, s4⟩ := AN.out
      have hq := fun W => eq6 xy0 xm0 xd0 xh0 xn0 xs0 xy1 xm1 xd1 xh1 xn1 xs1 W
      simp only at s4
      rw [s4] at hq
      clear s4 AN
      generalize secs ⟨xy0, xm0, xd0, xh0, xn0, xs0⟩ = X at s1 s3 ⊢
      generalize secs ⟨xy1, xm1, xd1, xh1, xn1, xs1⟩ = Y at s1 s3 ⊢
      generalize strOfNums (⟨xy0, xm0, xd0, xh0, xn0, xs0⟩ : D6).long = S at s2 ⊢
      generalize strOfNums (⟨xy1, xm1, xd1, xh1, xn1, xs1⟩ : D6).long = T at s2 ⊢
      go_wp2
      go_ret
      exact ⟨rfl, BF.out⟩
    · omega

/-! ### THE ROW's STEP -/
set_option maxRecDepth 100000 in
theorem lifted (os : Os) (started : os.Started) (H : Type) (enc : TypeId × Value → H) :
    ReturnsInHanded {} Try.checked os 6 .any (Rows.clockOrderSpec.pre6 enc Try.prog Try.f6 Rows.clockOrderRow.domain false) (Rows.clockOrderSpec.post enc Try.prog Try.f6 false true false false) := by
  refine returnsInHanded_of_change (C := Try.checked) own started (by kernel_rfl) Try.func6
    (ChangeSpec.witness6 (enc := enc) (C := Try.checked) false ⟨#[], #[.agg #[.int .i64 0, .int .i64 0, .int .i64 0, .int .i64 0, .int .i64 0, .int .i64 0], .agg #[.int .i64 0, .int .i64 0, .int .i64 0, .int .i64 0, .int .i64 0, .int .i64 0]], []⟩ 8 (by kernel_rfl) (by kernel_rfl) (by kernel_rfl) (by kernel_rfl)) ?_
  intro W base args ds gs before hval0 hW hcnd _
  have hval : ∀ (j : Nat) t v, Try.f6.params[j]? = some t → args[j]? = some v → Value.okWide Try.prog W .any base t v := hval0
  have hW' := hW
  obtain ⟨p, q, hA0, hV, rfl, hfz, hnd⟩ := hW
  have hA : DataW.TrodAll enc Try.prog W 0 (fun _ => true) true Try.f6.params.toList args.toList ds p := hA0
  rw [Try.params6] at hA hval
  obtain ⟨v0, vs0, d0, ds0, p0, q0, hargs, rfl, rfl, h0, r0⟩ := trodAll_cons hA
  obtain ⟨v1, vs1, d1, ds1, p1, q1, rfl, rfl, rfl, h1, r1⟩ := trodAll_cons r0
  obtain ⟨rfl, rfl, rfl⟩ := trodAll_nil r1
  obtain rfl : args = #[v0, v1] := by cases args; simp_all
  obtain ⟨rfl, rfl⟩ := trodVars_none hV
  have k0 := h0
  have lt0 : ∀ x ∈ p0, x.block < W.heap.size := by obtain ⟨m, hm⟩ := k0; exact DataW.trod_lt m _ _ _ hm
  obtain ⟨xy0, xm0, xd0, xh0, xn0, xs0, rfl⟩ := open6 (hval 0 22 v0 rfl rfl) h0
  have k1 := h1
  have lt1 : ∀ x ∈ p1, x.block < W.heap.size := by obtain ⟨m, hm⟩ := k1; exact DataW.trod_lt m _ _ _ hm
  obtain ⟨xy1, xm1, xd1, xh1, xn1, xs1, rfl⟩ := open6 (hval 1 22 v1 rfl rfl) h1
  clear hA0 hval0
  refine (walk xy0 xm0 xd0 xh0 xn0 xs0 xy1 xm1 xd1 xh1 xn1 xs1 W ).mono fun e W' ⟨he, bel⟩ => ?_
  subst he
  exact ⟨_, rfl, _, _, _, [], _, [], hW', trodAll_mk1 (shut_bool Try.underlying4 _), (trodAll_cons_mk (Below.trod laidOut (by kernel_rfl) (of_decide_eq_true (by kernel_rfl)) k0 bel lt0) (trodAll_cons_mk (Below.trod laidOut (by kernel_rfl) (of_decide_eq_true (by kernel_rfl)) k1 bel lt1) trodAll_mk0)), rfl, bel.frame _, fun h => by cases h⟩

theorem over : Rows.clockOrderRow.holds Try.pinned (OpenSpec.ofChange Rows.clockOrderSpec) :=
  OpenClaim.holds_of_wide 6 Try.f6 rfl rfl rfl rfl rfl rfl rfl ⟨rfl, rfl, rfl, rfl, rfl⟩ rfl rfl rfl rfl rfl (by kernel_rfl) Try.func6 (by kernel_rfl)
    (of_decide_eq_true (by kernel_rfl)) (by unfold Func.isWrapper; first | (rw [if_pos (by decide +kernel)]; kernel_rfl) | (rw [if_neg (by decide +kernel)]; exact ⟨rfl, rfl⟩))
    (fun os started H enc _ => lifted os started H enc)

theorem proved : Rows.ClockOrderSaid := over
#print axioms proved
end Go.Proofs.Ytebefamnmmbdnaa.clockOrder
