/-
  Stage 9's awake (rsa).
-/
import Derived.Test.YtdhablbfblkagaaRsC
namespace Go.Proofs.Ytdhablbfblkagaa
open Go.RowKit
set_option linter.unusedVariables false

def H7 : List Int := 7 :: List.replicate 31 0
set_option maxHeartbeats 1000000 in
set_option maxRecDepth 100000 in
theorem awake_any (w : World) : Calls Try.prog 4 #[] w fun e w' => e = .returned (.bool true) ∧ Below w.heap.size w w' := by
  have CF := Lib.hid (frame_any H7 62 w rfl (by intro x hx; simp [H7] at hx; omega) (by omega) (by omega))
  rw [show frE 62 = 0 from rfl, show frB H7 62 = frameZ H7 62 from rfl] at CF
  go_enter Try.func4, Try.ntmps4
  go_wp2_with (refine wpList_buildTo rfl 22 #[(0, .const (.int .u8 7))] rfl (some 4) rfl (bcells H7) (by kernel_rfl) ?_)
  refine CF.out.mono ?_
  rintro r w1 ⟨a, c, rfl, hr, hc, hn, hb⟩
  have B1 := Lib.hid hb
  have L62 : (frameZ H7 62).length = 62 := rfl
  rw [L62] at hr hc
  obtain ⟨b, off, rfl, hlt, hcell⟩ := hr.2.2 (by omega)
  have c1 := hcell 1 (by omega)
  have c9 := hcell 9 (by omega)
  have c10 := hcell 10 (by omega)
  have c11 := hcell 11 (by omega)
  have c30 := hcell 30 (by omega)
  rw [show (frameZ H7 62)[1]?.getD 0 = 1 from rfl] at c1
  rw [show (frameZ H7 62)[9]?.getD 0 = 255 from rfl] at c9
  rw [show (frameZ H7 62)[10]?.getD 0 = 0 from rfl] at c10
  rw [show (frameZ H7 62)[11]?.getD 0 = 48 from rfl] at c11
  rw [show (frameZ H7 62)[30]?.getD 0 = 7 from rfl] at c30
  rw [L62]
  clear CF hr hb hcell L62 hn hc
  generalize bcells H7 = z7 at *
  go_wp2_with fail
  go_ret
  exact ⟨rfl, B1.out⟩

end Go.Proofs.Ytdhablbfblkagaa
