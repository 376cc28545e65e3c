/-
  The statements' first question of stage 1 (octet), that a small thing works, is answered by yes, and nothing that was there is changed.
-/
import Derived.Test.YtloilhcpkffihaaCmp
import Derived.Test.YtloilhcpkffihaaNum
import Derived.Test.YtloilhcpkffihaaLeast
import Derived.Test.YtloilhcpkffihaaHex
namespace Go.Proofs.Ytloilhcpkffihaa
open Go.RowKit

theorem row_ten (w : World) : Row (w.alloc (.cells #[.int .u8 1, .int .u8 0] 5)) (some ⟨w.heap.size, 0, none⟩) 2 [1, 0] := by
  refine ⟨rfl, by simp, fun _ => ⟨w.heap.size, 0, rfl, by simp, fun i hi => ?_⟩⟩
  rcases i with _ | _ | i
  · simp
  · simp
  · omega

theorem num_ten (w : World) : Calls Try.prog 13 #[.slice (some ⟨w.heap.size, 0, none⟩) 2 2] (w.alloc (.cells #[.int .u8 1, .int .u8 0] 5))
    fun e w' => e = .returned (.tuple #[.int .u64 256, .bool true]) ∧ w.alloc (.cells #[.int .u8 1, .int .u8 0] 5) = w' :=
  (num_any _ 2 2 [1, 0] _ (row_ten w) (by omega)).mono fun _ _ ⟨he, hw⟩ => ⟨by rw [he]; simp [numZ, B56], hw.symm⟩

def GivesThree (w : World) (e : Ending) (w' : World) : Prop :=
  ∃ a c, e = .returned (.tuple #[.slice a 3 c, .bool true]) ∧ Row w' a 3 [0, 1, 0] ∧ Below w.heap.size w w'

theorem bytes_three (w : World) : Calls Try.prog 15 #[.int .u64 256, .int .i64 3] w (GivesThree w) :=
  (bytes_ok 256 3 3 w rfl (by omega) (by omega) (by omega) (by decide)).mono fun _ _ h => h

theorem hex_three (a : Option Addr) (c : Nat) (w : World) (h : Row w a 3 [0, 1, 0]) :
    Calls Try.prog 11 #[.slice a 3 c] w fun e w' => e = .returned (.string ⟨#[48, 48, 48, 49, 48, 48]⟩) ∧ Below w.heap.size w w' :=
  (hex_any a 3 c [0, 1, 0] w h (by omega)).mono fun _ _ ⟨he, hb⟩ => ⟨he.trans (by rfl), hb⟩

set_option maxHeartbeats 400000 in
theorem awake_any (w : World) : Calls Try.prog 8 #[] w fun e w' => e = .returned (.bool true) ∧ Below w.heap.size w w' := by
  go_enter Try.func8, Try.ntmps8
  go_wp2_with fail
  refine (num_ten w).mono ?_
  rintro e w1 ⟨rfl, rfl⟩
  go_wp2_with fail
  refine (bytes_three _).mono ?_
  rintro e w2 ⟨a, c, rfl, hrow, hb2⟩
  go_wp2_with fail
  refine (hex_three a c _ hrow).mono ?_
  rintro e w3 ⟨rfl, hb3⟩
  go_wp2
  go_ret
  have h1 : Below w.heap.size w w2 := ((Below.refl _ _).alloc (Nat.le_refl _) _).trans (hb2.mono (by simp))
  exact ⟨rfl, h1.trans (hb3.mono h1.size)⟩

end Go.Proofs.Ytloilhcpkffihaa
