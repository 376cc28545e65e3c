/-
  The statements' first question of stage 2 (radix), that small things work, is answered by yes, and nothing that was there is changed.
-/
import Derived.Test.YtmmcmiljnmbfcaaDoorCode
import Derived.Lib.SlBytesConst
namespace Go.Proofs.YtmmcmiljnmbfcaaDoor
open Go.RowKit

/-- A new row of bytes. -/
theorem row_const (w : World) (zs : List Int) (fr : Nat × Nat) (hz : ∀ x ∈ zs, 0 ≤ x ∧ x ≤ 255) : Row (w.alloc (.cells (zs.map (Value.int .u8)).toArray 5 fr)) (some ⟨w.heap.size, 0, none⟩) zs.length zs := by
  refine ⟨rfl, hz, fun _ => ⟨w.heap.size, 0, rfl, by simp, fun i hi => ?_⟩⟩
  have e := heap_alloc_new w (.cells (zs.map (Value.int .u8)).toArray 5 fr)
  simp only [World.cell?, e]
  simp [hi]
theorem row_f (w : World) : Row (w.alloc (.cells #[.int .u8 102] 5 (1, 2))) (some ⟨w.heap.size, 0, none⟩) 1 [102] := row_const w [102] (1, 2) (by simp)
theorem row_foo (w : World) : Row (w.alloc (.cells #[.int .u8 102, .int .u8 111, .int .u8 111] 5 (3, 4))) (some ⟨w.heap.size, 0, none⟩) 3 [102, 111, 111] := row_const w [102, 111, 111] (3, 4) (by simp)

def GivesFo (w : World) (e : Ending) (w' : World) : Prop :=
  ∃ a c, e = .returned (.tuple #[.slice a 2 c, .bool true]) ∧ Row w' a 2 [102, 111] ∧ Below w.heap.size w w'

theorem dec_fo (w : World) : Calls Tryd.prog 11 #[.string ⟨#[90, 109, 56, 61]⟩] w (GivesFo w) :=
  (dec_any ⟨#[90, 109, 56, 61]⟩ w (by decide)).mono fun _ _ h => by
    have e : numsOf ⟨#[90, 109, 56, 61]⟩ = encZ [102, 111] := by kernel_rfl
    rw [e, decS_encZ (by simp)] at h
    obtain ⟨a, c, h1, h2, _, h4⟩ := h
    exact ⟨a, c, h1, h2, h4⟩

theorem enc_f (w : World) : Calls Tryd.prog 12 #[.slice (some ⟨w.heap.size, 0, none⟩) 1 1] (w.alloc (.cells #[.int .u8 102] 5 (1, 2))) fun e w' => e = .returned (.string ⟨#[90, 103, 61, 61]⟩) ∧ Below w.heap.size w w' :=
  (enc_any _ 1 1 [102] _ (row_f w) (by omega) (by omega)).mono fun _ _ ⟨he, hb⟩ => ⟨he.trans (by kernel_rfl), ((Below.refl _ _).alloc (Nat.le_refl _) _).trans (hb.mono (by simp))⟩
theorem enc_foo (w : World) : Calls Tryd.prog 12 #[.slice (some ⟨w.heap.size, 0, none⟩) 3 3] (w.alloc (.cells #[.int .u8 102, .int .u8 111, .int .u8 111] 5 (3, 4))) fun e w' => e = .returned (.string ⟨#[90, 109, 57, 118]⟩) ∧ Below w.heap.size w w' :=
  (enc_any _ 3 3 [102, 111, 111] _ (row_foo w) (by omega) (by omega)).mono fun _ _ ⟨he, hb⟩ => ⟨he.trans (by kernel_rfl), ((Below.refl _ _).alloc (Nat.le_refl _) _).trans (hb.mono (by simp))⟩

theorem conv_at {w : World} {a : Option Addr} {n : Nat} {zs : List Int} (cap : Nat) (h : Row w a n zs) : (convert 29 9 (.slice a n cap)).run Tryd.prog w = .ok (.string (strOfNums zs)) w :=
  h.conv 29 9 5 Tryd.underlying29 Tryd.underlying5 Tryd.underlying9

theorem Below.step {w w1 w2 : World} (h : Below w.heap.size w w1) (k : Below w1.heap.size w1 w2) : Below w.heap.size w w2 := h.trans (k.mono h.size)

set_option maxHeartbeats 400000 in
theorem awake_any (w : World) : Calls Tryd.prog 5 #[] w fun e w' => e = .returned (.bool true) ∧ Below w.heap.size w w' := by
  have kb := fun (w : World) (C : Array Value) (n c : Nat) => Lib.run_convert_bytes_const (P := Tryd.prog) w 29 5 C n c Tryd.underlying29 Tryd.underlying5
  go_enter Tryd.func5, Tryd.ntmps5
  go_wp2_with fail
  refine (dec_fo w).mono ?_
  rintro e w1 ⟨a, c, rfl, hrow, hb1⟩
  have R := Lib.hid hrow
  clear hrow
  go_wp2_with fail
  refine (enc_f _).mono ?_
  rintro e w2 ⟨rfl, hb2⟩
  go_wp2_with fail
  refine (enc_foo _).mono ?_
  rintro e w3 ⟨rfl, hb3⟩
  have kc := conv_at c ((R.out.below hb2).below hb3)
  have ks : strOfNums [102, 111] = ⟨#[102, 111]⟩ := by kernel_rfl
  rw [ks] at kc
  clear ks
  go_wp2
  go_ret
  exact ⟨rfl, Below.step (Below.step hb1 hb2) hb3⟩

end Go.Proofs.YtmmcmiljnmbfcaaDoor
