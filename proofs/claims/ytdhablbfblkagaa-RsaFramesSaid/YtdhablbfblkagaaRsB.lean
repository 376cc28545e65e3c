/-
  What the reference's Frame answers, for stage 9 (rsa).
-/
import Derived.Test.YtdhablbfblkagaaRsA
import Derived.Test.YtdhablbfblkagaaShaQ
namespace Go.Proofs.Ytdhablbfblkagaa
open Go.RowKit
set_option linter.unusedVariables false

/-- Bytes and an error are handed back. -/
def GivesE (zs : List Int) (r : Int) (w : World) (e : Ending) (w' : World) : Prop :=
  ∃ a c, e = .returned (.tuple #[.slice a zs.length c, .int .i64 r]) ∧ Row w' a zs.length zs ∧ zs.length ≤ c ∧ (a = none → c = 0) ∧ Below w.heap.size w w'
theorem gives_err {r : Int} {w w' : World} (hb : Below w.heap.size w w') : GivesE [] r w (.returned (.tuple #[.slice none 0 0, .int .i64 r])) w' := ⟨none, 0, rfl, Row.nil _ _, Nat.le_refl _, fun _ => rfl, hb⟩
theorem out_gives {zs : List Int} {w w0 w' : World} {V : Value} (h : Out w0 w' V zs) (hz : ∀ x ∈ zs, 0 ≤ x ∧ x ≤ 255) (hb : Below w.heap.size w w0) : GivesE zs 0 w (.returned (.tuple #[V, .int .i64 0])) w' := by
  obtain ⟨a, c, rfl, hr⟩ := h.row hz
  exact ⟨a, c, rfl, hr, own_cap h.1, h.nilc, Below.step hb h.2⟩
theorem out_two (w : World) (x y : Int) : Out w (w.alloc (.cells #[.int .u8 x, .int .u8 y] 5)) (.slice (some ⟨w.heap.size, 0, none⟩) 2 2) [x, y] :=
  ⟨⟨rfl, .inr ⟨w.heap.size, 2, #[.int .u8 x, .int .u8 y], rfl, Nat.le_refl _, heap_alloc_new w _, Nat.le_refl _, by unfold maxLen; omega, rfl, rfl⟩⟩, (Below.refl _ _).alloc (Nat.le_refl _) _⟩

/-- Frame's error and its bytes. -/
def frE (s : Int) : Int := if 62 ≤ s ∧ s ≤ 512 then 0 else 1
def frB (hz : List Int) (s : Int) : List Int := if 62 ≤ s ∧ s ≤ 512 then frameZ hz s.toNat else []
theorem frame_split (hz : List Int) (k : Nat) : frameZ hz k = (0 :: 1 :: List.replicate (k - 54) 255) ++ ([0, 48, 49, 48, 13, 6, 9, 96, 134, 72, 1, 101, 3, 4, 2, 1, 5, 0, 4, 32] ++ hz) := by
  simp [frameZ, HEAD]
theorem frame_more (j : Nat) : 0 :: 1 :: List.replicate (j + 1) (255 : Int) = (0 :: 1 :: List.replicate j 255) ++ [255] := by
  rw [List.replicate_succ', List.cons_append, List.cons_append]

set_option maxHeartbeats 1000000 in
set_option maxRecDepth 100000 in
theorem rframe_any (hz : List Int) (s : Int) (w : World) (hl : hz.length = 32) (hb : ∀ x ∈ hz, 0 ≤ x ∧ x ≤ 255) (s0 : -9223372036854775808 ≤ s) (s1 : s ≤ 9223372036854775807) :
    Calls Try.prog 7 #[.agg (bcells hz), .int .i64 s] w (GivesE (frB hz s) (frE s) w) := by
  have BX := Lib.hid (Blk.new w 22 (bcells hz))
  have BW := Lib.hid (box_below w (.cells (bcells hz) 22))
  have HR := Lib.hid (hash_row BX.out hl hb)
  have FB := Lib.hid (frame_byte hb)
  have FS := Lib.hid (frame_split hz)
  have HL := Lib.hid hl
  clear hl hb BX
  go_enter Try.func7, Try.ntmps7
  generalize hw2 : w.alloc (.cells (bcells hz) 22) = w2 at *
  by_cases h1 : s < 62
  · have t1 : decide (s < (62 : Int)) = true := decide_eq_true h1
    have F1 : Hid (frE s = 1) := Lib.hid (if_neg (by omega))
    have F2 : Hid (frB hz s = []) := Lib.hid (if_neg (by omega))
    go_wp2_with fail
    go_ret2
    rw [F1.out, F2.out]
    exact gives_err BW.out
  have t1 : decide (s < (62 : Int)) = false := decide_eq_false h1
  by_cases h2 : 512 < s
  · have t2 : decide ((512 : Int) < s) = true := decide_eq_true h2
    have F1 : Hid (frE s = 1) := Lib.hid (if_neg (by omega))
    have F2 : Hid (frB hz s = []) := Lib.hid (if_neg (by omega))
    go_wp2_with fail
    go_ret2
    rw [F1.out, F2.out]
    exact gives_err BW.out
  have t2 : decide ((512 : Int) < s) = false := decide_eq_false h2
  obtain ⟨k, rfl⟩ : ∃ k : Nat, s = (k : Int) := ⟨s.toNat, by omega⟩
  have F1 : Hid (frE (k : Int) = 0) := Lib.hid (if_pos (by omega))
  have F2 : Hid (frB hz (k : Int) = frameZ hz k) := Lib.hid (if_pos (by omega))
  have O1 := Lib.hid (out_two w2 0 1)
  go_wp2_with fail
  clear hw2
  go_loopw [6] (fun V wr => ∃ j : Nat, j ≤ k - 54 ∧ Out w2 wr V (0 :: 1 :: List.replicate j 255)) (fun V _ => 1000 - lenS V)
  case atStart => exact ⟨0, by omega, O1.out⟩
  case round =>
    obtain ⟨j, hj, ho⟩ := hrel
    have HO := Lib.hid ho
    have hll : (0 :: 1 :: List.replicate j (255 : Int)).length = j + 2 := by simp
    obtain ⟨a', c', rfl⟩ := ho.shape
    clear ho
    by_cases hlt : j < k - 54
    · have NE := Lib.hid (frame_more j)
      generalize 0 :: 1 :: List.replicate j (255 : Int) = L at *
      have t0 : decide ((L.length : Int) < (k : Int) - 52) = true := decide_eq_true (by omega)
      have HBN : Hid (L.length + 1 ≤ 1000000) := Lib.hid (by omega)
      have hl1 : L.length ≤ 600 := by omega
      clear hll
      have O3 := Lib.hid (HO.out.alloc (.cells #[.int .u8 255] 5))
      have R3 := Lib.hid (row_const wr [255] (0, 0) (by intro y hy; simp at hy; omega))
      go_wp2_with (at_builtin; go_must (refine out_append (W0 := w2) (L := L) (zs := [255]) rfl _ _ rfl rfl O3.out rfl R3.out (fun e => by cases e) HBN.out ?_; intro V4 w4 ho4; obtain ⟨a4, c4, e4⟩ := ho4.shape; rw [List.length_append, List.length_singleton] at e4; subst e4; have O4 := Lib.hid ho4; clear ho4))
      go_roundw
      case rel => exact ⟨j + 1, by omega, by rw [NE.out]; exact O4.out⟩
      case measure => simp only [lenS]; omega
    · obtain rfl : j = k - 54 := by omega
      have FX := Lib.hid (FS.out k)
      have FY := Lib.hid (FB.out k)
      generalize 0 :: 1 :: List.replicate (k - 54) (255 : Int) = L at *
      have t0 : decide ((L.length : Int) < (k : Int) - 52) = false := decide_eq_false (by omega)
      have hl1 : L.length ≤ 600 := by omega
      clear hll FS FB
      have O3 := Lib.hid (HO.out.alloc (.cells #[.int .u8 0, .int .u8 48, .int .u8 49, .int .u8 48, .int .u8 13, .int .u8 6, .int .u8 9, .int .u8 96, .int .u8 134, .int .u8 72, .int .u8 1, .int .u8 101, .int .u8 3, .int .u8 4, .int .u8 2, .int .u8 1, .int .u8 5, .int .u8 0, .int .u8 4, .int .u8 32] 5))
      have R3 := Lib.hid (row_const wr [0, 48, 49, 48, 13, 6, 9, 96, 134, 72, 1, 101, 3, 4, 2, 1, 5, 0, 4, 32] (0, 0) (by intro y hy; simp at hy; omega))
      have HBN : Hid (L.length + 20 ≤ 1000000) := Lib.hid (by omega)
      have HBM : Hid ((L ++ [0, 48, 49, 48, 13, 6, 9, 96, 134, 72, 1, 101, 3, 4, 2, 1, 5, 0, 4, 32]).length + 32 ≤ 1000000) := Lib.hid (by simp; omega)
      go_wp2_with (at_builtin; first
        | (refine out_append (W0 := w2) (L := L) (zs := [0, 48, 49, 48, 13, 6, 9, 96, 134, 72, 1, 101, 3, 4, 2, 1, 5, 0, 4, 32]) rfl _ _ rfl rfl O3.out rfl R3.out (fun e => by cases e) HBN.out ?_; intro V4 w4 ho4; have O4 := Lib.hid ho4; have R4 := Lib.hid (HR.out.below ho4.2); clear ho4)
        | (refine out_append (W0 := w2) (zs := hz) rfl _ _ rfl rfl O4.out rfl R4.out (fun e => by cases e) HBM.out ?_; intro V5 w5 ho5; have O5 := Lib.hid ho5; clear ho5))
      go_ret2
      rw [F1.out, F2.out]
      refine out_gives ?_ FY.out BW.out
      rw [FX.out, ← List.append_assoc]
      exact O5.out

end Go.Proofs.Ytdhablbfblkagaa
