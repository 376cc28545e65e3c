/-
  What slices.overlaps answers for two rows in blocks of their own, for stage 4 (tlv).
-/
import Derived.Test.YtefdfdnfpacfjaaSmall
import Derived.Laws.Externs
namespace Go.Proofs.Ytefdfdnfpacfjaa
open Go.RowKit

theorem Try.sizeU8 : (Try.prog.info? 5).map (·.size) = some 1 := by kernel_rfl

theorem Blk.shape {w : World} {b : Nat} {t : TypeId} {cs : Array Value} (h : Blk w b t cs) : w.shape? b = some (t, cs.size) := by
  unfold Blk at h
  simp [World.shape?, h]

theorem over_pair {α : Type} (h1 : Option Addr → Nat → Nat → Option Addr → Nat → Nat → α) (h2 : Array Value → α) (a : Option Addr) (n c : Nat) (b : Option Addr) (m d : Nat) :
    Extern.SlicesOverlaps.overlaps.match_4 (motive := fun _ => α) #[.slice a n c, .slice b m d] h1 h2 = h1 a n c b m d := rfl

theorem over_no {w : World} {b g : Nat} {cs cur : Array Value} (h1 : Blk w b 5 cs) (h2 : Blk w g 5 cur) (hne : b ≠ g) (off lb cb lg cg : Nat) :
    (callFunc 39 #[.slice (some ⟨b, 0, none⟩) lb cb, .slice (some ⟨g, off, none⟩) lg cg]).run Try.prog w = .ok (.value (.bool false)) w := by
  rw [run_callFunc_extern (e := Extern.SlicesOverlaps.overlaps Try.f39.params Try.f39.resultTypes) Try.func39 (by kernel_rfl) (by kernel_rfl) (by kernel_rfl) (by kernel_rfl)]
  have s1 := h1.shape
  have s2 := h2.shape
  have f1 := fun j => h1.free j
  have f2 := fun j => h2.free j
  cases hq : Try.prog.info? 5 with
  | none => have := Try.sizeU8; simp [hq] at this
  | some i =>
    have hi : i.size = 1 := by have := Try.sizeU8; simpa [hq] using this
    unfold Extern.SlicesOverlaps.overlaps
    rw [over_pair]
    by_cases hl : lb = 0 ∨ lg = 0
    · simp [run_underlying Try.underlying22, sizeOf, typeInfo, hq, hi, hl, Result.andThen]
    · simp [run_underlying Try.underlying22, sizeOf, typeInfo, hq, hi, hl, hne, noView, viewAt, mayBeOne, stringish, s1, s2, f1, f2, Result.andThen]

end Go.Proofs.Ytefdfdnfpacfjaa
