/-
  A part of a row of bytes; a store beside it. Nothing of the program is named here.
-/
import Derived.Test.YtppdnejkbdnlcaaMath
namespace Go.Proofs.Ytppdnejkbdnlcaa
open Go.RowKit

theorem Row.rest {w : World} {a : Option Addr} {n : Nat} {zs : List Int} (h : Row w a n zs) (k c : Nat) (hk : k ≤ n) (hc : n ≤ c) : Row w (if c = k then a else a.map (·.add k)) (n - k) (zs.drop k) := by
  refine ⟨by rw [List.length_drop, h.1], fun x hx => h.2.1 x (List.mem_of_mem_drop hx), fun h0 => ?_⟩
  obtain ⟨b, off, e, hb, hcell⟩ := h.2.2 (by omega)
  subst e
  rw [if_neg (by omega)]
  refine ⟨b, off + k, by rw [Option.map_some, Addr.add_lit], hb, fun i hi => ?_⟩
  rw [Nat.add_assoc, hcell (k + i) (by omega), List.getElem?_drop]
theorem Row.set {w : World} {a : Option Addr} {n : Nat} {zs : List Int} (h : Row w a n zs) (g j : Nat) (v : Value) (hne : 0 < n → ∃ b off, a = some ⟨b, off, none⟩ ∧ b ≠ g) : Row (w.setCell ⟨g, j, none⟩ v) a n zs := by
  refine ⟨h.1, h.2.1, fun h0 => ?_⟩
  obtain ⟨b, off, e, hb, hcell⟩ := h.2.2 h0
  obtain ⟨b', off', e', hb'⟩ := hne h0
  rw [e] at e'
  obtain ⟨rfl, rfl⟩ : b = b' ∧ off = off' := by simpa using e'
  refine ⟨b, off, e, by simpa using hb, fun i hi => ?_⟩
  rw [← hcell i hi]
  simp only [World.cell?, heap_setCell_other w ⟨g, j, none⟩ b v hb']

end Go.Proofs.Ytppdnejkbdnlcaa
