/-
  An argument that is a list of ranges, for stage 12 (asn).
-/
import Derived.Test.YtppdnejkbdnlcaaAnR
import Derived.Test.YtppdnejkbdnlcaaOpen
import Derived.ChangeArms
import Derived.ChangeSame
import Derived.Deep.Strs
import Derived.Lib.SmallJoins
import Derived.ChangeSlices
import Derived.WalkKit
import Derived.ProofKit
import Derived.OpenShut
namespace Go.Proofs.Ytppdnejkbdnlcaa
open Go.ChangeShapes Go.WideShapes Go.ChangeAt Go.RowKit Go.Deep
set_option linter.unusedVariables false
theorem u32_nat {a : Int} (h : (Lit.int .u32 a).wf = true) : ∃ q : Nat, a = (q : Int) ∧ q < 4294967296 := by
  have := bounds_u32 h
  exact ⟨a.toNat, by omega, by omega⟩
theorem one_atR {cs : List Value} {i : Nat} {a : Value} (h : (cs.drop i).take 1 = [a]) : cs[i]? = some a := by
  have : ((cs.drop i).take 1)[0]? = some a := by rw [h]; rfl
  rw [List.getElem?_take, if_pos (by omega), List.getElem?_drop, Nat.add_zero] at this
  exact this
section
variable {H : Type} {enc : TypeId × Value → H}
theorem range_cells {w : World} {base : Nat} {held : Bool} {fuel : Nat} {cs : List Value} {x : DataW H × List MemPlace} (hf : DataW.trod enc Try.prog w base (fun _ => true) held fuel 33 cs = some x) : ∃ s, OkR s ∧ ∀ i, i < 2 → cs[i]? = (rcL s)[i]? := by
  obtain ⟨y0, y1, n, _, hl, h0, h1⟩ := trod_struct2 Try.underlying33 hf
  rw [show Try.prog.cellsOf 23 = 1 by kernel_rfl] at h0 h1
  obtain ⟨u, e0, _, w0⟩ := DataW.trod_int Try.underlying23 h0
  obtain ⟨v, e1, _, w1⟩ := DataW.trod_int Try.underlying23 h1
  have g0 := one_atR e0
  have g1 := one_atR e1
  obtain ⟨p, rfl, hp⟩ := u32_nat w0
  obtain ⟨q, rfl, hq⟩ := u32_nat w1
  refine ⟨(p, q), ⟨hp, hq⟩, fun i hi => ?_⟩
  rcases (show i = 0 ∨ i = 1 by omega) with rfl | rfl
  · exact g0
  · exact g1
/-- An argument of type []Range. -/
theorem open_ranges {w : World} {held : Bool} {K : Option Addr} {k d : Nat} {x : DataW H} {p : List MemPlace} (h : DataW.Trod enc Try.prog w 0 (fun _ => true) held 22 (.slice K k d) x p) :
    ∃ L : List (Nat × Nat), RgArg w K k d L := by
  obtain ⟨fuel, hf⟩ := h
  rcases DataW.trod_slice Try.underlying22 hf with ⟨hcs, _⟩ | ⟨a, len, cap, elems, rest, n', hn', hcs, _, _, hl, hm, hlen, hel, _, _⟩
  · simp [Value.cells] at hcs
    obtain ⟨rfl, rfl, rfl⟩ := hcs
    exact ⟨[], RgRow.nil _ _, fun _ => ⟨rfl, rfl⟩⟩
  · simp [Value.cells] at hcs
    obtain ⟨rfl, rfl, rfl⟩ := hcs
    rw [show Try.prog.cellsOf 33 = 2 by kernel_rfl] at hel
    have E : ∀ i, ∃ s, i < k → OkR s ∧ ∀ j, j < 2 → w.cell? ((a.add (i * 2)).add j) = (rcL s)[j]? := fun i => by
      by_cases hi : i < k
      · have he := hel i hi
        rw [List.getElem?_eq_getElem (by omega)] at he
        obtain ⟨ci, hci, hti⟩ := Option.bind_eq_some_iff.1 he
        obtain ⟨s, hs, hc⟩ := range_cells hti
        obtain ⟨hci2, _, hcc⟩ := World.cells?_some hci
        refine ⟨s, fun _ => ⟨hs, fun j hj => ?_⟩⟩
        rw [← hc j hj]
        have := hcc j (by omega)
        simpa using this
      · exact ⟨(0, 0), fun h => absurd h hi⟩
    obtain ⟨f, hf'⟩ := Classical.axiomOfChoice E
    have ok : OkL ((List.range k).map f) := fun s hs => by
      obtain ⟨i, hi, rfl⟩ := List.mem_map.1 hs
      exact (hf' i (by simpa using hi)).1
    refine ⟨(List.range k).map f, ⟨by simp, ok, fun hpos => ?_⟩, fun h => (by cases h)⟩
    obtain ⟨b, off, spot⟩ := a
    have hc0 := (hf' 0 hpos).2 0 (by omega)
    have hc1 : w.cell? (((⟨b, off, spot⟩ : Addr).add (0 * 2)).add 0) = some (.int .u32 ((f 0).1 : Int)) := hc0
    have hspot : spot = none := by simpa [Addr.add] using World.cell?_spot hc1
    subst hspot
    refine ⟨b, off, rfl, by have := cell_block hc1; simpa [Addr.add] using this, fun i hi => ?_⟩
    have hq : i / 2 < k := Nat.div_lt_of_lt_mul (by omega)
    have hr : i % 2 < 2 := Nat.mod_lt _ (by omega)
    have g := (hf' (i / 2) hq).2 (i % 2) hr
    rw [Addr.add_lit, Addr.add_lit] at g
    have e : off + i / 2 * 2 + i % 2 = off + i := by have := Nat.div_add_mod i 2; omega
    rw [e] at g
    rw [g]
    have fa := flatR_at ok (i / 2) (i % 2) (by simpa using hq) hr
    rw [show i / 2 * 2 + i % 2 = i by have := Nat.div_add_mod i 2; omega] at fa
    rw [fa]
    simp
end
end Go.Proofs.Ytppdnejkbdnlcaa
