/-
  Arguments that are arrays: two slices of 32-bit numbers, two 32-bit numbers, for stage 8 (modulo).
-/
import Derived.Test.YthpdeaappchnpaaMdQ
import Derived.Test.YthpdeaappchnpaaRows
import Derived.WalkKit
import Derived.ProofKit
import Derived.OpenShut
import Derived.ChangeArms
namespace Go.Proofs.Ythpdeaappchnpaa
open Go.ChangeShapes Go.WideShapes Go.ChangeAt Go.RowKit
set_option linter.unusedVariables false

theorem mapM_each {α β : Type} {f : α → Option β} : ∀ (L : List α) (ys : List β), L.mapM f = some ys → ∀ a ∈ L, ∃ y, f a = some y
  | [], _, _, a, ha => by simp at ha
  | b :: L, ys, h, a, ha => by
    rw [List.mapM_cons] at h
    simp only [bind, Option.bind_eq_some_iff, pure, Option.some.injEq] at h
    obtain ⟨y, hy, zs, hz, _⟩ := h
    rcases List.mem_cons.1 ha with rfl | ha
    · exact ⟨y, hy⟩
    · exact mapM_each L zs hz a ha
/-- Each element of an array that can be read, can be read. -/
theorem array_each {H : Type} {enc : TypeId × Value → H} {P : Program} {W : World} {base : Nat} {sp : Nat → Bool} {held : Bool} {t e : TypeId} {n : Nat} (ht : P.underlying t = some (.array n e)) (hce : P.cellsOf e = 1)
    {fuel : Nat} {cs : List Value} {x : DataW H × List MemPlace} (h : DataW.trod enc P W base sp held fuel t cs = some x) : ∀ i, i < n → ∃ k y, DataW.trod enc P W base sp held k e ((cs.drop i).take 1) = some y := by
  intro i hi
  cases fuel with
  | zero => simp [DataW.trod] at h
  | succ k =>
    unfold DataW.trod at h
    rw [ht] at h
    simp only at h
    split at h
    · simp only [Option.map_eq_some_iff] at h
      obtain ⟨ys, hy, _⟩ := h
      obtain ⟨y, hy⟩ := mapM_each _ ys hy i (by simpa using hi)
      rw [hce, Nat.mul_one] at hy
      exact ⟨k, y, hy⟩
    · cases h
theorem two_cells {cs : Array Value} (hs : cs.size = 2) {a b : Value} (h0 : (cs.toList.drop 0).take 1 = [a]) (h1 : (cs.toList.drop 1).take 1 = [b]) : cs = #[a, b] := by
  have e0 : cs.toList[0]? = some a := by
    have : ((cs.toList.drop 0).take 1)[0]? = some a := by rw [h0]; rfl
    simpa using this
  have e1 : cs.toList[1]? = some b := by
    have : ((cs.toList.drop 1).take 1)[0]? = some b := by rw [h1]; rfl
    rw [List.getElem?_take, if_pos (by omega), List.getElem?_drop] at this
    exact this
  apply Array.ext'
  apply List.ext_getElem?
  intro j
  rcases j with _ | _ | j
  · exact e0
  · exact e1
  · rw [List.getElem?_eq_none (by simp [hs]), List.getElem?_eq_none (by simp)]

section
variable {H : Type} {enc : TypeId × Value → H} {W : World} {base b0 : Nat} {held : Bool} {r : Reach} {v : Value} {d : DataW H} {ps : List MemPlace}
theorem Try.cellsA : Try.prog.cellsOf 36 = 2 := by kernel_rfl
theorem Try.cellsB : Try.prog.cellsOf 34 = 2 := by kernel_rfl
theorem Try.cellsC : Try.prog.cellsOf 22 = 1 := by kernel_rfl
theorem Try.cellsD : Try.prog.cellsOf 35 = 1 := by kernel_rfl
/-- An argument of type [2]uint32. -/
theorem open_two (hok : Value.okWide Try.prog W r b0 36 v) (hd : DataW.Trod enc Try.prog W base (fun _ => true) held 36 v d ps) :
    ∃ x y : Int, v = .agg #[.int .u32 x, .int .u32 y] ∧ 0 ≤ x ∧ x ≤ 4294967295 ∧ 0 ≤ y ∧ y ≤ 4294967295 := by
  simp only [Value.okWide, Try.underlying36] at hok
  obtain ⟨cs, rfl, h2, _⟩ := hok
  rw [Try.cellsA] at h2
  obtain ⟨fuel, hf⟩ := hd
  have E := array_each Try.underlying36 Try.cellsD hf
  obtain ⟨k0, y0, t0⟩ := E 0 (by omega)
  obtain ⟨k1, y1, t1⟩ := E 1 (by omega)
  obtain ⟨x, hx, _, wx⟩ := DataW.trod_int Try.underlying35 t0
  obtain ⟨y, hy, _, wy⟩ := DataW.trod_int Try.underlying35 t1
  have := bounds_u32 wx
  have := bounds_u32 wy
  have e := two_cells (a := .int .u32 x) (b := .int .u32 y) h2 (by simpa [Value.cells] using hx) (by simpa [Value.cells] using hy)
  exact ⟨x, y, by rw [e], by omega, by omega, by omega, by omega⟩
theorem slice_num {fuel : Nat} {cs : List Value} {x : DataW H × List MemPlace} (h : DataW.trod enc Try.prog W base (fun _ => true) held fuel 22 cs = some x) : ∃ a n c u, cs = [.slice a n c] ∧ Num W u a n c := by
  rcases open_ints Try.underlying22 Try.underlying35 Try.cellsD h with ⟨rfl, _⟩ | ⟨x, l, c, zs, rfl, _, hl, hm, hz, _, hcell, hwz⟩
  · exact ⟨none, 0, 0, _, rfl, [], Row32.nil _ _, rfl, Nat.le_refl _, fun _ => rfl⟩
  · exact ⟨some x, l, c, _, rfl, zs.take l, (row32_of (.inr ⟨x, rfl, hl, hm, by simpa using hz, hcell, hwz⟩)).1, rfl, hl, fun e => by cases e⟩
/-- An argument of type [2][]uint32. -/
theorem open_pair (hok : Value.okWide Try.prog W r b0 34 v) (hd : DataW.Trod enc Try.prog W base (fun _ => true) held 34 v d ps) :
    ∃ a n c b k e, v = .agg #[.slice a n c, .slice b k e] ∧ (∃ x, Num W x a n c) ∧ (∃ y, Num W y b k e) := by
  simp only [Value.okWide, Try.underlying34] at hok
  obtain ⟨cs, rfl, h2, _⟩ := hok
  rw [Try.cellsB] at h2
  obtain ⟨fuel, hf⟩ := hd
  have E := array_each Try.underlying34 Try.cellsC hf
  obtain ⟨k0, y0, t0⟩ := E 0 (by omega)
  obtain ⟨k1, y1, t1⟩ := E 1 (by omega)
  obtain ⟨a, n, c, x, hx, nx⟩ := slice_num t0
  obtain ⟨b, k, e, y, hy, ny⟩ := slice_num t1
  have ee := two_cells (a := .slice a n c) (b := .slice b k e) h2 (by simpa [Value.cells] using hx) (by simpa [Value.cells] using hy)
  exact ⟨a, n, c, b, k, e, by rw [ee], ⟨x, nx⟩, ⟨y, ny⟩⟩
end

end Go.Proofs.Ythpdeaappchnpaa
