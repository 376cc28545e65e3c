/-
  Arguments of stage 9's laws: keys, hashes, pairs of numbers, pairs of rows of bytes (rsa).
-/
import Derived.Test.YtdhablbfblkagaaRsA
import Derived.Test.YtdhablbfblkagaaShaQ
import Derived.Test.YtdhablbfblkagaaRows
import Derived.WalkKit
import Derived.ProofKit
import Derived.OpenShut
import Derived.ChangeArms
import Derived.ChangeSame
namespace Go.Proofs.Ytdhablbfblkagaa
open Go.ChangeShapes Go.WideShapes Go.ChangeAt Go.RowKit
set_option linter.unusedVariables false

theorem mapM_each {α β : Type} {f : α → Option β} : ∀ (L : List α) (ys : List β), L.mapM f = some ys → ∀ a ∈ L, ∃ y, f a = some y
  | [], _, _, a, ha => by simp at ha
  | b :: L, ys, h, a, ha => by
    rw [List.mapM_cons] at h
    simp only [bind, Option.bind_eq_some_iff, pure, Option.some.injEq] at h
    obtain ⟨y, hy, zs, hz, _⟩ := h
    rcases List.mem_cons.1 ha with rfl | ha
    · exact ⟨y, hy⟩
    · exact mapM_each L zs hz a ha
/-- Each element of an array that can be read, can be read. -/
theorem array_each {H : Type} {enc : TypeId × Value → H} {P : Program} {W : World} {base : Nat} {sp : Nat → Bool} {held : Bool} {t e : TypeId} {n : Nat} (ht : P.underlying t = some (.array n e)) (hce : P.cellsOf e = 1)
    {fuel : Nat} {cs : List Value} {x : DataW H × List MemPlace} (h : DataW.trod enc P W base sp held fuel t cs = some x) : ∀ i, i < n → ∃ k y, DataW.trod enc P W base sp held k e ((cs.drop i).take 1) = some y := by
  intro i hi
  cases fuel with
  | zero => simp [DataW.trod] at h
  | succ k =>
    unfold DataW.trod at h
    rw [ht] at h
    simp only at h
    split at h
    · simp only [Option.map_eq_some_iff] at h
      obtain ⟨ys, hy, _⟩ := h
      obtain ⟨y, hy⟩ := mapM_each _ ys hy i (by simpa using hi)
      rw [hce, Nat.mul_one] at hy
      exact ⟨k, y, hy⟩
    · cases h
theorem one_at {cs : Array Value} {i : Nat} {a : Value} (h : (cs.toList.drop i).take 1 = [a]) : cs[i]? = some a := by
  have : ((cs.toList.drop i).take 1)[0]? = some a := by rw [h]; rfl
  rw [List.getElem?_take, if_pos (by omega), List.getElem?_drop, Nat.add_zero] at this
  simpa using this
theorem two_cells {cs : Array Value} (hs : cs.size = 2) {a b : Value} (h0 : (cs.toList.drop 0).take 1 = [a]) (h1 : (cs.toList.drop 1).take 1 = [b]) : cs = #[a, b] := by
  have e0 := one_at h0
  have e1 := one_at h1
  apply Array.ext'
  apply List.ext_getElem?
  intro j
  rcases j with _ | _ | j
  · simpa using e0
  · simpa using e1
  · rw [List.getElem?_eq_none (by simp [hs]), List.getElem?_eq_none (by simp)]

section
variable {H : Type} {enc : TypeId × Value → H} {W : World} {base b0 : Nat} {held : Bool} {r : Reach} {v : Value} {d : DataW H} {ps : List MemPlace}
theorem Try.cellsK : Try.prog.cellsOf 26 = 2 := by kernel_rfl
theorem Try.cellsE : Try.prog.cellsOf 5 = 1 := by kernel_rfl
theorem Try.cellsS : Try.prog.cellsOf 23 = 1 := by kernel_rfl
theorem Try.cellsU : Try.prog.cellsOf 24 = 1 := by kernel_rfl
theorem slice_row {fuel : Nat} {cs : List Value} {x : DataW H × List MemPlace} (h : DataW.trod enc Try.prog W base (fun _ => true) held fuel 23 cs = some x) : ∃ a n c zs, cs = [.slice a n c] ∧ Row W a n zs ∧ n ≤ c ∧ (a = none → c = 0) ∧ n ≤ maxLen := by
  rcases open_ints Try.underlying23 Try.underlying5 Try.cellsE h with ⟨rfl, _⟩ | ⟨x, l, c, zs, rfl, _, hl, hm, hz, _, hcell, hwz⟩
  · exact ⟨none, 0, 0, [], rfl, Row.nil _ _, Nat.le_refl _, fun _ => rfl, Nat.zero_le _⟩
  · obtain ⟨h1, h2⟩ := row_of (w := W) (a := some x) (len := l) (cap := c) (zs := zs) (.inr ⟨x, rfl, hl, hm, by simpa using hz, hcell, hwz⟩)
    exact ⟨some x, l, c, zs.take l, rfl, h1, hl, (fun e => by cases e), h2⟩
set_option maxRecDepth 100000 in
/-- An argument that is a key. -/
theorem open_key (hok : Value.okWide Try.prog W r b0 26 v) (hd : DataW.Trod enc Try.prog W base (fun _ => true) held 26 v d ps) :
    ∃ a n c e ns, v = .agg #[.slice a n c, .int .u32 e] ∧ KeyAt W a n c e ns ∧ n ≤ maxLen := by
  obtain ⟨cs, rfl, _⟩ := okWide_struct Try.underlying26 hok
  obtain ⟨fuel, hf⟩ := hd
  obtain ⟨y0, y1, n, _, hl, h0, h1⟩ := trod_struct2 Try.underlying26 hf
  rw [Try.cellsS] at h0
  rw [Try.cellsU] at h1
  obtain ⟨a, m, c, zs, e0, hr, hc, hn, hm⟩ := slice_row h0
  obtain ⟨z, e1, _, hw⟩ := DataW.trod_int Try.underlying24 h1
  rw [Try.cellsK] at hl
  have := bounds_u32 hw
  have ee := two_cells (cs := cs) (by simpa [Value.cells] using hl) (by simpa [Value.cells] using e0) (by simpa [Value.cells] using e1)
  exact ⟨a, m, c, z, zs, by rw [ee], ⟨hr, hc, hn, by omega, by omega⟩, hm⟩
set_option maxRecDepth 100000 in
/-- An argument that is a hash. -/
theorem open_hash (hok : Value.okWide Try.prog W r b0 22 v) (hd : DataW.Trod enc Try.prog W base (fun _ => true) held 22 v d ps) :
    ∃ hz : List Int, v = .agg (bcells hz) ∧ hz.length = 32 ∧ ∀ x ∈ hz, 0 ≤ x ∧ x ≤ 255 := by
  simp only [Value.okWide, Try.underlying22] at hok
  obtain ⟨cs, rfl, h2, _⟩ := hok
  rw [show Try.prog.cellsOf 22 = 32 by kernel_rfl] at h2
  obtain ⟨fuel, hf⟩ := hd
  have E := array_each Try.underlying22 Try.cellsE hf
  have F : ∀ i, ∃ x : Int, i < 32 → cs[i]? = some (.int .u8 x) ∧ 0 ≤ x ∧ x ≤ 255 := fun i => by
    by_cases hi : i < 32
    · obtain ⟨k0, y0, t0⟩ := E i hi
      obtain ⟨x, hx, _, wx⟩ := DataW.trod_int Try.underlying5 t0
      have := bounds_u8 wx
      exact ⟨x, fun _ => ⟨one_at (by simpa [Value.cells] using hx), by omega⟩⟩
    · exact ⟨0, fun h => absurd h hi⟩
  obtain ⟨f, hf'⟩ := Classical.axiomOfChoice F
  refine ⟨(List.range 32).map f, ?_, by simp, fun x hx => ?_⟩
  · have : cs = bcells ((List.range 32).map f) := by
      apply Array.ext'
      apply List.ext_getElem?
      intro j
      rcases Nat.lt_or_ge j 32 with hj | hj
      · rw [Array.getElem?_toList, Array.getElem?_toList, bcells_get _ j hj, (hf' j hj).1]
        simp [hj]
      · rw [List.getElem?_eq_none (by simp [h2]; omega), List.getElem?_eq_none (by rw [Array.length_toList, bcells_size _ (by simp)]; omega)]
    rw [this]
  · obtain ⟨i, hi, rfl⟩ := List.mem_map.1 hx
    exact (hf' i (by simpa using hi)).2
end

end Go.Proofs.Ytdhablbfblkagaa
