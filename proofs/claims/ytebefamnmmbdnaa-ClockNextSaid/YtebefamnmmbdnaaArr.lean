/-
  An argument that is an array of six integers, for stage 3 (clock).
-/
import Derived.Test.YtebefamnmmbdnaaRows
import Derived.WalkKit
import Derived.ProofKit
import Derived.OpenShut
import Derived.ChangeArms
namespace Go.Proofs.Ytebefamnmmbdnaa
open Go.ChangeShapes Go.WideShapes Go.ChangeAt Go.RowKit

theorem mapM_each {α β : Type} {f : α → Option β} : ∀ (L : List α) (ys : List β), L.mapM f = some ys → ∀ a ∈ L, ∃ y, f a = some y
  | [], _, _, a, ha => by simp at ha
  | b :: L, ys, h, a, ha => by
    rw [List.mapM_cons] at h
    simp only [bind, Option.bind_eq_some_iff, pure, Option.some.injEq] at h
    obtain ⟨y, hy, zs, hz, _⟩ := h
    rcases List.mem_cons.1 ha with rfl | ha
    · exact ⟨y, hy⟩
    · exact mapM_each L zs hz a ha

/-- The cells of an array of integers that can be read are integers. -/
theorem array_ints {H : Type} {enc : TypeId × Value → H} {P : Program} {W : World} {base : Nat} {sp : Nat → Bool} {held : Bool} {t e : TypeId} {n : Nat} {q : IntKind} (ht : P.underlying t = some (.array n e)) (he : P.underlying e = some (.int q)) (hce : P.cellsOf e = 1)
    {fuel : Nat} {cs : List Value} {x : DataW H × List MemPlace} (h : DataW.trod enc P W base sp held fuel t cs = some x) : ∀ i, i < n → ∃ a, cs[i]? = some (.int q a) := by
  intro i hi
  cases fuel with
  | zero => simp [DataW.trod] at h
  | succ k =>
    unfold DataW.trod at h
    rw [ht] at h
    simp only at h
    split at h
    · simp only [Option.map_eq_some_iff] at h
      obtain ⟨ys, hy, _⟩ := h
      obtain ⟨y, hy⟩ := mapM_each _ ys hy i (by simpa using hi)
      obtain ⟨a, ha, _⟩ := DataW.trod_int he hy
      rw [hce, Nat.mul_one] at ha
      refine ⟨a, ?_⟩
      have : ((cs.drop i).take 1)[0]? = some (.int q a) := by rw [ha]; rfl
      rw [List.getElem?_take, if_pos (by omega), List.getElem?_drop] at this
      simpa using this
    · cases h

theorem Try.cells3 : Try.prog.cellsOf 3 = 1 := by kernel_rfl
theorem Try.cells22 : Try.prog.cellsOf 22 = 6 := by kernel_rfl

theorem six {cs : Array Value} (hs : cs.size = 6) (h : ∀ i, i < 6 → ∃ a, cs.toList[i]? = some (.int .i64 a)) : ∃ y m d h i s : Int, cs = #[.int .i64 y, .int .i64 m, .int .i64 d, .int .i64 h, .int .i64 i, .int .i64 s] := by
  obtain ⟨y, hy⟩ := h 0 (by omega)
  obtain ⟨m, hm⟩ := h 1 (by omega)
  obtain ⟨d, hd⟩ := h 2 (by omega)
  obtain ⟨hh, hhh⟩ := h 3 (by omega)
  obtain ⟨i, hi⟩ := h 4 (by omega)
  obtain ⟨s, hs'⟩ := h 5 (by omega)
  refine ⟨y, m, d, hh, i, s, ?_⟩
  apply Array.ext'
  apply List.ext_getElem?
  intro j
  rcases j with _ | _ | _ | _ | _ | _ | j
  · exact hy
  · exact hm
  · exact hd
  · exact hhh
  · exact hi
  · exact hs'
  · rw [List.getElem?_eq_none (by simp [hs]), List.getElem?_eq_none (by simp)]

/-- An argument of type [6]int. -/
theorem open6 {H : Type} {enc : TypeId × Value → H} {W : World} {base b0 : Nat} {sp : Nat → Bool} {held : Bool} {r : Reach} {v : Value} {d : DataW H} {ps : List MemPlace} (hok : Value.okWide Try.prog W r b0 22 v) (hd : DataW.Trod enc Try.prog W base sp held 22 v d ps) :
    ∃ y m d h i s : Int, v = .agg #[.int .i64 y, .int .i64 m, .int .i64 d, .int .i64 h, .int .i64 i, .int .i64 s] := by
  simp only [Value.okWide, Try.underlying22] at hok
  obtain ⟨cs, rfl, h2, _⟩ := hok
  rw [Try.cells22] at h2
  obtain ⟨fuel, hf⟩ := hd
  have := array_ints Try.underlying22 Try.underlying3 Try.cells3 hf
  obtain ⟨y, m, d, h, i, s, rfl⟩ := six h2 (by simpa [Value.cells] using this)
  exact ⟨y, m, d, h, i, s, rfl⟩

end Go.Proofs.Ytebefamnmmbdnaa
