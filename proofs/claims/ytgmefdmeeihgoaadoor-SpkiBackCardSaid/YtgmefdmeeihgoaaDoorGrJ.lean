/-
  Merged texts: SkW, RsI.
-/
import Derived.Test.YtgmefdmeeihgoaaDoorGrG
import Derived.Test.YtgmefdmeeihgoaaDoorGrI
import Derived.Test.YtgmefdmeeihgoaaDoorRows
import Derived.WalkKit
import Derived.ProofKit
import Derived.OpenShut
import Derived.ChangeArms
import Derived.ChangeSame
namespace Go.Proofs.YtgmefdmeeihgoaaDoor
open Go.RowKit
set_option linter.unusedVariables false
set_option linter.unusedSimpArgs false

theorem write_len (t : T) : (writeZ t).1.length ≤ 20000 := by
  by_cases h : (writeZ t).2 = 0
  · have f := write_fit h
    rw [write_of f.1 f.2.1 f.2.2]
    have := lay_len t f.1
    simp only
    omega
  · have : (writeZ t).1 = [] := by
      unfold writeZ at h ⊢
      split
      · rfl
      · split
        · rfl
        · split
          · rfl
          · rename_i h1 h2 h3
            rw [if_neg h1, if_neg h2, if_neg h3] at h
            exact absurd rfl h
    rw [this]
    simp

def nullT : T := .node 5 [] []
theorem null_writes : writeZ nullT = ([5, 0], 0) := by
  have h := write_of (t := nullT) (by decide) (by unfold nullT; simp [deepT, withinB]) (by
    have h1 := (size_le nullT).2.1
    have e : wt nullT = 1 := (by unfold nullT; simp [wt, wtAll])
    omega)
  rw [h]
  unfold nullT
  simp [layT, layAll, lenB]
theorem awake_fit : (writeZ (sealT nullT [7])).2 = 0 := by
  have hr : rightT (sealT nullT [7]) = true := by rw [right_seal]; decide
  have hd : deepT (sealT nullT [7]) ≤ 32 := by
    have h1 := deep_alg 11
    have h2 := deep_bits [7]
    unfold sealT nullT
    simp only [deepT, deepAll, h1, h2]
    repeat' split
    all_goals omega
  have hb : bytesT (sealT nullT [7]) ≤ 20000 := by
    have h1 := (size_le (sealT nullT [7])).2.1
    have h2 := wt_seal nullT [7]
    have e : wt nullT = 1 := (by unfold nullT; simp [wt, wtAll])
    simp only [List.length_cons, List.length_nil] at h2
    omega
  rw [write_of hr hd hb]

set_option maxHeartbeats 1000000 in
theorem awake14_any (w : World) : Calls Tryd.prog 5 #[] w fun e w' => e = .returned (.bool true) ∧ Below w.heap.size w w' := by
  have R0 := row_const w [7] (0, 0) (by intro z hz; have : z = 7 := (by simpa using hz); omega)
  have B0 : Below w.heap.size w (w.alloc (.cells #[.int .u8 7] 5)) := (Below.refl _ _).alloc (Nat.le_refl _) _
  have CS := Lib.hid (seal_any nullT _ _ 1 1 [7] _ (T.InP.in _ (null_inP Any (w.alloc (.cells #[.int .u8 7] 5)))) (by unfold nullT; simp [wt, wtAll]) R0 (by omega) (fun e => by cases e))
  have HB := Lib.hid B0
  have AF := Lib.hid awake_fit
  have OS := Lib.hid (open_seal awake_fit)
  have WL := write_len (sealT nullT [7])
  clear R0 B0
  go_enter Tryd.func5, Tryd.ntmps5
  go_wp2_with fail
  refine CS.out.mono ?_
  rintro e w2 ⟨a2, c2, rfl, hr2, hn2, hb2, hc2⟩
  rw [AF.out]
  generalize (writeZ (sealT nullT [7])).1 = zs at *
  have B2 := Lib.hid (HB.out.trans (hb2.mono HB.out.size))
  have CO := Lib.hid (open_any a2 zs.length c2 zs w2 hr2 hc2 (by omega) hn2)
  rw [OS.out] at CO
  clear CS HB hb2 hr2 hn2 AF OS
  go_wp2_with fail
  refine CO.out.mono ?_
  rintro e w3 ⟨hb3, hways⟩
  rcases hways with ⟨z, hz, _⟩ | ⟨t, said, sig, A, nn, c, K, m, d, a4, c4, a5, c5, hz, rfl, hin, hr4, _, hr5, _⟩
  · cases hz
  injection hz with hz
  injection hz with e1 hz
  injection hz with e2 e3
  subst e1
  subst e2
  subst e3
  rw [null_writes] at hr4
  have A4 : Below w3.heap.size w3 (w3.alloc (.cells #[.int .i64 nullT.tag, .slice A nn c, .slice K m d] 28)) := (Below.refl _ _).alloc (Nat.le_refl _) _
  have N4 := (Blk.new w3 28 #[.int .i64 nullT.tag, .slice A nn c, .slice K m d]).cell 0
  simp only [List.getElem?_toArray, List.getElem?_cons_zero] at N4
  have k4 : (convert 22 9 (.slice a4 2 c4)).run Tryd.prog (w3.alloc (.cells #[.int .i64 nullT.tag, .slice A nn c, .slice K m d] 28)) = .ok (.string ⟨#[5, 0]⟩) (w3.alloc (.cells #[.int .i64 nullT.tag, .slice A nn c, .slice K m d] 28)) := conv_at c4 (hr4.below A4)
  have k5 : (convert 22 9 (.slice a5 1 c5)).run Tryd.prog (w3.alloc (.cells #[.int .i64 nullT.tag, .slice A nn c, .slice K m d] 28)) = .ok (.string ⟨#[7]⟩) (w3.alloc (.cells #[.int .i64 nullT.tag, .slice A nn c, .slice K m d] 28)) := conv_at c5 (hr5.below A4)
  have tb : (nullT.tag == 5) = true := rfl
  have B4 := Lib.hid ((B2.out.trans (hb3.mono B2.out.size)).trans (A4.mono (B2.out.trans (hb3.mono B2.out.size)).size))
  clear CO B2 hb3 hin hr4 hr5 A4
  rw [null_writes]
  go_wp2_with fail
  go_ret
  exact ⟨rfl, B4.out⟩

end Go.Proofs.YtgmefdmeeihgoaaDoor

namespace Go.Proofs.YtgmefdmeeihgoaaDoor
open Go.ChangeShapes Go.WideShapes Go.ChangeAt Go.RowKit
set_option linter.unusedVariables false

theorem mapM_each {α β : Type} {f : α → Option β} : ∀ (L : List α) (ys : List β), L.mapM f = some ys → ∀ a ∈ L, ∃ y, f a = some y
  | [], _, _, a, ha => by simp at ha
  | b :: L, ys, h, a, ha => by
    rw [List.mapM_cons] at h
    simp only [bind, Option.bind_eq_some_iff, pure, Option.some.injEq] at h
    obtain ⟨y, hy, zs, hz, _⟩ := h
    rcases List.mem_cons.1 ha with rfl | ha
    · exact ⟨y, hy⟩
    · exact mapM_each L zs hz a ha
/-- Each element of an array that can be read, can be read. -/
theorem array_each {H : Type} {enc : TypeId × Value → H} {P : Program} {W : World} {base : Nat} {sp : Nat → Bool} {held : Bool} {t e : TypeId} {n : Nat} (ht : P.underlying t = some (.array n e)) (hce : P.cellsOf e = 1)
    {fuel : Nat} {cs : List Value} {x : DataW H × List MemPlace} (h : DataW.trod enc P W base sp held fuel t cs = some x) : ∀ i, i < n → ∃ k y, DataW.trod enc P W base sp held k e ((cs.drop i).take 1) = some y := by
  intro i hi
  cases fuel with
  | zero => simp [DataW.trod] at h
  | succ k =>
    unfold DataW.trod at h
    rw [ht] at h
    simp only at h
    split at h
    · simp only [Option.map_eq_some_iff] at h
      obtain ⟨ys, hy, _⟩ := h
      obtain ⟨y, hy⟩ := mapM_each _ ys hy i (by simpa using hi)
      rw [hce, Nat.mul_one] at hy
      exact ⟨k, y, hy⟩
    · cases h
theorem one_at {cs : Array Value} {i : Nat} {a : Value} (h : (cs.toList.drop i).take 1 = [a]) : cs[i]? = some a := by
  have : ((cs.toList.drop i).take 1)[0]? = some a := by rw [h]; rfl
  rw [List.getElem?_take, if_pos (by omega), List.getElem?_drop, Nat.add_zero] at this
  simpa using this
theorem two_cells {cs : Array Value} (hs : cs.size = 2) {a b : Value} (h0 : (cs.toList.drop 0).take 1 = [a]) (h1 : (cs.toList.drop 1).take 1 = [b]) : cs = #[a, b] := by
  have e0 := one_at h0
  have e1 := one_at h1
  apply Array.ext'
  apply List.ext_getElem?
  intro j
  rcases j with _ | _ | j
  · simpa using e0
  · simpa using e1
  · rw [List.getElem?_eq_none (by simp [hs]), List.getElem?_eq_none (by simp)]

section
variable {H : Type} {enc : TypeId × Value → H} {W : World} {base b0 : Nat} {held : Bool} {r : Reach} {v : Value} {d : DataW H} {ps : List MemPlace}
theorem Tryd.cellsK : Tryd.prog.cellsOf 25 = 2 := by kernel_rfl
theorem Tryd.cellsE : Tryd.prog.cellsOf 5 = 1 := by kernel_rfl
theorem Tryd.cellsS : Tryd.prog.cellsOf 22 = 1 := by kernel_rfl
theorem Tryd.cellsU : Tryd.prog.cellsOf 23 = 1 := by kernel_rfl
theorem slice_row {fuel : Nat} {cs : List Value} {x : DataW H × List MemPlace} (h : DataW.trod enc Tryd.prog W base (fun _ => true) held fuel 22 cs = some x) : ∃ a n c zs, cs = [.slice a n c] ∧ Row W a n zs ∧ n ≤ c ∧ (a = none → c = 0) ∧ n ≤ maxLen := by
  rcases open_ints Tryd.underlying22 Tryd.underlying5 Tryd.cellsE h with ⟨rfl, _⟩ | ⟨x, l, c, zs, rfl, _, hl, hm, hz, _, hcell, hwz⟩
  · exact ⟨none, 0, 0, [], rfl, Row.nil _ _, Nat.le_refl _, fun _ => rfl, Nat.zero_le _⟩
  · obtain ⟨h1, h2⟩ := row_of (w := W) (a := some x) (len := l) (cap := c) (zs := zs) (.inr ⟨x, rfl, hl, hm, by simpa using hz, hcell, hwz⟩)
    exact ⟨some x, l, c, zs.take l, rfl, h1, hl, (fun e => by cases e), h2⟩
set_option maxRecDepth 100000 in
/-- An argument that is a key. -/
theorem open_key (hok : Value.okWide Tryd.prog W r b0 25 v) (hd : DataW.Trod enc Tryd.prog W base (fun _ => true) held 25 v d ps) :
    ∃ a n c e ns, v = .agg #[.slice a n c, .int .u32 e] ∧ KeyAt W a n c e ns ∧ n ≤ maxLen := by
  obtain ⟨cs, rfl, _⟩ := okWide_struct Tryd.underlying25 hok
  obtain ⟨fuel, hf⟩ := hd
  obtain ⟨y0, y1, n, _, hl, h0, h1⟩ := trod_struct2 Tryd.underlying25 hf
  rw [Tryd.cellsS] at h0
  rw [Tryd.cellsU] at h1
  obtain ⟨a, m, c, zs, e0, hr, hc, hn, hm⟩ := slice_row h0
  obtain ⟨z, e1, _, hw⟩ := DataW.trod_int Tryd.underlying23 h1
  rw [Tryd.cellsK] at hl
  have := bounds_u32 hw
  have ee := two_cells (cs := cs) (by simpa [Value.cells] using hl) (by simpa [Value.cells] using e0) (by simpa [Value.cells] using e1)
  exact ⟨a, m, c, z, zs, by rw [ee], ⟨hr, hc, hn, by omega, by omega⟩, hm⟩
set_option maxRecDepth 100000 in
/-- An argument that is a hash. -/
theorem open_hash (hok : Value.okWide Tryd.prog W r b0 79 v) (hd : DataW.Trod enc Tryd.prog W base (fun _ => true) held 79 v d ps) :
    ∃ hz : List Int, v = .agg (bcells hz) ∧ hz.length = 32 ∧ ∀ x ∈ hz, 0 ≤ x ∧ x ≤ 255 := by
  simp only [Value.okWide, Tryd.underlying79] at hok
  obtain ⟨cs, rfl, h2, _⟩ := hok
  rw [show Tryd.prog.cellsOf 79 = 32 by kernel_rfl] at h2
  obtain ⟨fuel, hf⟩ := hd
  have E := array_each Tryd.underlying79 Tryd.cellsE hf
  have F : ∀ i, ∃ x : Int, i < 32 → cs[i]? = some (.int .u8 x) ∧ 0 ≤ x ∧ x ≤ 255 := fun i => by
    by_cases hi : i < 32
    · obtain ⟨k0, y0, t0⟩ := E i hi
      obtain ⟨x, hx, _, wx⟩ := DataW.trod_int Tryd.underlying5 t0
      have := bounds_u8 wx
      exact ⟨x, fun _ => ⟨one_at (by simpa [Value.cells] using hx), by omega⟩⟩
    · exact ⟨0, fun h => absurd h hi⟩
  obtain ⟨f, hf'⟩ := Classical.axiomOfChoice F
  refine ⟨(List.range 32).map f, ?_, by simp, fun x hx => ?_⟩
  · have : cs = bcells ((List.range 32).map f) := by
      apply Array.ext'
      apply List.ext_getElem?
      intro j
      rcases Nat.lt_or_ge j 32 with hj | hj
      · rw [Array.getElem?_toList, Array.getElem?_toList, bcells_get _ j hj, (hf' j hj).1]
        simp [hj]
      · rw [List.getElem?_eq_none (by simp [h2]; omega), List.getElem?_eq_none (by rw [Array.length_toList, bcells_size _ (by simp)]; omega)]
    rw [this]
  · obtain ⟨i, hi, rfl⟩ := List.mem_map.1 hx
    exact (hf' i (by simpa using hi)).2
end

end Go.Proofs.YtgmefdmeeihgoaaDoor
