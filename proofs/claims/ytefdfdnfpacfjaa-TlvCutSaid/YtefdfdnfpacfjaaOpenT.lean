/-
  An argument that is an element (package api's Node), opened: whatever its value reads as, it is a tree in memory.
-/
import Derived.Test.YtefdfdnfpacfjaaTree
import Derived.Test.YtefdfdnfpacfjaaOpen
import Derived.Lib.SmallJoins
import Derived.ChangeArms
import Derived.ChangeSlices
import Derived.Deep.Fields
namespace Go.Proofs.Ytefdfdnfpacfjaa
open Go.RowKit Go.Deep Go.ChangeShapes Go.WideShapes
section
variable {H : Type} {enc : TypeId × Value → H}

theorem trod_three {P : Program} {w : World} {base : Nat} {spare : Nat → Bool} {held : Bool} {t : TypeId} {f0 f1 f2 : Field} {fuel : Nat} {cs : List Value} {x : DataW H × List MemPlace} (hs : P.underlying t = some (.struct #[f0, f1, f2])) (hone : oneCellFields P #[f0, f1, f2] = true) (hC : P.cellsOf t = 3)
    (h : DataW.trod enc P w base spare held fuel t cs = some x) :
    ∃ (n : Nat) (v0 v1 v2 : Value) (y0 y1 y2 : DataW H × List MemPlace), fuel = n + 1 ∧ cs = [v0, v1, v2] ∧
      DataW.trod enc P w base spare held n f0.type [v0] = some y0 ∧ DataW.trod enc P w base spare held n f1.type [v1] = some y1 ∧ DataW.trod enc P w base spare held n f2.type [v2] = some y2 := by
  obtain ⟨xs, n, hfu, _, hl, hlen, hf⟩ := DataW.trod_struct hs h
  rw [hC] at hl
  obtain ⟨o0, k0⟩ := hone_of hone 0 f0 rfl
  obtain ⟨o1, k1⟩ := hone_of hone 1 f1 rfl
  obtain ⟨o2, k2⟩ := hone_of hone 2 f2 rfl
  match cs, hl, xs, hlen with
  | [v0, v1, v2], _, [y0, y1, y2], _ =>
    exact ⟨n, v0, v1, v2, y0, y1, y2, hfu, rfl, by simpa [o0, k0] using hf 0 f0 rfl, by simpa [o1, k1] using hf 1 f1 rfl, by simpa [o2, k2] using hf 2 f2 rfl⟩

theorem listed {p : Nat → T → Prop} {len : Nat} (h : ∀ i, i < len → ∃ t, p i t) : ∃ ts : List T, ts.length = len ∧ ∀ (i : Nat) (hi : i < ts.length), p i ts[i] := by
  have h' : ∀ i, ∃ t, i < len → p i t := fun i => by
    by_cases hi : i < len
    · obtain ⟨t, ht⟩ := h i hi
      exact ⟨t, fun _ => ht⟩
    · exact ⟨.node 0 [] [], fun hl => absurd hl hi⟩
  obtain ⟨f, hf⟩ := Classical.axiomOfChoice h'
  refine ⟨(List.range len).map f, by simp, fun i hi => ?_⟩
  have hi' : i < len := by simpa using hi
  simpa using hf i hi'

theorem cells_node : Try.prog.cellsOf 26 = 3 := by kernel_rfl
theorem cells_byte : Try.prog.cellsOf 5 = 1 := by kernel_rfl

theorem open_node {w : World} {spare : Nat → Bool} {held : Bool} (hsp : ∀ b, spare b = true) (fuel : Nat) : ∀ (cs : List Value) (x : DataW H × List MemPlace), DataW.trod enc Try.prog w 0 spare held fuel 26 cs = some x →
    ∃ (v0 v1 v2 : Value) (t : T), cs = [v0, v1, v2] ∧ t.In w (.agg #[v0, v1, v2]) := by
  induction fuel using Nat.strongRecOn with
  | ind fuel ih =>
    intro cs x h
    obtain ⟨n, v0, v1, v2, y0, y1, y2, hfu, rfl, h0, h1, h2⟩ := trod_three Try.underlying26 (by kernel_rfl) cells_node h
    obtain ⟨tag, e0, _, hw⟩ := DataW.trod_int Try.underlying3 h0
    injection e0 with e0 _
    subst e0
    obtain ⟨A, m, c, body, e1, hr, hm, hnil⟩ : ∃ (A : Option Addr) (m c : Nat) (body : List Int), v1 = .slice A m c ∧ Row w A m body ∧ m ≤ maxLen ∧ (A = none → c = 0) := by
      rcases open_ints Try.underlying22 Try.underlying5 cells_byte h1 with ⟨hcs, _⟩ | ⟨a, len, cap, zs, hcs, _, hl, hm, hz, _, hcell, hwz⟩
      · injection hcs with e _
        exact ⟨none, 0, 0, [], e, Row.nil _ _, Nat.zero_le _, fun _ => rfl⟩
      · injection hcs with e _
        rw [hsp, if_pos rfl] at hz
        obtain ⟨r1, r2⟩ := row_of (w := w) (a := some a) (len := len) (cap := cap) (zs := zs) (.inr ⟨a, rfl, hl, hm, hz, hcell, hwz⟩)
        exact ⟨some a, len, cap, zs.take len, e, r1, r2, fun h => by cases h⟩
    subst e1
    obtain ⟨K, k, d, kids, e2, hk, hkm, hall⟩ : ∃ (K : Option Addr) (k d : Nat) (kids : List T), v2 = .slice K k d ∧ kids.length = k ∧ k ≤ maxLen ∧ (0 < k → ∃ b off, K = some ⟨b, off, none⟩ ∧ b < w.heap.size ∧ T.InAll w kids b off) := by
      rcases DataW.trod_slice Try.underlying24 h2 with ⟨hcs, _⟩ | ⟨a, len, cap, elems, rest, n', hn', hcs, _, _, hl, hm, hlen, hel, _, _⟩
      · injection hcs with e _
        exact ⟨none, 0, 0, [], e, rfl, Nat.zero_le _, fun h => absurd h (by omega)⟩
      · injection hcs with e _
        rw [cells_node] at hel
        obtain ⟨ts, hts, hp⟩ := listed (p := fun i t => ∃ v0 v1 v2 : Value, w.cell? ((a.add (i * 3)).add 0) = some v0 ∧ w.cell? ((a.add (i * 3)).add 1) = some v1 ∧ w.cell? ((a.add (i * 3)).add 2) = some v2 ∧ t.In w (.agg #[v0, v1, v2])) (len := len) (fun i hi => by
          have he := hel i hi
          rw [List.getElem?_eq_getElem (by omega)] at he
          obtain ⟨ci, hci, hti⟩ := Option.bind_eq_some_iff.1 he
          obtain ⟨u0, u1, u2, t, rfl, hin⟩ := ih n' (by omega) ci _ hti
          obtain ⟨_, _, hc⟩ := World.cells?_some hci
          exact ⟨t, u0, u1, u2, by simpa using hc 0 (by omega), by simpa using hc 1 (by omega), by simpa using hc 2 (by omega), hin⟩)
        refine ⟨some a, len, cap, ts, e, hts, by omega, fun hpos => ?_⟩
        obtain ⟨b, off, spot⟩ := a
        obtain ⟨u0, _, _, hc0, _, _, _⟩ := hp 0 (by omega)
        have hspot : spot = none := by simpa [Addr.add] using World.cell?_spot hc0
        subst hspot
        refine ⟨b, off, rfl, by have := cell_block hc0; simpa [Addr.add] using this, T.InAll.of fun i hi => ?_⟩
        obtain ⟨u0, u1, u2, g0, g1, g2, g3⟩ := hp i hi
        rw [Addr.add_lit] at g0 g1 g2
        rw [Addr.add_lit] at g0 g1 g2
        exact ⟨u0, u1, u2, g0, g1, g2, g3⟩
    subst e2
    refine ⟨_, _, _, .node tag body kids, rfl, ?_⟩
    unfold T.In
    exact ⟨A, m, c, K, k, d, rfl, hw, hr, hm, hnil, hk, hkm, hall⟩
/-- An argument of type Node. -/
theorem open_arg {w : World} {r : Reach} {b0 : Nat} {held : Bool} {v : Value} {d : DataW H} {p : List MemPlace} (hv : Value.okWide Try.prog w r b0 26 v) (h : DataW.Trod enc Try.prog w 0 (fun _ => true) held 26 v d p) : ∃ t : T, t.In w v := by
  obtain ⟨cs, rfl, _⟩ := okWide_struct Try.underlying26 hv
  obtain ⟨fuel, hf⟩ := h
  obtain ⟨v0, v1, v2, t, hcs, hin⟩ := open_node (fun _ => rfl) fuel _ _ hf
  have e : cs = #[v0, v1, v2] := by
    obtain ⟨l⟩ := cs
    have hl : l = [v0, v1, v2] := hcs
    rw [hl]
  subst e
  exact ⟨t, hin⟩
/-- An argument of type []Node. -/
theorem open_args {w : World} {held : Bool} {K : Option Addr} {k d : Nat} {x : DataW H} {p : List MemPlace} (h : DataW.Trod enc Try.prog w 0 (fun _ => true) held 24 (.slice K k d) x p) :
    ∃ kids : List T, kids.length = k ∧ k ≤ maxLen ∧ (K = none → d = 0) ∧ (0 < k → ∃ b off, K = some ⟨b, off, none⟩ ∧ b < w.heap.size ∧ T.InAll w kids b off) := by
  obtain ⟨fuel, hf⟩ := h
  rcases DataW.trod_slice Try.underlying24 hf with ⟨hcs, _⟩ | ⟨a, len, cap, elems, rest, n', hn', hcs, _, _, hl, hm, hlen, hel, _, _⟩
  · simp [Value.cells] at hcs
    obtain ⟨rfl, rfl, rfl⟩ := hcs
    exact ⟨[], rfl, Nat.zero_le _, fun _ => rfl, fun h => absurd h (by omega)⟩
  · simp [Value.cells] at hcs
    obtain ⟨rfl, rfl, rfl⟩ := hcs
    rw [cells_node] at hel
    obtain ⟨ts, hts, hp⟩ := listed (p := fun i t => ∃ v0 v1 v2 : Value, w.cell? ((a.add (i * 3)).add 0) = some v0 ∧ w.cell? ((a.add (i * 3)).add 1) = some v1 ∧ w.cell? ((a.add (i * 3)).add 2) = some v2 ∧ t.In w (.agg #[v0, v1, v2])) (len := k) (fun i hi => by
      have he := hel i hi
      rw [List.getElem?_eq_getElem (by omega)] at he
      obtain ⟨ci, hci, hti⟩ := Option.bind_eq_some_iff.1 he
      obtain ⟨u0, u1, u2, t, rfl, hin⟩ := open_node (fun _ => rfl) n' ci _ hti
      obtain ⟨_, _, hc⟩ := World.cells?_some hci
      exact ⟨t, u0, u1, u2, by simpa using hc 0 (by omega), by simpa using hc 1 (by omega), by simpa using hc 2 (by omega), hin⟩)
    refine ⟨ts, hts, by omega, fun h => (by cases h), fun hpos => ?_⟩
    obtain ⟨b, off, spot⟩ := a
    obtain ⟨u0, _, _, hc0, _, _, _⟩ := hp 0 (by omega)
    have hspot : spot = none := by simpa [Addr.add] using World.cell?_spot hc0
    subst hspot
    refine ⟨b, off, rfl, by have := cell_block hc0; simpa [Addr.add] using this, T.InAll.of fun i hi => ?_⟩
    obtain ⟨u0, u1, u2, g0, g1, g2, g3⟩ := hp i hi
    rw [Addr.add_lit] at g0 g1 g2
    rw [Addr.add_lit] at g0 g1 g2
    exact ⟨u0, u1, u2, g0, g1, g2, g3⟩
end
end Go.Proofs.Ytefdfdnfpacfjaa
