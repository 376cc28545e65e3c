/-
  Rows of 32-bit numbers: as Math, Open and Out have rows of bytes. Made of those texts by tools/mk32.py.
-/
import Derived.Test.YthpdeaappchnpaaBlk
namespace Go.Proofs.Ythpdeaappchnpaa
open Go.RowKit
set_option linter.unusedVariables false

/-- A slice value with n elements reads as the numbers zs, each a byte; where there is an element, it lies in a block of this world. -/
def Row32 (w : World) (a : Option Addr) (n : Nat) (zs : List Int) : Prop :=
  zs.length = n ∧ (∀ x ∈ zs, 0 ≤ x ∧ x ≤ 4294967295) ∧
  (0 < n → ∃ b off, a = some ⟨b, off, none⟩ ∧ b < w.heap.size ∧ ∀ i, i < n → w.cell? ⟨b, off + i, none⟩ = some (.int .u32 (zs[i]?.getD 0)))

theorem Row32.below {w w' : World} {a : Option Addr} {n : Nat} {zs : List Int} (h : Row32 w a n zs) (hb : Below w.heap.size w w') : Row32 w' a n zs := by
  refine ⟨h.1, h.2.1, fun hn => ?_⟩
  obtain ⟨b, off, e, hlt, hc⟩ := h.2.2 hn
  exact ⟨b, off, e, Nat.lt_of_lt_of_le hlt hb.size, fun i hi => (hb.cell (p := ⟨b, off + i, none⟩) hlt).trans (hc i hi)⟩

theorem Row32.drewN {w : World} {a : Option Addr} {n : Nat} {zs : List Int} (h : Row32 w a n zs) (k : Nat) : Row32 (w.drewN k) a n zs := h

theorem Row32.nil (w : World) (a : Option Addr) : Row32 w a 0 [] := ⟨rfl, by simp, fun h => absurd h (by omega)⟩

theorem Row32.num {w : World} {a : Option Addr} {n : Nat} {zs : List Int} (h : Row32 w a n zs) (k : Nat) : 0 ≤ zs[k]?.getD 0 ∧ zs[k]?.getD 0 ≤ 4294967295 := by
  rcases Nat.lt_or_ge k zs.length with hk | hk
  · rw [List.getElem?_eq_getElem hk]
    exact h.2.1 _ (List.getElem_mem hk)
  · rw [List.getElem?_eq_none hk]
    simp

/-- The row that was made reads as these numbers. -/
theorem Row32.of_own {w : World} {base g n cap : Nat} {zs : List Int} (h : w.ownsRow base 35 1 (.slice (some ⟨g, 0, none⟩) n cap) n (zs.map (Value.int .u32))) (hz : ∀ x ∈ zs, 0 ≤ x ∧ x ≤ 4294967295) :
    Row32 w (some ⟨g, 0, none⟩) n zs := by
  have hl : zs.length = n := by have := h.1; simpa using this
  refine ⟨hl, hz, fun hn => ⟨g, 0, rfl, ?_, fun i hi => ?_⟩⟩
  · exact (h.lt g rfl).2
  · rw [Nat.zero_add, h.cellAt i (by omega)]
    simp [show i < zs.length by omega]

theorem row32_of {w : World} {a : Option Addr} {len cap : Nat} {zs : List Int}
    (h : (a = none ∧ len = 0 ∧ cap = 0 ∧ zs = []) ∨
      ∃ x, a = some x ∧ len ≤ cap ∧ cap ≤ maxLen ∧ zs.length = cap ∧ (∀ i, i < zs.length → w.cell? (x.add i) = some (.int .u32 (zs.getD i 0))) ∧ ∀ n ∈ zs, (Lit.int .u32 n).wf = true) :
    Row32 w a len (zs.take len) ∧ len ≤ maxLen := by
  rcases h with ⟨rfl, rfl, rfl, rfl⟩ | ⟨x, rfl, hl, hm, hz, hcell, hwz⟩
  · exact ⟨Row32.nil _ _, Nat.zero_le _⟩
  · refine ⟨⟨by rw [List.length_take]; omega, fun y hy => ?_, fun hn => ?_⟩, by omega⟩
    · have := hwz y (List.mem_of_mem_take hy)
      have := bounds_u32 this
      omega
    · obtain ⟨b, off, spot⟩ := x
      have hc := hcell 0 (by omega)
      have hspot : spot = none := by simpa [Addr.add] using World.cell?_spot hc
      subst hspot
      refine ⟨b, off, rfl, by have := cell_block hc; simpa [Addr.add] using this, fun i hi => ?_⟩
      have := hcell i (by omega)
      rw [Addr.add_lit] at this
      rw [this, List.getD_eq_getElem?_getD, List.getElem?_take, if_pos hi]

theorem Try.info32 : (Try.prog.info? 35).map (fun i => (i.zero, i.size, i.bytes)) = some (some (.int .u32 0), 1, 4) := by kernel_rfl

/-- The slice V is the call's own, in memory newer than W0, and reads as the numbers L. -/
def Out32 (W0 wr : World) (V : Value) (L : List Int) : Prop := wr.ownsRow W0.heap.size 35 1 V L.length (L.map (Value.int .u32)) ∧ Below W0.heap.size W0 wr

theorem Out32.below {W0 wr w' : World} {V : Value} {L : List Int} (h : Out32 W0 wr V L) (hb : Below wr.heap.size wr w') : Out32 W0 w' V L := by
  refine ⟨⟨h.1.1, ?_⟩, h.2.trans (hb.mono h.2.size)⟩
  rcases h.1.2 with h' | ⟨g, cap, cur, e, h1, h2, h3⟩
  · exact .inl h'
  · exact .inr ⟨g, cap, cur, e, h1, (hb.block g (Array.getElem?_eq_some_iff.1 h2).1).trans h2, h3⟩

theorem Out32.row {W0 wr : World} {V : Value} {L : List Int} (h : Out32 W0 wr V L) (hL : ∀ x ∈ L, 0 ≤ x ∧ x ≤ 4294967295) : ∃ a c, V = .slice a L.length c ∧ Row32 wr a L.length L := by
  rcases h.1.2 with ⟨rfl, h0⟩ | ⟨g, cap, cur, rfl, _⟩
  · have : L = [] := List.eq_nil_of_length_eq_zero h0
    subst this
    exact ⟨none, 0, rfl, Row32.nil _ _⟩
  · exact ⟨_, cap, rfl, Row32.of_own h.1 hL⟩

theorem Row32.cells {w : World} {ad : Addr} {n : Nat} {zs : List Int} (h : Row32 w (some ad) n zs) : ∀ j u, (zs.map (Value.int .u32))[j]? = some u → w.cell? (ad.add j) = some u := by
  intro j u hu
  rw [List.getElem?_map] at hu
  rcases Nat.lt_or_ge j zs.length with hl | hl
  · have hn := h.1
    obtain ⟨b, off, e, _, hc⟩ := h.2.2 (by omega)
    injection e with e
    subst e
    rw [Addr.add_lit, hc j (by omega)]
    rw [List.getElem?_eq_getElem hl] at hu ⊢
    simpa using hu
  · rw [List.getElem?_eq_none hl] at hu
    cases hu

/-- Bytes are appended. -/
theorem out_append32 {ops : Array Oper} {rest : List Oper} {o : Oper} {a : Act} {Q : Exit → Act → World → Prop} {W0 w : World} {V : Value} {L zs : List Int} {A : Option Addr} {m c : Nat} (hgd : o.guard = none) (s x : Operand)
    (hop : o.op = .call { callee := .builtin .append, args := #[s, x], argTypes := #[22, 22] }) (hs : a.eval s = V) (hout : Out32 W0 w V L) (hx : a.eval x = .slice A m c) (hr : Row32 w A m zs) (hnil : A = none → c = 0) (hl : L.length + m ≤ 1000000)
    (h : ∀ V' w', Out32 W0 w' V' (L ++ zs) → wpList Try.prog ops Q rest (a.put o.dst V') w') : wpList Try.prog ops Q (o :: rest) a w := by
  obtain ⟨i0, hi5, hz0, hz1, hz2⟩ := info_parts Try.info32
  cases A with
  | none =>
    obtain rfl := hnil rfl
    have hm : m = 0 := by
      rcases Nat.eq_zero_or_pos m with h0 | h0
      · exact h0
      · obtain ⟨_, _, e, _⟩ := hr.2.2 h0
        cases e
    subst hm
    obtain rfl : zs = [] := List.eq_nil_of_length_eq_zero hr.1
    refine wpList_append_own_none hgd s x 22 hop W0.heap.size 35 i0 1 Try.underlying22 hi5 V L.length _ hs hout.1 hx ?_
    have := h V w (by simpa using hout)
    exact this
  | some ad =>
    refine wpList_append_own _ hgd s x 22 hop W0.heap.size 35 i0 (.int .u32 0) 1 4 Try.underlying22 hi5 hz0 hz1 hz2 rfl (by decide) V L.length (L.map (Value.int .u32)) hs hout.1 ad m c (zs.map (Value.int .u32)) hx (by rw [List.length_map, hr.1, Nat.mul_one]) hr.cells ?_ (by unfold maxLen; omega) (by omega) hout.2.size ?_
    · intro u hu
      obtain ⟨_, _, rfl⟩ := List.mem_map.1 hu
      rfl
    · intro V' w' hown hg _
      refine h V' w' ⟨?_, hout.2.grown hg hout.2.size (fun k hk => (hout.1.lt k hk).1)⟩
      rw [List.length_append, hr.1, List.map_append]
      exact hown

theorem Out32.alloc {W0 wr : World} {V : Value} {L : List Int} (h : Out32 W0 wr V L) (o : Obj) : Out32 W0 (wr.alloc o) V L := h.below ((Below.refl _ _).alloc (Nat.le_refl _) o)

theorem Out32.nilc {W0 wr : World} {a : Option Addr} {n c : Nat} {L : List Int} (h : Out32 W0 wr (.slice a n c) L) : a = none → c = 0 := by
  intro e
  subst e
  rcases h.1.2 with ⟨e, _⟩ | ⟨g, cap, cur, e, _⟩
  · injection e
  · cases e

/-- A new slice of one byte. -/
theorem out_one32 (w : World) (z : Int) : Out32 w (w.alloc (.cells #[.int .u32 z] 35)) (.slice (some ⟨w.heap.size, 0, none⟩) 1 1) [z] :=
  ⟨⟨rfl, .inr ⟨w.heap.size, 1, #[.int .u32 z], rfl, Nat.le_refl _, heap_alloc_new w _, Nat.le_refl _, by unfold maxLen; omega, rfl, rfl⟩⟩, (Below.refl _ _).alloc (Nat.le_refl _) _⟩
/-- A row of the call's own: where it lies. -/
theorem Out32.form {W0 wr : World} {V : Value} {L : List Int} (h : Out32 W0 wr V L) (h0 : 0 < L.length) : ∃ g cap, V = .slice (some ⟨g, 0, none⟩) L.length cap ∧ W0.heap.size ≤ g := by
  rcases h.1.2 with ⟨_, e⟩ | ⟨g, cap, cur, e, hb, _⟩
  · omega
  · exact ⟨g, cap, e, hb⟩
theorem own_cap32 {w : World} {base n cap m : Nat} {a : Option Addr} {vs : List Value} (h : w.ownsRow base 35 1 (.slice a n cap) m vs) : n ≤ cap := by
  rcases h.2 with ⟨e, _⟩ | ⟨g, cap', cur, e, h1, h2, h3⟩
  · injection e with _ e1 e2
    omega
  · injection e with e0 e1 e2
    omega
theorem Out32.wider {w W0 wr : World} {V : Value} {L : List Int} (h : Out32 W0 wr V L) (hb : Below w.heap.size w W0) : Out32 w wr V L := by
  refine ⟨⟨h.1.1, ?_⟩, Below.step hb h.2⟩
  rcases h.1.2 with h' | ⟨g, cap, cur, e, h1, h2⟩
  · exact .inl h'
  · exact .inr ⟨g, cap, cur, e, Nat.le_trans hb.size h1, h2⟩
theorem row32_const (w : World) (zs : List Int) (hz : ∀ x ∈ zs, 0 ≤ x ∧ x ≤ 4294967295) : Row32 (w.alloc (.cells (zs.map (Value.int .u32)).toArray 35)) (some ⟨w.heap.size, 0, none⟩) zs.length zs := by
  refine ⟨rfl, hz, fun _ => ⟨w.heap.size, 0, rfl, by simp, fun i hi => ?_⟩⟩
  rw [Nat.zero_add, (Blk.new w 35 (zs.map (Value.int .u32)).toArray).cell i]
  simp [hi]

end Go.Proofs.Ythpdeaappchnpaa
