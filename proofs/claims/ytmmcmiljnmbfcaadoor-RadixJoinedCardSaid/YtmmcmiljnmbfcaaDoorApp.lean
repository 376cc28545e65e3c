/-
  A row of bytes that the call itself made is appended to, whatever slice of bytes it is that is appended: nil, empty or not. For stage 2 (radix).
-/
import Derived.Test.YtmmcmiljnmbfcaaDoorEncWalk
import Derived.Laws.AppendOwnNone
namespace Go.Proofs.YtmmcmiljnmbfcaaDoor
open Go.RowKit

/-- The first k of them. -/
theorem Row.first {w : World} {a : Option Addr} {n : Nat} {zs : List Int} (h : Row w a n zs) (k : Nat) (hk : k ≤ n) : Row w a k (zs.take k) := by
  have hl := h.1
  refine ⟨by rw [List.length_take]; omega, fun x hx => h.2.1 x (List.mem_of_mem_take hx), fun h0 => ?_⟩
  obtain ⟨b, off, e, hb, hc⟩ := h.2.2 (by omega)
  exact ⟨b, off, e, hb, fun i hi => by rw [hc i (by omega), List.getElem?_take, if_pos hi]⟩

theorem Row.cells {w : World} {ad : Addr} {n : Nat} {zs : List Int} (h : Row w (some ad) n zs) : ∀ j u, (zs.map (Value.int .u8))[j]? = some u → w.cell? (ad.add j) = some u := by
  intro j u hu
  rw [List.getElem?_map] at hu
  rcases Nat.lt_or_ge j zs.length with hl | hl
  · have hn := h.1
    obtain ⟨b, off, e, _, hc⟩ := h.2.2 (by omega)
    injection e with e
    subst e
    rw [Addr.add_lit, hc j (by omega)]
    rw [List.getElem?_eq_getElem hl] at hu ⊢
    simpa using hu
  · rw [List.getElem?_eq_none hl] at hu
    cases hu

/-- Bytes are appended. -/
theorem out_append {ops : Array Oper} {rest : List Oper} {o : Oper} {a : Act} {Q : Exit → Act → World → Prop} {W0 w : World} {V : Value} {L zs : List Int} {A : Option Addr} {m c : Nat} (hgd : o.guard = none) (s x : Operand)
    (hop : o.op = .call { callee := .builtin .append, args := #[s, x], argTypes := #[29, 29] }) (hs : a.eval s = V) (hout : Out W0 w V L) (hx : a.eval x = .slice A m c) (hr : Row w A m zs) (hnil : A = none → c = 0) (hl : L.length + m ≤ 1000000)
    (h : ∀ V' w', Out W0 w' V' (L ++ zs) → wpList Tryd.prog ops Q rest (a.put o.dst V') w') : wpList Tryd.prog ops Q (o :: rest) a w := by
  obtain ⟨i0, hi5, hz0, hz1, hz2⟩ := info_parts Tryd.infoByte
  cases A with
  | none =>
    obtain rfl := hnil rfl
    have hm : m = 0 := by
      rcases Nat.eq_zero_or_pos m with h0 | h0
      · exact h0
      · obtain ⟨_, _, e, _⟩ := hr.2.2 h0
        cases e
    subst hm
    obtain rfl : zs = [] := List.eq_nil_of_length_eq_zero hr.1
    refine wpList_append_own_none hgd s x 29 hop W0.heap.size 5 i0 1 Tryd.underlying29 hi5 V L.length _ hs hout.1 hx ?_
    have := h V w (by simpa using hout)
    exact this
  | some ad =>
    refine wpList_append_own _ hgd s x 29 hop W0.heap.size 5 i0 (.int .u8 0) 1 1 Tryd.underlying29 hi5 hz0 hz1 hz2 rfl (by decide) V L.length (L.map (Value.int .u8)) hs hout.1 ad m c (zs.map (Value.int .u8)) hx (by rw [List.length_map, hr.1, Nat.mul_one]) hr.cells ?_ (by unfold maxLen; omega) (by omega) hout.2.size ?_
    · intro u hu
      obtain ⟨_, _, rfl⟩ := List.mem_map.1 hu
      rfl
    · intro V' w' hown hg _
      refine h V' w' ⟨?_, hout.2.grown hg hout.2.size (fun k hk => (hout.1.lt k hk).1)⟩
      rw [List.length_append, hr.1, List.map_append]
      exact hown

theorem Out.alloc {W0 wr : World} {V : Value} {L : List Int} (h : Out W0 wr V L) (o : Obj) : Out W0 (wr.alloc o) V L := h.below ((Below.refl _ _).alloc (Nat.le_refl _) o)

end Go.Proofs.YtmmcmiljnmbfcaaDoor
