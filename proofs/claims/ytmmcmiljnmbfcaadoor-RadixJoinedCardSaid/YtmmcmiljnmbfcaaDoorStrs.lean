/-
  Rows of texts in memory: one that is read, and one that the call itself made and appends to, for stage 2 (radix).
-/
import Derived.Test.YtmmcmiljnmbfcaaDoorApp
import Derived.Test.YtmmcmiljnmbfcaaDoorParts
import Derived.Deep.QuietTactic
import Derived.BigQuiet
namespace Go.Proofs.YtmmcmiljnmbfcaaDoor
open Go.RowKit

/-- A slice value with n elements reads as these texts; where there is an element, it lies in a block of this world. -/
def SRow (w : World) (a : Option Addr) (n : Nat) (ss : List ByteArray) : Prop :=
  ss.length = n ∧ (0 < n → ∃ b off, a = some ⟨b, off, none⟩ ∧ b < w.heap.size ∧ ∀ i, i < n → w.cell? ⟨b, off + i, none⟩ = some (.string (ss[i]?.getD ByteArray.empty)))
theorem SRow.below {w w' : World} {a : Option Addr} {n : Nat} {ss : List ByteArray} (h : SRow w a n ss) (hb : Below w.heap.size w w') : SRow w' a n ss := by
  refine ⟨h.1, fun hn => ?_⟩
  obtain ⟨b, off, e, hlt, hc⟩ := h.2 hn
  exact ⟨b, off, e, Nat.lt_of_lt_of_le hlt hb.size, fun i hi => (hb.cell (p := ⟨b, off + i, none⟩) hlt).trans (hc i hi)⟩
theorem SRow.first {w : World} {a : Option Addr} {n : Nat} {ss : List ByteArray} (h : SRow w a n ss) (k : Nat) (hk : k ≤ n) : SRow w a k (ss.take k) := by
  have hl := h.1
  refine ⟨by rw [List.length_take]; omega, fun h0 => ?_⟩
  obtain ⟨b, off, e, hb, hc⟩ := h.2 (by omega)
  exact ⟨b, off, e, hb, fun i hi => by rw [hc i (by omega), List.getElem?_take, if_pos hi]⟩

theorem Tryd.infoStr : (Tryd.prog.info? 9).map (fun i => (i.zero, i.size, i.bytes)) = some (some (.string ByteArray.empty), 1, 16) := by kernel_rfl

/-- The slice V is the call's own, in memory newer than W0, and reads as these texts. -/
def SOut (W0 wr : World) (V : Value) (L : List ByteArray) : Prop := wr.ownsRow W0.heap.size 9 1 V L.length (L.map Value.string) ∧ Below W0.heap.size W0 wr
theorem SOut.below {W0 wr w' : World} {V : Value} {L : List ByteArray} (h : SOut W0 wr V L) (hb : Below wr.heap.size wr w') : SOut W0 w' V L := by
  refine ⟨⟨h.1.1, ?_⟩, h.2.trans (hb.mono h.2.size)⟩
  rcases h.1.2 with h' | ⟨g, cap, cur, e, h1, h2, h3⟩
  · exact .inl h'
  · exact .inr ⟨g, cap, cur, e, h1, (hb.block g (Array.getElem?_eq_some_iff.1 h2).1).trans h2, h3⟩
theorem SOut.alloc {W0 wr : World} {V : Value} {L : List ByteArray} (h : SOut W0 wr V L) (o : Obj) : SOut W0 (wr.alloc o) V L := h.below ((Below.refl _ _).alloc (Nat.le_refl _) o)
theorem SOut.start (w : World) : SOut w w (.slice none 0 0) [] := ⟨World.ownsRow_nil _ _ _ _, Below.refl _ _⟩
theorem SOut.row {W0 wr : World} {V : Value} {L : List ByteArray} (h : SOut W0 wr V L) : ∃ a c, V = .slice a L.length c ∧ SRow wr a L.length L := by
  rcases h.1.2 with ⟨rfl, h0⟩ | ⟨g, cap, cur, rfl, h1, h2, h3⟩
  · have : L = [] := List.eq_nil_of_length_eq_zero h0
    subst this
    exact ⟨none, 0, rfl, rfl, fun h => absurd h (by simp)⟩
  · refine ⟨_, cap, rfl, rfl, fun hn => ⟨g, 0, rfl, (h.1.lt g rfl).2, fun i hi => ?_⟩⟩
    rw [Nat.zero_add, h.1.cellAt i (by omega), List.getElem?_map, List.getElem?_eq_getElem hi]
    rfl

/-- One text is appended: it was laid in a new block of one cell. -/
theorem sout_append {ops : Array Oper} {rest : List Oper} {o : Oper} {a : Act} {Q : Exit → Act → World → Prop} {W0 wr : World} {V : Value} {L : List ByteArray} {s : ByteArray} (hgd : o.guard = none) (x y : Operand)
    (hop : o.op = .call { callee := .builtin .append, args := #[x, y], argTypes := #[24, 24] }) (hs : a.eval x = V) (hout : SOut W0 wr V L) (hx : a.eval y = .slice (some ⟨wr.heap.size, 0, none⟩) 1 1) (hl : L.length + 1 ≤ 1000000)
    (h : ∀ V' w', SOut W0 w' V' (L ++ [s]) → wpList Tryd.prog ops Q rest (a.put o.dst V') w') : wpList Tryd.prog ops Q (o :: rest) a (wr.alloc (.cells #[.string s] 9 (0, 0))) := by
  obtain ⟨i0, hi5, hz0, hz1, hz2⟩ := info_parts Tryd.infoStr
  refine wpList_append_own _ hgd x y 24 hop W0.heap.size 9 i0 (.string ByteArray.empty) 1 16 Tryd.underlying24 hi5 hz0 hz1 hz2 rfl (by decide) V L.length (L.map Value.string) hs (hout.alloc _).1 ⟨wr.heap.size, 0, none⟩ 1 1 [.string s] hx rfl ?_ ?_ (by unfold maxLen; omega) (by omega) (hout.alloc (.cells #[.string s] 9 (0, 0))).2.size ?_
  · intro j u hu
    cases j with
    | zero =>
      obtain rfl : Value.string s = u := by simpa using hu
      have e := heap_alloc_new wr (.cells #[.string s] 9 (0, 0))
      simp only [Addr.add_lit, World.cell?, e]
      rfl
    | succ j => simp at hu
  · intro u hu
    obtain rfl : u = Value.string s := by simpa using hu
    rfl
  · intro V' w' hown hg _
    refine h V' w' ⟨?_, (hout.alloc (.cells #[.string s] 9 (0, 0))).2.grown hg (hout.alloc (.cells #[.string s] 9 (0, 0))).2.size (fun k hk => ((hout.alloc (.cells #[.string s] 9 (0, 0))).1.lt k hk).1)⟩
    rw [List.length_append, List.map_append]
    exact hown

theorem same_ret {a b : Bool} (h : a = b) : Ending.returned (.bool a) = .returned (.bool b) := by rw [h]

theorem str_ne {x y : ByteArray} (h : ¬ x = y) : (x.toList == y.toList) = false := by
  rw [beq_eq_false_iff_ne]
  intro e
  rw [Lib.toList_data, Lib.toList_data] at e
  obtain ⟨⟨x⟩⟩ := x
  obtain ⟨⟨y⟩⟩ := y
  exact h (by rw [show x = y from e])

set_option maxHeartbeats 1000000 in
theorem same_any (a b : Option Addr) (n m ca cb : Nat) (xs ys : List ByteArray) (w : World) (hx : SRow w a n xs) (hy : SRow w b m ys) (hn : n ≤ 1000000) (hm : m ≤ 1000000) :
    Calls Tryd.prog 6 #[.slice a n ca, .slice b m cb] w fun e w' => e = .returned (.bool (decide (xs = ys))) ∧ ∃ q, w' = w.drewN q := by
  have HX := Lib.hid hx
  have HY := Lib.hid hy
  clear hx hy
  by_cases hnm : n = m
  · subst hnm
    go_enter Tryd.func6, Tryd.ntmps6
    go_wp2
    go_loopw [5] (fun i wr => ∃ k q : Nat, k ≤ n ∧ i = .int .i64 k ∧ wr = w.drewN q ∧ xs.take k = ys.take k) (fun i _ => n - (intOf i).toNat)
    case atStart => exact ⟨0, 0, Nat.zero_le _, rfl, rfl, rfl⟩
    case round =>
      obtain ⟨k, q, hk, rfl, rfl, he⟩ := hrel
      have HE := Lib.hid he
      clear he
      by_cases hlt : k < n
      · obtain ⟨b1, o1, rfl, hb1, hc1⟩ := HX.out.2 (by omega)
        obtain ⟨b2, o2, rfl, hb2, hc2⟩ := HY.out.2 (by omega)
        have c1 := hc1 k hlt
        have c2 := hc2 k hlt
        clear hc1 hc2
        have h1 := HX.out.1
        have h2 := HY.out.1
        have S1 : Hid (xs.take (k + 1) = xs.take k ++ [xs[k]?.getD ByteArray.empty]) := by
          rw [List.take_succ_eq_append_getElem (by omega), List.getElem?_eq_getElem (by omega)]
          exact Lib.hid rfl
        have S2 : Hid (ys.take (k + 1) = ys.take k ++ [ys[k]?.getD ByteArray.empty]) := by
          rw [List.take_succ_eq_append_getElem (by omega), List.getElem?_eq_getElem (by omega)]
          exact Lib.hid rfl
        clear h1 h2
        generalize xs[k]?.getD ByteArray.empty = x at c1 S1
        generalize ys[k]?.getD ByteArray.empty = y at c2 S2
        by_cases hxy : x = y
        · subst hxy
          go_wp2
          go_quiet (fail)
          go_wp2
          go_roundw
          case rel => exact ⟨k + 1, _, by omega, by go_num, rfl, by rw [S1.out, S2.out, HE.out]⟩
          case measure => simp [intOf]; omega
        · have hne := str_ne hxy
          have ND : Hid (xs ≠ ys) := by
            intro e
            have hx1 := S1.out
            have hx2 := S2.out
            rw [e, HE.out.symm.trans (by rw [e]), hx2] at hx1
            exact hxy (by simpa using hx1.symm)
          clear S1 S2 HE
          go_wp2
          go_quiet (fail)
          go_wp2
          go_ret
          exact ⟨same_ret (by rw [decide_eq_false ND.out]), _, by rw [World.drewN_drewN]⟩
      · have hall : k = n := by omega
        subst hall
        have ND : Hid (xs = ys) := by
          have h1 := HE.out
          rw [List.take_of_length_le (by rw [HX.out.1]; omega), List.take_of_length_le (by rw [HY.out.1]; omega)] at h1
          exact h1
        clear HE
        go_wp2
        go_ret
        exact ⟨same_ret (by rw [decide_eq_true ND.out]), _, rfl⟩
  · have ND : Hid (xs ≠ ys) := by
      intro e
      exact hnm (by rw [← HX.out.1, ← HY.out.1, e])
    go_enter Tryd.func6, Tryd.ntmps6
    go_wp2
    go_ret
    exact ⟨same_ret (by rw [decide_eq_false ND.out]), 0, rfl⟩

end Go.Proofs.YtmmcmiljnmbfcaaDoor
