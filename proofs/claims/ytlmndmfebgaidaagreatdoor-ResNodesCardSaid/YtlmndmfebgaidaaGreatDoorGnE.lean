/-
  Merged texts: SrD, SrJ, SrL, Shelf, SqK, SqL, SrN, SrO.
-/
import Derived.Test.YtlmndmfebgaidaaGreatDoorGnD
import Derived.Test.YtlmndmfebgaidaaGreatDoorGnA
import Derived.OwnWalkIn
import Derived.TacticsInMore
import Derived.OrdersIn
import Derived.Great.Walk
import Derived.Deep.MidRow
import Derived.Shelf.SlSortCmp.WholeK
import Derived.Ground.SlsfProg
import Derived.Shelf.SlGeneric
import Derived.Test.YtlmndmfebgaidaaGreatDoorProg
import Derived.Shelf.SlSortCmp.NoneTotal
namespace Go.Proofs.YtlmndmfebgaidaaGreatDoor
open Go.RowKit
set_option linter.unusedVariables false
section
variable {F : Fence} {n : Nat} {P : Program} {ops : Array Oper} {rest : List Oper} {o : Oper} {a : Act} {Q : Exit → Act → World → Prop} {w : World}
end
end Go.Proofs.YtlmndmfebgaidaaGreatDoor
namespace Go.Proofs.YtlmndmfebgaidaaGreatDoor
open Go.RowKit
set_option maxRecDepth 100000
set_option linter.unusedVariables false
structure PfZ where
  v : Bool
  a : List Int
  l : Int
def qcells (p : PfZ) : Array Value := pcells p.v p.a p.l
def SixQ (p : PfZ) : Prop := Sixteen p.a
theorem qcells_size {p : PfZ} (h : SixQ p) : (qcells p).size = 18 := pcells_size h.1
theorem qcells_one (p : PfZ) : (qcells p).all (·.oneCell') = true := pcells_one _ _ _
def qcL (s : PfZ) : List Value := Value.bool s.v :: (acells s.a ++ [.int .i64 s.l])
theorem qcells_len {p : PfZ} (h : SixQ p) : (qcL p).length = 18 := by simp [qcL, acells_len h.1]
theorem qcL_len {s : PfZ} (h : SixQ s) : (qcL s).length = 18 := qcells_len h
def flatQ (L : List PfZ) : List Value := L.flatMap qcL
def SixM (L : List PfZ) : Prop := ∀ s ∈ L, SixQ s
theorem flatQ_len : ∀ {L : List PfZ}, SixM L → (flatQ L).length = L.length * 18
  | [], _ => rfl
  | s :: r, h => by
    show (qcL s ++ flatQ r).length = _
    rw [List.length_append, qcL_len (h s (by simp)), flatQ_len (fun x hx => h x (by simp [hx])), List.length_cons]
    omega
theorem flatQ_app (L M : List PfZ) : flatQ (L ++ M) = flatQ L ++ flatQ M := List.flatMap_append
theorem flatQ_at : ∀ {L : List PfZ} (_ : SixM L) (j i : Nat) (hj : j < L.length), i < 18 → (flatQ L)[j * 18 + i]? = (qcL (L[j]))[i]?
  | [], _, j, i, hj, _ => absurd hj (by simp)
  | s :: r, h, 0, i, hj, hi => by
    show (qcL s ++ flatQ r)[0 * 18 + i]? = _
    rw [List.getElem?_append_left (by rw [qcL_len (h s (by simp))]; omega), Nat.zero_mul, Nat.zero_add]
    rfl
  | s :: r, h, j + 1, i, hj, hi => by
    show (qcL s ++ flatQ r)[(j + 1) * 18 + i]? = _
    have l := qcL_len (h s (by simp))
    rw [List.getElem?_append_right (by rw [l]; omega), l, show (j + 1) * 18 + i - 18 = j * 18 + i by omega, flatQ_at (fun x hx => h x (by simp [hx])) j i (by simpa using hj) hi]
    rfl
theorem flatQ_take : ∀ {L : List PfZ} (_ : SixM L) (k : Nat), k ≤ L.length → flatQ (L.take k) = (flatQ L).take (k * 18)
  | [], _, k, hk => by
    obtain rfl : k = 0 := by simpa using hk
    rfl
  | s :: r, h, 0, hk => by simp [flatQ]
  | s :: r, h, k + 1, hk => by
    have l := qcL_len (h s (by simp))
    show qcL s ++ flatQ (r.take k) = (qcL s ++ flatQ r).take ((k + 1) * 18)
    rw [flatQ_take (fun x hx => h x (by simp [hx])) k (by simpa using hk), List.take_append, l, List.take_of_length_le (l := qcL s) (by rw [l]; omega), show (k + 1) * 18 - 18 = k * 18 by omega]
def PfRow (w : World) (a : Option Addr) (n : Nat) (L : List PfZ) : Prop :=
  L.length = n ∧ SixM L ∧ (0 < n → ∃ b off, a = some ⟨b, off, none⟩ ∧ b < w.heap.size ∧ ∀ i, i < n * 18 → w.cell? ⟨b, off + i, none⟩ = (flatQ L)[i]?)
theorem PfRow.below {w w' : World} {a : Option Addr} {n : Nat} {L : List PfZ} (h : PfRow w a n L) (hb : Below w.heap.size w w') : PfRow w' a n L := by
  refine ⟨h.1, h.2.1, fun hn => ?_⟩
  obtain ⟨b, off, e, hlt, hc⟩ := h.2.2 hn
  exact ⟨b, off, e, Nat.lt_of_lt_of_le hlt hb.size, fun i hi => (hb.cell (p := ⟨b, off + i, none⟩) hlt).trans (hc i hi)⟩
theorem PfRow.range {w : World} {b off n : Nat} {L : List PfZ} (h : PfRow w (some ⟨b, off, none⟩) n L) (j : Nat) (hj : j < L.length) : w.rangeAt b (off + j * 18) (qcL L[j]) := by
  intro i v hv
  obtain ⟨b', off', e, _, hc⟩ := h.2.2 (by have := h.1; omega)
  injection e with e
  injection e with e1 e2
  subst e1 e2
  have s6 := h.2.1 _ (List.getElem_mem hj)
  have hi : i < 18 := by
    have := (List.getElem?_eq_some_iff.1 hv).1
    rwa [qcL_len s6] at this
  rw [Nat.add_assoc, hc (j * 18 + i) (by have := h.1; omega), flatQ_at h.2.1 j i hj hi]
  exact hv
theorem PfRow.form {w : World} {a : Option Addr} {n : Nat} {L : List PfZ} (h : PfRow w a n L) (h0 : 0 < n) : ∃ b off, a = some ⟨b, off, none⟩ ∧ b < w.heap.size := by
  obtain ⟨b, off, e, hlt, _⟩ := h.2.2 h0
  exact ⟨b, off, e, hlt⟩
theorem PfRow.nil (w : World) (a : Option Addr) : PfRow w a 0 [] := ⟨rfl, fun _ h => absurd h (by simp), fun h => absurd h (by omega)⟩
theorem PfRow.rest {w : World} {b off n : Nat} {L : List PfZ} (h : PfRow w (some ⟨b, off, none⟩) n L) (k : Nat) (hk : k ≤ n) : PfRow w (some ⟨b, off + k * 18, none⟩) (n - k) (L.drop k) := by
  have hl := h.1
  refine ⟨by rw [List.length_drop]; omega, fun s hs => h.2.1 s (List.mem_of_mem_drop hs), fun h0 => ?_⟩
  obtain ⟨b', off', e, hb, hc⟩ := h.2.2 (by omega)
  injection e with e
  injection e with e1 e2
  subst e1 e2
  refine ⟨_, _, rfl, hb, fun i hi => ?_⟩
  have e : flatQ L = (flatQ (L.take k)) ++ flatQ (L.drop k) := by rw [← flatQ_app, List.take_append_drop]
  have l : (flatQ (L.take k)).length = k * 18 := by rw [flatQ_take h.2.1 k (by omega), List.length_take, flatQ_len h.2.1]; omega
  rw [Nat.add_assoc, hc (k * 18 + i) (by omega), e, List.getElem?_append_right (by rw [l]; omega), l, show k * 18 + i - k * 18 = i by omega]
def PfOut (W0 wr : World) (V : Value) (L : List PfZ) : Prop := wr.ownsRow W0.heap.size 43 18 V L.length (flatQ L) ∧ Below W0.heap.size W0 wr ∧ SixM L
theorem PfOut.below {W0 wr w' : World} {V : Value} {L : List PfZ} (h : PfOut W0 wr V L) (hb : Below wr.heap.size wr w') : PfOut W0 w' V L := by
  refine ⟨⟨h.1.1, ?_⟩, Below.step h.2.1 hb, h.2.2⟩
  rcases h.1.2 with h' | ⟨g, cap, cur, e, h1, h2, h3⟩
  · exact .inl h'
  · exact .inr ⟨g, cap, cur, e, h1, (hb.block g (Array.getElem?_eq_some_iff.1 h2).1).trans h2, h3⟩
theorem PfOut.alloc {W0 wr : World} {V : Value} {L : List PfZ} (h : PfOut W0 wr V L) (o : Obj) : PfOut W0 (wr.alloc o) V L := h.below (box_below _ _)
theorem PfOut.wider {w W0 wr : World} {V : Value} {L : List PfZ} (h : PfOut W0 wr V L) (hb : Below w.heap.size w W0) : PfOut w wr V L := by
  refine ⟨⟨h.1.1, ?_⟩, Below.step hb h.2.1, h.2.2⟩
  rcases h.1.2 with h' | ⟨g, cap, cur, e, h1, h2⟩
  · exact .inl h'
  · exact .inr ⟨g, cap, cur, e, Nat.le_trans hb.size h1, h2⟩
theorem PfOut.start (w : World) : PfOut w w (.slice none 0 0) [] := ⟨World.ownsRow_nil _ _ _ _, Below.refl _ _, fun _ h => absurd h (by simp)⟩
theorem PfOut.row {W0 wr : World} {V : Value} {L : List PfZ} (h : PfOut W0 wr V L) : ∃ a c, V = .slice a L.length c ∧ PfRow wr a L.length L ∧ (a = none → L = [] ∧ c = 0) := by
  rcases h.1.2 with ⟨rfl, h0⟩ | ⟨g, cap, cur, rfl, h1, h2, h3⟩
  · have : L = [] := List.eq_nil_of_length_eq_zero h0
    subst this
    exact ⟨none, 0, rfl, PfRow.nil _ _, fun _ => ⟨rfl, rfl⟩⟩
  · refine ⟨_, cap, rfl, ⟨rfl, h.2.2, fun hn => ⟨g, 0, rfl, (h.1.lt g rfl).2, fun i hi => ?_⟩⟩, fun e => by cases e⟩
    rw [Nat.zero_add, h.1.cellAt i hi]
theorem PfOut.form {W0 wr : World} {V : Value} {L : List PfZ} (h : PfOut W0 wr V L) : (V = .slice none 0 0 ∧ L = []) ∨ ∃ g cap, V = .slice (some ⟨g, 0, none⟩) L.length cap ∧ W0.heap.size ≤ g ∧ g < wr.heap.size ∧ L.length ≤ cap := by
  rcases h.1.2 with ⟨rfl, h0⟩ | ⟨g, cap, cur, rfl, h1, h2, h3, _⟩
  · exact .inl ⟨rfl, List.eq_nil_of_length_eq_zero h0⟩
  · exact .inr ⟨g, cap, rfl, h1, (h.1.lt g rfl).2, h3⟩
end Go.Proofs.YtlmndmfebgaidaaGreatDoor
namespace Go.Proofs.YtlmndmfebgaidaaGreatDoor
open Go.RowKit
set_option linter.unusedVariables false
def eqS (s t : SpanZ) : Bool := decide (s.v = t.v ∧ s.lo = t.lo ∧ s.hi = t.hi)
theorem eqS_is {s t : SpanZ} : eqS s t = true ↔ s = t := by
  unfold eqS
  rw [decide_eq_true_iff]
  constructor
  · obtain ⟨a, b, c⟩ := s
    obtain ⟨d, e, f⟩ := t
    rintro ⟨rfl, rfl, rfl⟩
    rfl
  · rintro rfl
    exact ⟨rfl, rfl, rfl⟩
theorem run_neq_span {s t : SpanZ} (hs : SixS s) (ht : SixS t) (w : World) : (binOp .neq 62 (.agg (scells s)) (.agg (scells t))).run Tryz.prog w = .ok (.bool (!eqS s t)) w := by
  have e : (Op.equal 62 (.agg (scells s)) (.agg (scells t))).run Tryz.prog w = .ok (eqS s t) w := two_span s t hs ht w
  simp [binOp, go_sem, e]
theorem run_guard_neq (x y : Operand) (cs ds : Array Value) (w : World) : (eqGuard .neq 62 x y (.agg cs) (.agg ds)).run Tryz.prog w = .ok () w := by
  unfold eqGuard
  simp [Sem.run_bind, Sem.run_pure, go_sem, Result.andThen]
theorem yields_neq {o : Oper} {a : Act} {W : World} {s t : SpanZ} (x y : Operand) (ho : o.op = .binOp .neq 62 x y 62) (hx : a.eval x = .agg (scells s)) (hy : a.eval y = .agg (scells t)) (hs : SixS s) (ht : SixS t) : (execOp a.eval o).run Tryz.prog W = .ok (.value (.bool (!eqS s t))) W := by
  unfold execOp
  simp [ho, hx, hy, run_guard_neq, run_neq_span hs ht, Result.andThen]
end Go.Proofs.YtlmndmfebgaidaaGreatDoor
namespace Go.Proofs
open Go.Shelf
def Tryz.laysF6_ren : Go.Shelf.Ren := ⟨fun | 6 => 92 | 15 => 112 | 14 => 111 | 28 => 130 | 29 => 131 | 20 => 122 | 21 => 123 | 22 => 124 | 23 => 125 | 24 => 126 | 25 => 127 | 26 => 128 | 27 => 129 | 46 => 144 | 47 => 145 | 48 => 146 | 49 => 147 | 50 => 148 | 57 => 155 | n => n, fun | 22 => 22 | 24 => 62 | 25 => 112 | 3 => 3 | 39 => 123 | 0 => 0 | 53 => 52 | 55 => 68 | 4 => 4 | 46 => 137 | 45 => 136 | 50 => 141 | 5 => 5 | 9 => 9 | 66 => 157 | 70 => 161 | 76 => 169 | 77 => 170 | n => n, fun | n => n⟩
theorem Tryz.laysF6 : Go.Proofs.SlLaysF0.n6 Tryz.prog Tryz.laysF6_ren := {
  mixed := by kernel_rfl
  f6 := ⟨Tryz.f92.name, by decide, Tryz.func92.trans (congrArg some (by kernel_rfl))⟩
  f14 := ⟨Tryz.f111.name, by decide, Tryz.func111.trans (congrArg some (by kernel_rfl))⟩
  f15 := Tryz.func112.trans (congrArg some (by kernel_rfl))
  f20 := ⟨Tryz.f122.name, by decide, Tryz.func122.trans (congrArg some (by kernel_rfl))⟩
  f21 := ⟨Tryz.f123.name, by decide, Tryz.func123.trans (congrArg some (by kernel_rfl))⟩
  f22 := ⟨Tryz.f124.name, by decide, Tryz.func124.trans (congrArg some (by kernel_rfl))⟩
  f23 := ⟨Tryz.f125.name, by decide, Tryz.func125.trans (congrArg some (by kernel_rfl))⟩
  f24 := ⟨Tryz.f126.name, by decide, Tryz.func126.trans (congrArg some (by kernel_rfl))⟩
  f25 := ⟨Tryz.f127.name, by decide, Tryz.func127.trans (congrArg some (by kernel_rfl))⟩
  f26 := ⟨Tryz.f128.name, by decide, Tryz.func128.trans (congrArg some (by kernel_rfl))⟩
  f27 := ⟨Tryz.f129.name, by decide, Tryz.func129.trans (congrArg some (by kernel_rfl))⟩
  f28 := Tryz.func130.trans (congrArg some (by kernel_rfl))
  f29 := Tryz.func131.trans (congrArg some (by kernel_rfl))
  f46 := ⟨Tryz.f144.name, by decide, Tryz.func144.trans (congrArg some (by kernel_rfl))⟩
  f47 := Tryz.func145.trans (congrArg some (by kernel_rfl))
  f48 := Tryz.func146.trans (congrArg some (by kernel_rfl))
  f49 := ⟨Tryz.f147.name, by decide, Tryz.func147.trans (congrArg some (by kernel_rfl))⟩
  f50 := ⟨Tryz.f148.name, by decide, Tryz.func148.trans (congrArg some (by kernel_rfl))⟩
  f57 := ⟨Tryz.f155.name, by decide, Tryz.func155.trans (congrArg some (by kernel_rfl))⟩
  t0 := Tryz.underlying0
  a0 := Tryz.isAgg0
  z0 := Tryz.sizeOf0
  v0 := Tryz.zeroValue0
  t3 := Tryz.underlying3
  a3 := Tryz.isAgg3
  z3 := Tryz.sizeOf3
  v3 := Tryz.zeroValue3
  t4 := Tryz.underlying4
  a4 := Tryz.isAgg4
  z4 := Tryz.sizeOf4
  v4 := Tryz.zeroValue4
  t5 := Tryz.underlying5
  a5 := Tryz.isAgg5
  z5 := Tryz.sizeOf5
  v5 := Tryz.zeroValue5
  t9 := Tryz.underlying9
  a9 := Tryz.isAgg9
  z9 := Tryz.sizeOf9
  v9 := Tryz.zeroValue9
  t22 := Tryz.underlying22
  a22 := Tryz.isAgg22
  z22 := Tryz.sizeOf22
  v22 := Tryz.zeroValue22
  t25 := Tryz.underlying112
  a25 := Tryz.isAgg112
  z25 := Tryz.sizeOf112
  v25 := Tryz.zeroValue112
  t39 := Tryz.underlying123
  a39 := Tryz.isAgg123
  z39 := Tryz.sizeOf123
  v39 := Tryz.zeroValue123
  t45 := Tryz.underlying136
  a45 := Tryz.isAgg136
  z45 := Tryz.sizeOf136
  v45 := Tryz.zeroValue136
  t46 := Tryz.underlying137
  a46 := Tryz.isAgg137
  z46 := Tryz.sizeOf137
  v46 := Tryz.zeroValue137
  t50 := Tryz.underlying141
  a50 := Tryz.isAgg141
  z50 := Tryz.sizeOf141
  v50 := Tryz.zeroValue141
  t53 := Tryz.underlying52
  a53 := Tryz.isAgg52
  z53 := Tryz.sizeOf52
  v53 := Tryz.zeroValue52
  t55 := Tryz.underlying68
  a55 := Tryz.isAgg68
  z55 := Tryz.sizeOf68
  v55 := Tryz.zeroValue68
  t66 := Tryz.underlying157
  a66 := Tryz.isAgg157
  z66 := Tryz.sizeOf157
  v66 := Tryz.zeroValue157
  t70 := Tryz.underlying161
  a70 := Tryz.isAgg161
  z70 := Tryz.sizeOf161
  v70 := Tryz.zeroValue161
  t76 := Tryz.underlying169
  a76 := Tryz.isAgg169
  z76 := Tryz.sizeOf169
  v76 := Tryz.zeroValue169
  t77 := Tryz.underlying170
  a77 := Tryz.isAgg170
  z77 := Tryz.sizeOf170
  v77 := Tryz.zeroValue170 }
def Tryz.laysR6_ren : Go.Shelf.Ren := ⟨fun | 6 => 101 | 15 => 112 | 14 => 116 | 28 => 130 | 29 => 131 | 20 => 132 | 21 => 133 | 22 => 134 | 23 => 135 | 24 => 136 | 25 => 137 | 26 => 138 | 27 => 139 | 46 => 149 | 47 => 145 | 48 => 146 | 49 => 150 | 50 => 151 | 57 => 156 | n => n, fun | 22 => 23 | 24 => 54 | 25 => 119 | 3 => 3 | 39 => 123 | 0 => 0 | 53 => 52 | 55 => 68 | 4 => 4 | 46 => 137 | 45 => 136 | 50 => 141 | 5 => 5 | 9 => 9 | 66 => 157 | 70 => 161 | 76 => 169 | 77 => 170 | n => n, fun | n => n⟩
theorem Tryz.laysR6 : Go.Proofs.SlLaysF0.n6 Tryz.prog Tryz.laysR6_ren := {
  mixed := by kernel_rfl
  f6 := ⟨Tryz.f101.name, by decide, Tryz.func101.trans (congrArg some (by kernel_rfl))⟩
  f14 := ⟨Tryz.f116.name, by decide, Tryz.func116.trans (congrArg some (by kernel_rfl))⟩
  f15 := Tryz.func112.trans (congrArg some (by kernel_rfl))
  f20 := ⟨Tryz.f132.name, by decide, Tryz.func132.trans (congrArg some (by kernel_rfl))⟩
  f21 := ⟨Tryz.f133.name, by decide, Tryz.func133.trans (congrArg some (by kernel_rfl))⟩
  f22 := ⟨Tryz.f134.name, by decide, Tryz.func134.trans (congrArg some (by kernel_rfl))⟩
  f23 := ⟨Tryz.f135.name, by decide, Tryz.func135.trans (congrArg some (by kernel_rfl))⟩
  f24 := ⟨Tryz.f136.name, by decide, Tryz.func136.trans (congrArg some (by kernel_rfl))⟩
  f25 := ⟨Tryz.f137.name, by decide, Tryz.func137.trans (congrArg some (by kernel_rfl))⟩
  f26 := ⟨Tryz.f138.name, by decide, Tryz.func138.trans (congrArg some (by kernel_rfl))⟩
  f27 := ⟨Tryz.f139.name, by decide, Tryz.func139.trans (congrArg some (by kernel_rfl))⟩
  f28 := Tryz.func130.trans (congrArg some (by kernel_rfl))
  f29 := Tryz.func131.trans (congrArg some (by kernel_rfl))
  f46 := ⟨Tryz.f149.name, by decide, Tryz.func149.trans (congrArg some (by kernel_rfl))⟩
  f47 := Tryz.func145.trans (congrArg some (by kernel_rfl))
  f48 := Tryz.func146.trans (congrArg some (by kernel_rfl))
  f49 := ⟨Tryz.f150.name, by decide, Tryz.func150.trans (congrArg some (by kernel_rfl))⟩
  f50 := ⟨Tryz.f151.name, by decide, Tryz.func151.trans (congrArg some (by kernel_rfl))⟩
  f57 := ⟨Tryz.f156.name, by decide, Tryz.func156.trans (congrArg some (by kernel_rfl))⟩
  t0 := Tryz.underlying0
  a0 := Tryz.isAgg0
  z0 := Tryz.sizeOf0
  v0 := Tryz.zeroValue0
  t3 := Tryz.underlying3
  a3 := Tryz.isAgg3
  z3 := Tryz.sizeOf3
  v3 := Tryz.zeroValue3
  t4 := Tryz.underlying4
  a4 := Tryz.isAgg4
  z4 := Tryz.sizeOf4
  v4 := Tryz.zeroValue4
  t5 := Tryz.underlying5
  a5 := Tryz.isAgg5
  z5 := Tryz.sizeOf5
  v5 := Tryz.zeroValue5
  t9 := Tryz.underlying9
  a9 := Tryz.isAgg9
  z9 := Tryz.sizeOf9
  v9 := Tryz.zeroValue9
  t22 := Tryz.underlying23
  a22 := Tryz.isAgg23
  z22 := Tryz.sizeOf23
  v22 := Tryz.zeroValue23
  t25 := Tryz.underlying119
  a25 := Tryz.isAgg119
  z25 := Tryz.sizeOf119
  v25 := Tryz.zeroValue119
  t39 := Tryz.underlying123
  a39 := Tryz.isAgg123
  z39 := Tryz.sizeOf123
  v39 := Tryz.zeroValue123
  t45 := Tryz.underlying136
  a45 := Tryz.isAgg136
  z45 := Tryz.sizeOf136
  v45 := Tryz.zeroValue136
  t46 := Tryz.underlying137
  a46 := Tryz.isAgg137
  z46 := Tryz.sizeOf137
  v46 := Tryz.zeroValue137
  t50 := Tryz.underlying141
  a50 := Tryz.isAgg141
  z50 := Tryz.sizeOf141
  v50 := Tryz.zeroValue141
  t53 := Tryz.underlying52
  a53 := Tryz.isAgg52
  z53 := Tryz.sizeOf52
  v53 := Tryz.zeroValue52
  t55 := Tryz.underlying68
  a55 := Tryz.isAgg68
  z55 := Tryz.sizeOf68
  v55 := Tryz.zeroValue68
  t66 := Tryz.underlying157
  a66 := Tryz.isAgg157
  z66 := Tryz.sizeOf157
  v66 := Tryz.zeroValue157
  t70 := Tryz.underlying161
  a70 := Tryz.isAgg161
  z70 := Tryz.sizeOf161
  v70 := Tryz.zeroValue161
  t76 := Tryz.underlying169
  a76 := Tryz.isAgg169
  z76 := Tryz.sizeOf169
  v76 := Tryz.zeroValue169
  t77 := Tryz.underlying170
  a77 := Tryz.isAgg170
  z77 := Tryz.sizeOf170
  v77 := Tryz.zeroValue170 }
end Go.Proofs
namespace Go.Proofs.YtlmndmfebgaidaaGreatDoor
open Go.RowKit
set_option linter.unusedVariables false
def keyS (s : SpanZ) : Nat := (if s.v then 2 ^ 128 else 0) + aN s.lo
theorem cmpS_less {s t : SpanZ} (hs : SixS s) (ht : SixS t) : cmpS s t < 0 ↔ keyS s < keyS t := by
  have a1 := aN_lt16 hs.1
  have a2 := aN_lt16 ht.1
  unfold cmpS keyS
  obtain ⟨h1, h2⟩ := cmp_way s.v s.lo (mostZ s.v) t.v t.lo (mostZ t.v)
  by_cases e : s.v = t.v
  · obtain ⟨h3, h4⟩ := h2 e
    rw [← e] at h3 h4 ⊢
    by_cases e0 : cmpN (aN s.lo) (aN t.lo) = 0
    · have := (h4 e0).2.2 (by omega) (by omega)
      rw [this]
      unfold cmpN at e0
      split at e0
      · omega
      · split at e0 <;> omega
    · rw [h3 e0]
      unfold cmpN at e0 ⊢
      split
      · omega
      · split <;> omega
  · rw [h1 e]
    cases hv : s.v <;> cases hu : t.v
    · rw [hv, hu] at e
      exact absurd rfl e
    · simp only [if_true, Bool.false_eq_true, if_false]
      omega
    · simp only [if_true, Bool.false_eq_true, if_false]
      omega
    · rw [hv, hu] at e
      exact absurd rfl e
theorem less6 (x y : Sp6) : ltOf (fun x y : Sp6 => cmpS x.1 y.1) x y = decide (keyS x.1 < keyS y.1) := by
  unfold ltOf
  rw [Bool.eq_iff_iff, decide_eq_true_iff, decide_eq_true_iff]
  exact cmpS_less x.2 y.2
theorem swo6 : Sort.SWO (ltOf (fun x y : Sp6 => cmpS x.1 y.1)) where
  irrefl x := by rw [less6]; simp
  trans x y z h1 h2 := by rw [less6] at *; simp at *; omega
  ntrans x y z h1 h2 := by rw [less6] at *; simp at *; omega
theorem lays6 (blk off size : Nat) (w : World) : CmpLays Tryz.prog 93 #[] enc6 33 (fun x y : Sp6 => cmpS x.1 y.1) blk off size w :=
  fun _ _ _ _ x y => (sless_any x.1 y.1 _ x.2 y.2).mono (fun _ _ h => ⟨h.1, h.2.grow⟩)
def RiseS (L : List SpanZ) : Prop := L.Pairwise (fun a b => keyS a ≤ keyS b)
theorem rise_of {d : Array Sp6} (h : Sort.SortedIn (ltOf (fun x y : Sp6 => cmpS x.1 y.1)) 0 d.size d) : RiseS (bare6 d) := by
  unfold RiseS
  rw [List.pairwise_iff_getElem]
  intro i j hi hj hij
  rw [bare6_len] at hi hj
  have := h i j (Nat.zero_le _) hij hj
  rw [less6] at this
  rw [bare6_at d i hi, bare6_at d j hj]
  have := of_decide_eq_false this
  omega
theorem perm_of {d d' : Array Sp6} (h : Sort.PermIn 0 d.size d d') : (bare6 d').Perm (bare6 d) := by
  have hp := h.2.2
  have e1 : d.extract 0 d.size = d := by simp
  have e2 : d'.extract 0 d.size = d' := by rw [← h.1]; simp
  rw [e1, e2] at hp
  exact hp.map _
set_option maxHeartbeats 1000000 in
theorem sort_any (W0 w : World) (V : Value) (L : List SpanZ) (ho : SpOut W0 w V L) (hl : L.length ≤ 90000) :
    Calls Tryz.prog 92 #[V, .func (.func 93) #[] #[]] w fun e w' => e = .returned (.tuple #[]) ∧ ∃ L', L'.Perm L ∧ RiseS L' ∧ SpOut W0 w' V L' := by
  rcases ho.form with ⟨rfl, rfl⟩ | ⟨g, cap, rfl, hg0, hg1, hcap⟩
  · have hcon := AnyF.slices_SortFunc_none { Tryz.laysF6 with } none 0 (.func (.func 93) #[] #[]) w
    refine Calls.mono hcon ?_
    rintro e w' ⟨he, rfl⟩
    exact ⟨he, [], List.Perm.refl _, List.Pairwise.nil, ho⟩
  · have hd := bare_with L ho.2.2
    have hsz := with6_size L ho.2.2
    generalize with6 L ho.2.2 = d at hd hsz
    subst hd
    rw [bare6_len] at hl
    have eg : ∀ args w, (callFunc 93 args).run Tryz.prog w = .ok (.enter 93 args) w := enters_of Tryz.func93 (by kernel_rfl) rfl
    have aE : ∀ w, (isAgg 62).run Tryz.prog w = .ok true w := fun w => by simp [isAgg, run_underlying Tryz.underlying62]
    have zE : ∀ w, (Go.sizeOf 62).run Tryz.prog w = .ok 33 w := fun w => by kernel_rfl
    have hcon := AnyQ.slices_SortFunc Tryz.laysF6 33 aE zE enc6 enc6_len enc6_one (fun x y : Sp6 => cmpS x.1 y.1) swo6 93 #[] g 0 cap d w eg (lays6 g 0 d.size w) (ho.holds (bare6_len d)) hg1 (by omega)
    rw [← bare6_len d] at hcon
    refine Calls.mono hcon ?_
    rintro e w' ⟨he, d', n, os, hp, hs, rfl⟩
    rw [bare6_len] at hp hs
    refine ⟨he, bare6 d', perm_of hp, rise_of (by rw [hp.1]; exact hs), ho.sorted (bare6_len d) hp.1⟩
def GivesSorted (L : List SpanZ) (w : World) (e : Ending) (w' : World) : Prop := ∃ V L', e = .returned V ∧ SpOut w w' V L' ∧ L'.Perm (L.filter rightS) ∧ RiseS L'
set_option maxHeartbeats 1000000 in
set_option maxRecDepth 100000 in
theorem sorted_any (a : Option Addr) (n c : Nat) (L : List SpanZ) (w : World) (hr : SpRow w a n L) (hA : a = none → n = 0 ∧ c = 0) (hn : n ≤ 90000) :
    Calls Tryz.prog 65 #[.slice a n c] w (GivesSorted L w) := by
  have C1 := Lib.hid (cloneS_any a n c L w hr hA hn)
  have hL : L.length ≤ 90000 := by rw [hr.1]; exact hn
  have hF : (L.filter rightS).length ≤ 90000 := Nat.le_trans (List.length_filter_le _ _) hL
  have C2 : Hid (∀ V W, Hid (SpOut w W V L) → Calls Tryz.prog 89 #[V, .func (.func 90) #[] #[]] W (GivesIn w (L.filter rightS))) := Lib.hid (fun V W h => delete_any w W V L h.out hL)
  have C3 : Hid (∀ V W, Hid (SpOut w W V (L.filter rightS)) → Calls Tryz.prog 92 #[V, .func (.func 93) #[] #[]] W fun e w' => e = .returned (.tuple #[]) ∧ ∃ L', L'.Perm (L.filter rightS) ∧ RiseS L' ∧ SpOut w w' V L') := Lib.hid (fun V W h => sort_any w W V _ h.out hF)
  clear hr hA hL hF
  go_enter Tryz.func65, Tryz.ntmps65
  go_wp2_with (first
    | (refine C1.out.mono ?_; rintro r w1 ⟨V1, rfl, ho1⟩; have O1 := Lib.hid ho1; clear ho1 C1)
    | (refine (C2.out _ _ O1).mono ?_; rintro r w2 ⟨V2, rfl, ho2⟩; have O2 := Lib.hid ho2; clear ho2 C2 O1)
    | (refine (C3.out _ _ O2).mono ?_; rintro r w3 ⟨rfl, L3, hp3, hs3, ho3⟩; have O3 := Lib.hid ho3; have P3 := Lib.hid hp3; have S3 := Lib.hid hs3; clear ho3 hp3 hs3 C3 O2))
  go_ret
  exact ⟨_, _, rfl, O3.out, P3.out, S3.out⟩
end Go.Proofs.YtlmndmfebgaidaaGreatDoor
namespace Go.Proofs.YtlmndmfebgaidaaGreatDoor
set_option linter.unusedVariables false
theorem key_line {s t : SpanZ} (hs : SpanOk s) (ht : SpanOk t) (h : keyS s ≤ keyS t) : (lineS s).1 ≤ (lineS t).1 := by
  have a1 := aN_lt16 hs.1
  have a2 := aN_lt16 ht.1
  have p1 := ok_parts hs
  have p2 := ok_parts ht
  have p : (2 : Nat) ^ 32 < 2 ^ 40 := by decide
  unfold keyS at h
  show lineZ s.v s.lo ≤ lineZ t.v t.lo
  cases hv : s.v <;> cases hu : t.v <;> rw [hv, hu] at h
  · simp only [Bool.false_eq_true, if_false] at h
    exact (line_le (v := false) (fun _ => p1.1 hv) (fun _ => p2.1 hu)).2 (by omega)
  · have := line_four hs.1
    have e := line_six t.lo
    omega
  · simp only [Bool.false_eq_true, if_false, if_true] at h
    omega
  · have e1 := line_six s.lo
    have e2 := line_six t.lo
    simp only [if_true] at h
    omega
theorem meets_touch {c q : SpanZ} (hc : SpanOk c) (hq : SpanOk q) (hk : keyS c ≤ keyS q) : meetsZ c q = touchS c q := by
  have a1 := aN_lt16 hc.2.1
  have a2 := aN_lt16 hq.1
  have a3 := aN_lt16 hc.1
  have pc := ok_parts hc
  have pq := ok_parts hq
  obtain ⟨h1, h2⟩ := cmp_way q.v q.lo (mostZ q.v) c.v c.hi (mostZ c.v)
  unfold meetsZ touchS
  by_cases e : c.v = q.v
  · have ce := cmp_ends c.v q.lo c.hi
    rw [← e, ce]
    simp only [BEq.rfl, Bool.true_and]
    rw [Bool.eq_iff_iff, Bool.or_eq_true, decide_eq_true_iff, decide_eq_true_iff, decide_eq_true_iff]
    have ne : aN (nextA c.v c.hi) = (aN c.hi + unitZ c.v) % 2 ^ 128 := aN_by16 (Nat.mod_lt _ (by decide))
    constructor
    · rintro (h | ⟨_, h, _⟩)
      · omega
      · rw [h, ne]
        exact Nat.mod_le _ _
    · intro h
      by_cases hl : aN q.lo ≤ aN c.hi
      · exact .inl hl
      · refine .inr ⟨trivial, ?_, trivial⟩
        have e2 : aN q.lo = aN c.hi + unitZ c.v := by
          unfold unitZ at h ⊢
          cases hv : c.v with
          | true =>
            rw [hv] at h
            simp only [if_true] at h ⊢
            omega
          | false =>
            rw [hv] at h
            simp only [Bool.false_eq_true, if_false] at h ⊢
            have k1 := pc.2.1 hv
            have k2 := pq.1 (by rw [← e]; exact hv)
            omega
        have : nextA c.v c.hi = q.lo := next_done hq.1 e2
        exact this.symm
  · have hv : c.v = false ∧ q.v = true := by
      unfold keyS at hk
      cases hv : c.v <;> cases hu : q.v <;> rw [hv, hu] at hk e
      · exact absurd rfl e
      · exact ⟨rfl, rfl⟩
      · simp only [Bool.false_eq_true, if_false, if_true] at hk
        omega
      · exact absurd rfl e
    rw [h1 (fun k => e k.symm), hv.1, hv.2]
    simp
theorem wide_cmp {c q : SpanZ} (e : c.v = q.v) : decide (cmpA q.v q.hi (mostZ q.v) c.v c.hi (mostZ c.v) ≤ 0) = decide (aN q.hi ≤ aN c.hi) := by
  rw [← e]
  exact cmp_ends c.v q.hi c.hi
theorem touch_fam {c q : SpanZ} (h : touchS c q = true) : c.v = q.v := by
  unfold touchS at h
  rw [Bool.and_eq_true] at h
  simpa using h.1
def joinAll : List SpanZ → List SpanZ
  | [] => []
  | c :: r => mergeS c r
theorem rise_sort : ∀ {S : List SpanZ}, (∀ s ∈ S, SpanOk s) → RiseS S → SortZ (S.map lineS)
  | [], _, _ => trivial
  | s :: r, h, hr => by
    have hp := List.pairwise_cons.1 hr
    refine ⟨fun q hq => ?_, rise_sort (fun x hx => h x (List.mem_cons_of_mem _ hx)) hp.2⟩
    obtain ⟨t, ht, rfl⟩ := List.mem_map.1 hq
    exact key_line (h s List.mem_cons_self) (h t (List.mem_cons_of_mem _ ht)) (hp.1 t ht)
theorem join_all {L S : List SpanZ} (hL : SpansZ L) (hp : S.Perm (L.filter rightS)) (hr : RiseS S) : joinAll S = joinS L := by
  have hS : ∀ s ∈ S, SpanOk s := fun s hs => by
    obtain ⟨h1, h2⟩ := List.mem_filter.1 (hp.mem_iff.1 hs)
    exact ⟨(hL s h1).1, (hL s h1).2, h2⟩
  have hin : ∀ x, InZ x (S.map lineS) ↔ InZ x (onL L) := fun x => by
    constructor
    · rintro ⟨p, h, h'⟩
      obtain ⟨s, hs, rfl⟩ := List.mem_map.1 h
      exact ⟨_, List.mem_map.2 ⟨s, hp.mem_iff.1 hs, rfl⟩, h'⟩
    · rintro ⟨p, h, h'⟩
      obtain ⟨s, hs, rfl⟩ := List.mem_map.1 h
      exact ⟨_, List.mem_map.2 ⟨s, hp.mem_iff.2 hs, rfl⟩, h'⟩
  have hs := rise_sort hS hr
  cases S with
  | nil => exact join_unique hL (fun s h => absurd h (by simp [joinAll])) trivial hin
  | cons c r =>
    obtain ⟨m1, m2⟩ := merge_line hs hS
    have hv : ∀ q ∈ lineS c :: r.map lineS, q.1 ≤ q.2 := fun q hq => by
      obtain ⟨s, h, rfl⟩ := List.mem_map.1 (show q ∈ (c :: r).map lineS from hq)
      exact ok_line (hS s h)
    refine join_unique hL m2 ?_ (fun x => ?_)
    · show NormZ (onL (mergeS c r))
      rw [onL_ok m2, m1]
      exact norm_merge hs hv
    · show InZ x (onL (mergeS c r)) ↔ _
      rw [onL_ok m2, m1, in_merge hs hv]
      exact hin x
def JoinAt (S : List SpanZ) (k : Nat) (J : List SpanZ) : Prop :=
  (J = [] ∧ k = 0) ∨ ∃ D c, J = D ++ [c] ∧ SpanOk c ∧ (∀ s ∈ S.drop k, keyS c ≤ keyS s) ∧ joinAll S = D ++ mergeS c (S.drop k)
theorem rise_drop {S : List SpanZ} (h : RiseS S) {k : Nat} (hk : k < S.length) : ∀ s ∈ S.drop (k + 1), keyS S[k] ≤ keyS s := by
  have e : S.drop k = S[k] :: S.drop (k + 1) := List.drop_eq_getElem_cons hk
  have h2 : (S.drop k).Pairwise (fun a b => keyS a ≤ keyS b) := h.sublist (List.drop_sublist _ _)
  rw [e] at h2
  exact (List.pairwise_cons.1 h2).1
theorem join_first {S : List SpanZ} (hS : ∀ s ∈ S, SpanOk s) (hR : RiseS S) (hk : 0 < S.length) : JoinAt S 1 [S[0]] := by
  refine .inr ⟨[], S[0], rfl, hS _ (List.getElem_mem hk), rise_drop hR hk, ?_⟩
  match S, hk with
  | c :: r, _ => rfl
theorem join_empty {S : List SpanZ} {k : Nat} (h : JoinAt S k []) : k = 0 := by
  rcases h with ⟨_, h⟩ | ⟨D, c, h, _⟩
  · exact h
  · exact absurd h (by simp)
theorem join_step {S : List SpanZ} (hS : ∀ s ∈ S, SpanOk s) (hR : RiseS S) {k : Nat} {J : List SpanZ} (h : JoinAt S k J) (hk : k < S.length) {e : Nat} (hJ : J.length = e + 1) :
    (meetsZ (J[e]'(by omega)) S[k] = false → JoinAt S (k + 1) (J ++ [S[k]])) ∧
    (meetsZ (J[e]'(by omega)) S[k] = true → ¬ cmpA (S[k]).v (S[k]).hi (mostZ (S[k]).v) (J[e]'(by omega)).v (J[e]'(by omega)).hi (mostZ (J[e]'(by omega)).v) ≤ 0 → JoinAt S (k + 1) (J.set e ⟨(J[e]'(by omega)).v, (J[e]'(by omega)).lo, (S[k]).hi⟩)) ∧
    (meetsZ (J[e]'(by omega)) S[k] = true → cmpA (S[k]).v (S[k]).hi (mostZ (S[k]).v) (J[e]'(by omega)).v (J[e]'(by omega)).hi (mostZ (J[e]'(by omega)).v) ≤ 0 → JoinAt S (k + 1) J) := by
  rcases h with ⟨rfl, _⟩ | ⟨D, c, rfl, hc, hge, hj⟩
  · exact absurd hJ (by simp)
  have hD : D.length = e := by simpa using hJ
  subst hD
  have hs := hS _ (List.getElem_mem hk)
  have ed : S.drop k = S[k] :: S.drop (k + 1) := List.drop_eq_getElem_cons hk
  have hk1 := hge S[k] (by rw [ed]; exact List.mem_cons_self)
  have ec : (D ++ [c])[D.length]'(by simp) = c := by simp
  rw [ec, meets_touch hc hs hk1]
  rw [ed] at hj
  have hge' : ∀ s ∈ S.drop (k + 1), keyS c ≤ keyS s := fun s hs => hge s (by rw [ed]; exact List.mem_cons_of_mem _ hs)
  refine ⟨fun h => ?_, fun h h2 => ?_, fun h h2 => ?_⟩
  · refine .inr ⟨D ++ [c], S[k], rfl, hs, rise_drop hR hk, ?_⟩
    rw [hj]
    show D ++ mergeS c (S[k] :: S.drop (k + 1)) = _
    rw [mergeS, if_neg (by rw [h]; simp)]
    simp
  · have hw := wide_cmp (touch_fam h)
    have hlt : aN c.hi < aN (S[k]).hi := by
      have : ¬ aN (S[k]).hi ≤ aN c.hi := fun h3 => h2 (of_decide_eq_true (by rw [hw]; exact decide_eq_true h3))
      omega
    have ew : wideS c S[k] = ⟨c.v, c.lo, (S[k]).hi⟩ := by unfold wideS; rw [if_pos hlt]
    refine .inr ⟨D, ⟨c.v, c.lo, (S[k]).hi⟩, ?_, ?_, fun s hs' => ?_, ?_⟩
    · rw [List.set_append_right _ _ (Nat.le_refl _)]
      simp
    · rw [← ew]
      exact (wide_line hc hs (touch_fam h)).2
    · exact hge' s hs'
    · rw [hj]
      show D ++ mergeS c (S[k] :: S.drop (k + 1)) = _
      rw [mergeS, if_pos h, ew]
  · have hw := wide_cmp (touch_fam h)
    have hle : ¬ aN c.hi < aN (S[k]).hi := by
      have : aN (S[k]).hi ≤ aN c.hi := of_decide_eq_true (by rw [← hw]; exact decide_eq_true h2)
      omega
    have ew : wideS c S[k] = c := by unfold wideS; rw [if_neg hle]
    refine .inr ⟨D, c, rfl, hc, hge', ?_⟩
    rw [hj]
    show D ++ mergeS c (S[k] :: S.drop (k + 1)) = _
    rw [mergeS, if_pos h, ew]
theorem join_end {S J : List SpanZ} (h : JoinAt S S.length J) : J = joinAll S := by
  rcases h with ⟨rfl, h⟩ | ⟨D, c, rfl, _, _, hj⟩
  · rw [List.eq_nil_of_length_eq_zero h]
    rfl
  · rw [hj, List.drop_length]
    rfl
end Go.Proofs.YtlmndmfebgaidaaGreatDoor
namespace Go.Proofs.YtlmndmfebgaidaaGreatDoor
set_option linter.unusedVariables false
def meetZ (p q : Nat × Nat) : List (Nat × Nat) := if max p.1 q.1 ≤ min p.2 q.2 then [(max p.1 q.1, min p.2 q.2)] else []
def isectZ : Nat → List (Nat × Nat) → List (Nat × Nat) → List (Nat × Nat)
  | f + 1, p :: a, q :: b => meetZ p q ++ if p.2 ≤ q.2 then isectZ f a (q :: b) else isectZ f (p :: a) b
  | _, _, _ => []
theorem mem_meet {p q x : Nat × Nat} (h : x ∈ meetZ p q) : x.1 = max p.1 q.1 ∧ x.2 = min p.2 q.2 ∧ x.1 ≤ x.2 := by
  unfold meetZ at h
  split at h
  · rw [List.mem_singleton.1 h]
    exact ⟨rfl, rfl, by assumption⟩
  · cases h
theorem mem_isect : ∀ (f : Nat) {a b : List (Nat × Nat)} {x : Nat × Nat}, x ∈ isectZ f a b → x.1 ≤ x.2 ∧ (∃ p ∈ a, p.1 ≤ x.1) ∧ (∃ q ∈ b, q.1 ≤ x.1)
  | 0, a, b, x, h => by unfold isectZ at h; cases h
  | f + 1, [], b, x, h => by unfold isectZ at h; cases h
  | f + 1, p :: a, [], x, h => by unfold isectZ at h; cases h
  | f + 1, p :: a, q :: b, x, h => by
    unfold isectZ at h
    rcases List.mem_append.1 h with h | h
    · obtain ⟨h1, h2, h3⟩ := mem_meet h
      exact ⟨h3, ⟨p, List.mem_cons_self, by omega⟩, q, List.mem_cons_self, by omega⟩
    · split at h
      · obtain ⟨h1, ⟨p', hp, h2⟩, h3⟩ := mem_isect f h
        exact ⟨h1, ⟨p', List.mem_cons_of_mem _ hp, h2⟩, h3⟩
      · obtain ⟨h1, h2, q', hq, h3⟩ := mem_isect f h
        exact ⟨h1, h2, q', List.mem_cons_of_mem _ hq, h3⟩
theorem norm_app {l m : List (Nat × Nat)} (hl : l = [] ∨ ∃ e, l = [e] ∧ e.1 ≤ e.2 ∧ ∀ x ∈ m, e.2 + 1 < x.1) (hm : NormZ m) : NormZ (l ++ m) := by
  rcases hl with rfl | ⟨e, rfl, h1, h2⟩
  · exact hm
  · exact ⟨h1, h2, hm⟩
theorem norm_isect : ∀ (f : Nat) {a b : List (Nat × Nat)}, NormZ a → NormZ b → NormZ (isectZ f a b)
  | 0, a, b, _, _ => by unfold isectZ; trivial
  | f + 1, [], b, _, _ => by unfold isectZ; trivial
  | f + 1, p :: a, [], _, _ => by unfold isectZ; trivial
  | f + 1, p :: a, q :: b, ha, hb => by
    unfold isectZ
    by_cases k : p.2 ≤ q.2
    · rw [if_pos k]
      refine norm_app ?_ (norm_isect f ha.2.2 hb)
      unfold meetZ
      split
      · refine .inr ⟨_, rfl, by assumption, fun x hx => ?_⟩
        obtain ⟨_, ⟨p', hp, h2⟩, _⟩ := mem_isect f hx
        have := ha.2.1 p' hp
        show min p.2 q.2 + 1 < x.1
        omega
      · exact .inl rfl
    · rw [if_neg k]
      refine norm_app ?_ (norm_isect f ha hb.2.2)
      unfold meetZ
      split
      · refine .inr ⟨_, rfl, by assumption, fun x hx => ?_⟩
        obtain ⟨_, _, q', hq, h3⟩ := mem_isect f hx
        have := hb.2.1 q' hq
        show min p.2 q.2 + 1 < x.1
        omega
      · exact .inl rfl
theorem in_app {x : Nat} {l m : List (Nat × Nat)} : InZ x (l ++ m) ↔ InZ x l ∨ InZ x m := by
  unfold InZ
  constructor
  · rintro ⟨p, hp, h⟩
    rcases List.mem_append.1 hp with hp | hp
    · exact .inl ⟨p, hp, h⟩
    · exact .inr ⟨p, hp, h⟩
  · rintro (⟨p, hp, h⟩ | ⟨p, hp, h⟩)
    · exact ⟨p, List.mem_append_left _ hp, h⟩
    · exact ⟨p, List.mem_append_right _ hp, h⟩
theorem in_meet {x : Nat} {p q : Nat × Nat} : InZ x (meetZ p q) ↔ (p.1 ≤ x ∧ x ≤ p.2) ∧ q.1 ≤ x ∧ x ≤ q.2 := by
  unfold meetZ
  split
  · rw [inZ_cons]
    constructor
    · rintro (h | h)
      · have h1 : max p.1 q.1 ≤ x := h.1
        have h2 : x ≤ min p.2 q.2 := h.2
        omega
      · exact absurd h inZ_nil
    · intro h
      refine .inl ⟨?_, ?_⟩
      · show max p.1 q.1 ≤ x
        omega
      · show x ≤ min p.2 q.2
        omega
  · constructor
    · intro h
      exact absurd h inZ_nil
    · intro h
      omega
theorem in_isect {x : Nat} : ∀ (f : Nat) {a b : List (Nat × Nat)}, NormZ a → NormZ b → a.length + b.length ≤ f → (InZ x (isectZ f a b) ↔ InZ x a ∧ InZ x b)
  | 0, a, b, _, _, h => by
    obtain rfl : a = [] := List.eq_nil_of_length_eq_zero (by omega)
    unfold isectZ
    exact ⟨fun h => absurd h inZ_nil, fun h => h.1⟩
  | f + 1, [], b, _, _, _ => by
    unfold isectZ
    exact ⟨fun h => absurd h inZ_nil, fun h => h.1⟩
  | f + 1, p :: a, [], _, _, _ => by
    unfold isectZ
    exact ⟨fun h => absurd h inZ_nil, fun h => h.2⟩
  | f + 1, p :: a, q :: b, ha, hb, hl => by
    simp only [List.length_cons] at hl
    unfold isectZ
    rw [in_app, in_meet, inZ_cons, inZ_cons]
    by_cases k : p.2 ≤ q.2
    · rw [if_pos k, in_isect f ha.2.2 hb (by simp only [List.length_cons]; omega), inZ_cons]
      constructor
      · rintro (h | h)
        · exact ⟨.inl h.1, .inl h.2⟩
        · exact ⟨.inr h.1, h.2⟩
      · rintro ⟨h1 | h1, h2⟩
        · rcases h2 with h2 | h2
          · exact .inl ⟨h1, h2⟩
          · have := norm_behind hb h2
            omega
        · exact .inr ⟨h1, h2⟩
    · rw [if_neg k, in_isect f ha hb.2.2 (by simp only [List.length_cons]; omega), inZ_cons]
      constructor
      · rintro (h | h)
        · exact ⟨.inl h.1, .inl h.2⟩
        · exact ⟨h.1, .inr h.2⟩
      · rintro ⟨h1, h2 | h2⟩
        · rcases h1 with h1 | h1
          · exact .inl ⟨h1, h2⟩
          · have := norm_behind ha h1
            omega
        · exact .inr ⟨h1, h2⟩
theorem cmp_line {v u : Bool} {A B : List Int} (hA : Sixteen A) (hB : Sixteen B) (kA : v = false → aN A % 2 ^ 96 = 0) (kB : u = false → aN B % 2 ^ 96 = 0) : cmpA v A (mostZ v) u B (mostZ u) ≤ 0 ↔ lineZ v A ≤ lineZ u B := by
  have p : (2 : Nat) ^ 32 < 2 ^ 40 := by decide
  obtain ⟨h1, h2⟩ := cmp_way v A (mostZ v) u B (mostZ u)
  by_cases e : v = u
  · subst e
    have h := cmp_ends v A B
    rw [line_le kA kB]
    constructor
    · intro k
      exact of_decide_eq_true (by rw [← h]; exact decide_eq_true k)
    · intro k
      exact of_decide_eq_true (by rw [h]; exact decide_eq_true k)
  · rw [h1 e]
    cases v <;> cases u
    · exact absurd rfl e
    · have := line_four hA
      have := line_six B
      simp only [if_true]
      constructor
      · intro _
        omega
      · intro _
        omega
    · have := line_four hB
      have := line_six A
      simp only [Bool.false_eq_true, if_false]
      constructor
      · intro h
        omega
      · intro h
        omega
    · exact absurd rfl e
theorem cmp_lineN {v u : Bool} {A B : List Int} (hA : Sixteen A) (hB : Sixteen B) (kA : v = false → aN A % 2 ^ 96 = 0) (kB : u = false → aN B % 2 ^ 96 = 0) : cmpA v A (mostZ v) u B (mostZ u) < 0 ↔ lineZ v A < lineZ u B := by
  have h := cmp_line hB hA kB kA
  rw [cmp_turned] at h
  omega
structure EndZ where
  v : Bool
  a : List Int
def loE (s : SpanZ) : EndZ := ⟨s.v, s.lo⟩
def hiE (s : SpanZ) : EndZ := ⟨s.v, s.hi⟩
def cmpE (x y : EndZ) : Int := cmpA x.v x.a (mostZ x.v) y.v y.a (mostZ y.v)
def lineE (x : EndZ) : Nat := lineZ x.v x.a
def EndOk (x : EndZ) : Prop := Sixteen x.a ∧ (x.v = false → aN x.a % 2 ^ 96 = 0)
theorem lo_ok {s : SpanZ} (h : SpanOk s) : EndOk (loE s) := ⟨h.1, (ok_parts h).1⟩
theorem hi_ok {s : SpanZ} (h : SpanOk s) : EndOk (hiE s) := ⟨h.2.1, (ok_parts h).2.1⟩
theorem cmpE_le {x y : EndZ} (hx : EndOk x) (hy : EndOk y) : cmpE x y ≤ 0 ↔ lineE x ≤ lineE y := cmp_line hx.1 hy.1 hx.2 hy.2
theorem cmpE_lt {x y : EndZ} (hx : EndOk x) (hy : EndOk y) : cmpE x y < 0 ↔ lineE x < lineE y := cmp_lineN hx.1 hy.1 hx.2 hy.2
theorem lineE_inj {x y : EndZ} (hx : EndOk x) (hy : EndOk y) (e : lineE x = lineE y) : x = y := by
  obtain ⟨v, A⟩ := x
  obtain ⟨u, B⟩ := y
  obtain ⟨h1, h2⟩ := line_inj hx.1 hy.1 hx.2 hy.2 e
  cases h1
  cases h2
  rfl
def maxE (x y : EndZ) : EndZ := if 0 < cmpE y x then y else x
def minE (x y : EndZ) : EndZ := if cmpE y x < 0 then y else x
theorem max_ok {x y : EndZ} (hx : EndOk x) (hy : EndOk y) : EndOk (maxE x y) ∧ lineE (maxE x y) = max (lineE x) (lineE y) := by
  have h := cmpE_le hy hx
  unfold maxE
  split
  · exact ⟨hy, by omega⟩
  · exact ⟨hx, by omega⟩
theorem min_ok {x y : EndZ} (hx : EndOk x) (hy : EndOk y) : EndOk (minE x y) ∧ lineE (minE x y) = min (lineE x) (lineE y) := by
  have h := cmpE_lt hy hx
  unfold minE
  split
  · exact ⟨hy, by omega⟩
  · exact ⟨hx, by omega⟩
def fromE (p q : SpanZ) : EndZ := maxE (loE p) (loE q)
def toE (p q : SpanZ) : EndZ := minE (hiE p) (hiE q)
def meetS (p q : SpanZ) : List SpanZ := if cmpE (fromE p q) (toE p q) ≤ 0 then [⟨(fromE p q).v, (fromE p q).a, (toE p q).a⟩] else []
def sameE (x y : EndZ) : Bool := decide (x.v = y.v ∧ x.a = y.a)
theorem sameE_is {x y : EndZ} : sameE x y = true ↔ x = y := by
  obtain ⟨v, A⟩ := x
  obtain ⟨u, B⟩ := y
  unfold sameE
  simp
def isectS : Nat → List SpanZ → List SpanZ → List SpanZ
  | f + 1, p :: a, q :: b => meetS p q ++ if sameE (toE p q) (hiE p) = true then isectS f a (q :: b) else isectS f (p :: a) b
  | _, _, _ => []
theorem to_line {p q : SpanZ} (hp : SpanOk p) (hq : SpanOk q) : sameE (toE p q) (hiE p) = true ↔ (lineS p).2 ≤ (lineS q).2 := by
  rw [sameE_is]
  obtain ⟨h1, h2⟩ := min_ok (hi_ok hp) (hi_ok hq)
  have e1 : lineE (hiE p) = (lineS p).2 := rfl
  have e2 : lineE (hiE q) = (lineS q).2 := rfl
  rw [e1, e2] at h2
  constructor
  · intro h
    have : lineE (toE p q) = lineE (hiE p) := by rw [h]
    have k : lineE (toE p q) = min (lineS p).2 (lineS q).2 := h2
    omega
  · intro h
    refine lineE_inj h1 (hi_ok hp) ?_
    have k : lineE (toE p q) = min (lineS p).2 (lineS q).2 := h2
    show lineE (toE p q) = (lineS p).2
    omega
theorem meet_line {p q : SpanZ} (hp : SpanOk p) (hq : SpanOk q) : (meetS p q).map lineS = meetZ (lineS p) (lineS q) ∧ ∀ s ∈ meetS p q, SpanOk s := by
  obtain ⟨f1, f2⟩ := max_ok (lo_ok hp) (lo_ok hq)
  obtain ⟨t1, t2⟩ := min_ok (hi_ok hp) (hi_ok hq)
  have c := cmpE_le f1 t1
  have f3 : lineE (fromE p q) = max (lineS p).1 (lineS q).1 := f2
  have t3 : lineE (toE p q) = min (lineS p).2 (lineS q).2 := t2
  have c2 : cmpE (fromE p q) (toE p q) ≤ 0 ↔ max (lineS p).1 (lineS q).1 ≤ min (lineS p).2 (lineS q).2 := by rw [← f3, ← t3]; exact c
  have pl : (lineS p).1 ≤ (lineS p).2 := (line_le (ok_parts hp).1 (ok_parts hp).2.1).2 (ok_parts hp).2.2
  unfold meetS meetZ
  by_cases k : cmpE (fromE p q) (toE p q) ≤ 0
  · have k2 := c2.1 k
    rw [if_pos k, if_pos k2]
    -- one family
    have ev : (fromE p q).v = (toE p q).v := by
      by_cases e : (fromE p q).v = (toE p q).v
      · exact e
      · exfalso
        have p3 : (2 : Nat) ^ 32 < 2 ^ 40 := by decide
        have pv : lineE (loE p) ≤ lineE (fromE p q) := by rw [f3]; show (lineS p).1 ≤ _; omega
        have qv : lineE (loE q) ≤ lineE (fromE p q) := by rw [f3]; show (lineS q).1 ≤ _; omega
        have tp : lineE (toE p q) ≤ lineE (hiE p) := by rw [t3]; show _ ≤ (lineS p).2; omega
        have tq : lineE (toE p q) ≤ lineE (hiE q) := by rw [t3]; show _ ≤ (lineS q).2; omega
        have ft : lineE (fromE p q) ≤ lineE (toE p q) := by rw [f3, t3]; exact k2
        have four : ∀ {x : EndZ}, EndOk x → x.v = false → lineE x < 2 ^ 32 := fun {x} hx hv => by
          unfold lineE
          rw [hv]
          exact line_four hx.1
        have six : ∀ {x : EndZ}, x.v = true → 2 ^ 40 ≤ lineE x := fun {x} hv => by
          unfold lineE
          rw [hv, line_six]
          omega
        cases h1 : (fromE p q).v <;> cases h2 : (toE p q).v
        · exact e (h1.trans h2.symm)
        · -- from is of IPv4, to of IPv6: then both ends of p and q that begin at or below from are IPv4
          have hf := four f1 h1
          have ht := six h2
          have lp : p.v = false := by
            cases hv : p.v with
            | false => rfl
            | true => have := six (x := loE p) hv; omega
          have h6 : lineE (hiE p) < 2 ^ 32 := four (hi_ok hp) lp
          omega
        · have hf := six h1
          have ht := four t1 h2
          omega
        · exact e (h1.trans h2.symm)
    refine ⟨?_, fun s hs => ?_⟩
    · rw [List.map_cons, List.map_nil]
      show [(lineZ (fromE p q).v (fromE p q).a, lineZ (fromE p q).v (toE p q).a)] = _
      have g1 : lineZ (fromE p q).v (fromE p q).a = lineE (fromE p q) := rfl
      have g2 : lineZ (fromE p q).v (toE p q).a = lineE (toE p q) := by rw [ev]; rfl
      rw [g1, g2, f3, t3]
    · rw [List.mem_singleton.1 hs]
      refine ⟨f1.1, t1.1, ?_⟩
      show rightZ (fromE p q).v (fromE p q).a (toE p q).a = true
      have kT : (fromE p q).v = false → aN (toE p q).a % 2 ^ 96 = 0 := fun h => t1.2 (ev ▸ h)
      have ll : lineZ (fromE p q).v (fromE p q).a ≤ lineZ (fromE p q).v (toE p q).a := by
        have g2 : lineZ (fromE p q).v (toE p q).a = lineE (toE p q) := by rw [ev]; rfl
        rw [g2]
        show lineE (fromE p q) ≤ _
        rw [f3, t3]
        exact k2
      have kF : (fromE p q).v = false → aN (fromE p q).a % 2 ^ 96 = 0 := f1.2
      have le : aN (fromE p q).a ≤ aN (toE p q).a := (line_le kF kT).1 ll
      unfold rightZ
      cases hv : (fromE p q).v with
      | true => simp [le]
      | false => simp [le, kF hv, kT hv]
  · rw [if_neg k, if_neg (fun h => k (c2.2 h))]
    exact ⟨rfl, fun s hs => by cases hs⟩
theorem isect_line : ∀ (f : Nat) {a b : List SpanZ}, (∀ s ∈ a, SpanOk s) → (∀ s ∈ b, SpanOk s) → (isectS f a b).map lineS = isectZ f (a.map lineS) (b.map lineS) ∧ ∀ s ∈ isectS f a b, SpanOk s
  | 0, a, b, _, _ => by
    unfold isectS isectZ
    exact ⟨rfl, fun s hs => by cases hs⟩
  | f + 1, [], b, _, _ => by
    unfold isectS isectZ
    exact ⟨rfl, fun s hs => by cases hs⟩
  | f + 1, p :: a, [], _, _ => by
    unfold isectS isectZ
    exact ⟨rfl, fun s hs => by cases hs⟩
  | f + 1, p :: a, q :: b, ha, hb => by
    have hp := ha p List.mem_cons_self
    have hq := hb q List.mem_cons_self
    obtain ⟨m1, m2⟩ := meet_line hp hq
    have tl := to_line hp hq
    have i1 := isect_line f (a := a) (b := q :: b) (fun s hs => ha s (List.mem_cons_of_mem _ hs)) hb
    have i2 := isect_line f (a := p :: a) (b := b) ha (fun s hs => hb s (List.mem_cons_of_mem _ hs))
    unfold isectS
    rw [List.map_cons, List.map_cons]
    unfold isectZ
    rw [List.map_append, m1]
    by_cases k : (lineS p).2 ≤ (lineS q).2
    · rw [if_pos k, if_pos (tl.2 k), i1.1]
      refine ⟨rfl, fun s hs => ?_⟩
      rcases List.mem_append.1 hs with hs | hs
      · exact m2 s hs
      · exact i1.2 s hs
    · rw [if_neg k, if_neg (fun h => k (tl.1 h)), i2.1]
      refine ⟨rfl, fun s hs => ?_⟩
      rcases List.mem_append.1 hs with hs | hs
      · exact m2 s hs
      · exact i2.2 s hs
theorem both_isect {a b : List SpanZ} (ha : SpansZ a) (hb : SpansZ b) (f : Nat) (hf : (joinS a).length + (joinS b).length ≤ f) : isectS f (joinS a) (joinS b) = bothS a b := by
  have oa := join_ok ha
  have ob := join_ok hb
  have na := join_norm' ha
  have nb := join_norm' hb
  obtain ⟨h1, h2⟩ := isect_line f oa ob
  rw [onL_ok oa] at na
  rw [onL_ok ob] at nb
  have e : onL (isectS f (joinS a) (joinS b)) = isectZ f ((joinS a).map lineS) ((joinS b).map lineS) := by rw [onL_ok h2, h1]
  refine norm_same h2 (both_ok ha hb) ?_ ?_ (fun x => ?_)
  · rw [e]
    exact norm_isect f na nb
  · exact join_norm' (pair_spans ha hb)
  · rw [e, in_isect f na nb (by rw [List.length_map, List.length_map]; exact hf), in_bothS ha hb, ← onL_ok oa, ← onL_ok ob, in_joinS ha, in_joinS hb]
end Go.Proofs.YtlmndmfebgaidaaGreatDoor
namespace Go.Proofs.YtlmndmfebgaidaaGreatDoor
open Go.RowKit
set_option linter.unusedVariables false
def endP (x : EndZ) : PfZ := ⟨x.v, x.a, mostZ x.v⟩
theorem ecmp_any (x y : EndZ) (w : World) (hx : Sixteen x.a) (hy : Sixteen y.a) : Calls Tryz.prog 67 #[.agg (qcells (endP x)), .agg (qcells (endP y))] w fun e w' => e = .returned (.int .i64 (cmpE x y)) ∧ Below w.heap.size w w' :=
  (pcmp_any x.v x.a (mostZ x.v) y.v y.a (mostZ y.v) w hx hy).mono (fun _ _ h => ⟨h.1, h.2.1⟩)
theorem pf_range {W : World} {g : Nat} {L : List PfZ} {n : Nat} (h : PfRow W (some ⟨g, 0, none⟩) n L) (j : Nat) (hj : j < L.length) {p : PfZ} (e : L[j] = p) : W.rangeAt g (j * 18) (qcL p) := by
  subst e
  have := h.range j hj
  rwa [Nat.zero_add] at this
theorem pf_setRow {W : World} {g m n : Nat} {L : List PfZ} (h : PfRow W (some ⟨g, 0, none⟩) n L) (hg : g ≠ m) (cs : Array Value) : PfRow (W.setRow m cs) (some ⟨g, 0, none⟩) n L := by
  refine ⟨h.1, h.2.1, fun hn => ?_⟩
  obtain ⟨b, off, e, hb, hc⟩ := h.2.2 hn
  injection e with e
  injection e with e1 e2
  subst e1 e2
  refine ⟨g, 0, rfl, by simpa [World.setRow] using hb, fun i hi => ?_⟩
  rw [← hc i hi]
  exact World.cell?_of_block (a := ⟨g, 0 + i, none⟩) (setRow_other W m g cs hg)
set_option maxHeartbeats 400000 in
set_option maxRecDepth 100000 in
theorem max_any (x y : EndZ) (g : Nat) (w : World) (hx : Sixteen x.a) (hy : Sixteen y.a) (hr : PfRow w (some ⟨g, 0, none⟩) 2 [endP x, endP y]) :
    Calls Tryz.prog 104 #[.slice (some ⟨g, 0, none⟩) 2 2, .func (.func 67) #[] #[]] w fun e w' => e = .returned (.agg (qcells (endP (maxE x y)))) ∧ Below w.heap.size w w' := by
  have x6 : SixQ (endP x) := hx
  have y6 : SixQ (endP y) := hy
  have r6 : SixQ (endP (maxE x y)) := by
    unfold maxE
    split
    · exact hy
    · exact hx
  have ME : (0 < cmpE y x) → endP (maxE x y) = endP y := fun h => by
    unfold maxE
    rw [if_pos h]
  have MN : ¬ (0 < cmpE y x) → endP (maxE x y) = endP x := fun h => by
    unfold maxE
    rw [if_neg h]
  have CC := Lib.hid (fun W => ecmp_any y x W hy hx)
  have SX : Hid ((Tryz.prog.info? 43).map (·.size) = some (qcells (endP x)).size) := Lib.hid (Tryz.sizeP x6.1)
  have SY : Hid ((Tryz.prog.info? 43).map (·.size) = some (qcells (endP y)).size) := Lib.hid (Tryz.sizeP y6.1)
  have SR : Hid ((Tryz.prog.info? 43).map (·.size) = some (qcells (endP (maxE x y))).size) := Lib.hid (Tryz.sizeP r6.1)
  have LX : Hid ((Tryz.prog.info? 43).map (·.size) = some (qcL (endP x)).length) := Lib.hid (by rw [qcells_len x6, SX.out, qcells_size x6])
  have LY : Hid ((Tryz.prog.info? 43).map (·.size) = some (qcL (endP y)).length) := Lib.hid (by rw [qcells_len y6, SY.out, qcells_size y6])
  have ZX : Hid (ZP.size = (qcells (endP x)).size) := Lib.hid (by rw [qcells_size x6]; rfl)
  have ZR : Hid (ZP.size = (qcells (endP (maxE x y))).size) := Lib.hid (by rw [qcells_size r6]; rfl)
  have XY : Hid ((qcells (endP x)).size = (qcells (endP y)).size) := Lib.hid (by rw [qcells_size x6, qcells_size y6])
  have PX := Lib.hid (qcells_one (endP x))
  have PY := Lib.hid (qcells_one (endP y))
  have PR := Lib.hid (qcells_one (endP (maxE x y)))
  have EX : Hid ((qcL (endP x)).toArray = qcells (endP x)) := Lib.hid rfl
  have EY : Hid ((qcL (endP y)).toArray = qcells (endP y)) := Lib.hid rfl
  obtain ⟨n, hn⟩ : ∃ n, w.heap.size = n := ⟨_, rfl⟩
  have ZB : Hid (Blk ((w.alloc (.cells ZP 43)).alloc (.cells (qcells (endP x)) 43)) n 43 ZP) := Lib.hid (by rw [← hn]; exact (Blk.new _ _ _).alloc _)
  have XB : Hid (Blk ((w.alloc (.cells ZP 43)).alloc (.cells (qcells (endP x)) 43)) (n + 1) 43 (qcells (endP x))) := Lib.hid (by
    have := Blk.new (w.alloc (.cells ZP 43)) 43 (qcells (endP x))
    rwa [World.size_alloc, hn] at this)
  have AZ : Hid (Blk ((w.alloc (.cells ZP 43)).alloc (.cells ZP 43)) (w.alloc (.cells ZP 43)).heap.size 43 ZP) := Lib.hid (Blk.new _ _ _)
  have bw := Below.step (box_below w (.cells ZP 43)) (box_below _ (.cells (qcells (endP x)) 43))
  have BW : Hid (Below n w ((w.alloc (.cells ZP 43)).alloc (.cells (qcells (endP x)) 43))) := Lib.hid (by rw [← hn]; exact bw)
  have RA := Lib.hid (pf_range (hr.below (box_below w (.cells ZP 43))) 0 (by simp) (p := endP x) rfl)
  have RW := Lib.hid (hr.below bw)
  have GL : Hid (g < n) := Lib.hid (by
    obtain ⟨b, off, e, hb⟩ := hr.form (by omega)
    injection e with e
    injection e with e1 e2
    subst e1
    rw [← hn]
    exact hb)
  clear bw hr x6 y6 r6
  generalize hQX : qcells (endP x) = QX at *
  generalize hQY : qcells (endP y) = QY at *
  generalize hQR : qcells (endP (maxE x y)) = QR at *
  have HR1 : Hid ((0 < cmpE y x) → QR = QY) := Lib.hid (fun h => by rw [← hQR, ME h]; exact hQY)
  have HR2 : Hid (¬ (0 < cmpE y x) → QR = QX) := Lib.hid (fun h => by rw [← hQR, MN h]; exact hQX)
  clear ME MN hQX hQY hQR
  go_enter Tryz.func104, Tryz.ntmps104
  go_wp2_with (first
    | (refine Great.wpList_allocTo rfl (some 4) rfl (.pointer (some ⟨w.heap.size, 0, none⟩)) (.cells ZP 43) (alloc_prefix_run rfl) ?_)
    | (refine wpList_load_mid rfl 43 (.tmp 12) rfl g 0 rfl (qcL (endP x)) _ RA.out Tryz.underlying43 rfl LX.out ?_; rw [EX.out])
    | (refine Great.wpList_allocTo rfl (some 5) rfl (.pointer (some ⟨(w.alloc (.cells ZP 43)).heap.size, 0, none⟩)) (.cells ZP 43) (alloc_prefix_run rfl) ?_)
    | (refine wpList_store_rowTo rfl 43 (.tmp 5) (.tmp 13) rfl rfl (w.alloc (.cells ZP 43)).heap.size QX rfl rfl 43 ZP AZ.out SX.out ZX.out PX.out ?_; rw [alloc_setRow]))
  clear AZ RA
  generalize (w.alloc (.cells ZP 43)).alloc (.cells QX 43) = W1 at *
  go_loopw [6] (fun iV wr => ∃ k : Nat, iV = .int .i64 (k : Int) ∧ ((k = 1 ∧ Blk wr (n + 1) 43 QX) ∨ (k = 2 ∧ Blk wr (n + 1) 43 QR)) ∧ Blk wr n 43 ZP ∧ PfRow wr (some ⟨g, 0, none⟩) 2 [endP x, endP y] ∧ Below n w wr) (fun iV _ => (5 - intOf iV).toNat)
  case atStart => exact ⟨1, rfl, .inl ⟨rfl, XB.out⟩, ZB.out, RW.out, BW.out⟩
  case round =>
    obtain ⟨k, rfl, hk, hz, hrw, hbw⟩ := hrel
    have Z5 := Lib.hid hz
    have R5 := Lib.hid hrw
    have B5 := Lib.hid hbw
    clear hz hrw hbw ZB XB RW BW
    rcases hk with ⟨rfl, hb⟩ | ⟨rfl, hb⟩
    · have X5 := Lib.hid hb
      clear hb
      go_upto_region 7 with (fail)
      have X6 : Hid (Blk wr.drew (n + 1) 43 QX) := X5
      have Z6 : Hid (Blk wr.drew n 43 ZP) := Z5
      have R6 : Hid (PfRow wr.drew (some ⟨g, 0, none⟩) 2 [endP x, endP y]) := Lib.hid (R5.out.below (drewN_below wr 1))
      have B6 : Hid (Below n w wr.drew) := Lib.hid B5.out.drew
      have N6 : Hid (n + 1 < wr.drew.heap.size) := Lib.hid X5.out.lt
      clear X5 Z5 R5 B5
      refine wp_region_ord Ext Ext.refl (fun _ _ _ => Ext.trans) ((0, false) :: (1, false) :: (2, false) :: (3, false) :: (4, false) :: (5, false) :: (6, true) :: (7, false) :: []) (by kernel_rfl) (by kernel_rfl) rfl (by kernel_rfl) (fun _ _ _ _ _ h => h) ?_
      generalize wr.drew = w6 at *
      repeat (first
        | (refine ord_skip rfl (by rfl) ?_; simp only [Act.put, List.setIfInBounds_toArray, List.set_cons_zero, List.set_cons_succ])
        | (refine ord_take _ rfl (by rfl) (fun W hW => yields_row 43 (.tmp 5) rfl (n + 1) 43 QX _ rfl (Blk.below X6.out hW X6.out.lt) Tryz.underlying43 rfl SX.out) ?_; simp only [Act.put, List.setIfInBounds_toArray, List.set_cons_zero, List.set_cons_succ])
        | (refine ord_take (.agg QY) rfl (by rfl) (fun W hW => by rw [← EY.out]; exact yields_part 43 (.tmp 23) rfl g 18 (qcL (endP y)) _ rfl (pf_range (R6.out.below hW) 1 (by simp) rfl) Tryz.underlying43 rfl LY.out) ?_; simp only [Act.put, List.setIfInBounds_toArray, List.set_cons_zero, List.set_cons_succ])
        | (refine ord_take _ rfl (by rfl) (fun W hW => by go_simp; first | done | rfl) ?_; simp only [Act.put, List.setIfInBounds_toArray, List.set_cons_zero, List.set_cons_succ])
        | (refine ord_sole rfl (by rfl) (fun K1 hK1 => ?_)
           go_simp
           first
             | refine (CC.out _).mono ?_
           rintro r w5 ⟨rfl, hb5⟩
           refine hK1 _ _ hb5 ?_
           clear hK1 K1
           replace B6 := Lib.hid (B6.out.trans (hb5.mono (by have := N6.out; omega)))
           replace X6 := Lib.hid (X6.out.below hb5 X6.out.lt)
           replace Z6 := Lib.hid (Z6.out.below hb5 Z6.out.lt)
           replace R6 := Lib.hid (R6.out.below hb5)
           clear hb5))
      refine ord_end ?_
      have RB := Lib.hid (pf_range R6.out 1 (by simp) (p := endP y) rfl)
      by_cases hc : 0 < cmpE y x
      · have tc : decide (0 < cmpE y x) = true := decide_eq_true hc
        have e2 := HR1.out hc
        go_wp2_with (first
          | (refine wpList_load_mid rfl 43 (.tmp 30) rfl g 18 rfl (qcL (endP y)) _ RB.out Tryz.underlying43 rfl LY.out ?_; rw [EY.out])
          | (refine wpList_store_rowTo rfl 43 (.tmp 5) (.tmp 31) rfl rfl (n + 1) QY rfl rfl 43 QX X6.out SY.out XY.out PY.out ?_))
        go_roundw
        case rel =>
          refine ⟨2, by go_num, .inr ⟨rfl, ?_⟩, (setRow_other _ _ _ _ (by omega)).trans Z6.out, ?_, below_setRow B6.out (by omega) QY⟩
          · rw [e2]
            exact setRow_heap _ _ _ _ 43 _ X6.out
          · exact pf_setRow R6.out (by have := GL.out; omega) QY
        case measure => simp only [intOf]; omega
      · have tc : decide (0 < cmpE y x) = false := decide_eq_false hc
        have e2 := HR2.out (by omega)
        go_wp2_with fail
        go_roundw
        case rel => exact ⟨2, by go_num, .inr ⟨rfl, by rw [e2]; exact X6.out⟩, Z6.out, R6.out, B6.out⟩
        case measure => simp only [intOf]; omega
    · have X5 := Lib.hid hb
      clear hb
      go_wp2_with (first
        | (refine wpList_load_row rfl 43 (.tmp 5) rfl (n + 1) rfl 43 QR (0, 0) _ X5.out Tryz.underlying43 rfl SR.out ?_)
        | (refine wpList_store_rowTo rfl 43 (.tmp 4) (.tmp 32) rfl rfl n QR rfl rfl 43 ZP Z5.out SR.out ZR.out PR.out ?_))
      exact bodyPost_ret (results_cell_row rfl _ _ n 43 QR (0, 0) _ rfl (setRow_heap _ _ _ _ 43 _ Z5.out) Tryz.underlying43 rfl SR.out) rfl ⟨rfl, by rw [hn]; exact below_setRow B5.out (by omega) QR⟩
set_option maxHeartbeats 400000 in
set_option maxRecDepth 100000 in
theorem min_any (x y : EndZ) (g : Nat) (w : World) (hx : Sixteen x.a) (hy : Sixteen y.a) (hr : PfRow w (some ⟨g, 0, none⟩) 2 [endP x, endP y]) :
    Calls Tryz.prog 105 #[.slice (some ⟨g, 0, none⟩) 2 2, .func (.func 67) #[] #[]] w fun e w' => e = .returned (.agg (qcells (endP (minE x y)))) ∧ Below w.heap.size w w' := by
  have x6 : SixQ (endP x) := hx
  have y6 : SixQ (endP y) := hy
  have r6 : SixQ (endP (minE x y)) := by
    unfold minE
    split
    · exact hy
    · exact hx
  have ME : (cmpE y x < 0) → endP (minE x y) = endP y := fun h => by
    unfold minE
    rw [if_pos h]
  have MN : ¬ (cmpE y x < 0) → endP (minE x y) = endP x := fun h => by
    unfold minE
    rw [if_neg h]
  have CC := Lib.hid (fun W => ecmp_any y x W hy hx)
  have SX : Hid ((Tryz.prog.info? 43).map (·.size) = some (qcells (endP x)).size) := Lib.hid (Tryz.sizeP x6.1)
  have SY : Hid ((Tryz.prog.info? 43).map (·.size) = some (qcells (endP y)).size) := Lib.hid (Tryz.sizeP y6.1)
  have SR : Hid ((Tryz.prog.info? 43).map (·.size) = some (qcells (endP (minE x y))).size) := Lib.hid (Tryz.sizeP r6.1)
  have LX : Hid ((Tryz.prog.info? 43).map (·.size) = some (qcL (endP x)).length) := Lib.hid (by rw [qcells_len x6, SX.out, qcells_size x6])
  have LY : Hid ((Tryz.prog.info? 43).map (·.size) = some (qcL (endP y)).length) := Lib.hid (by rw [qcells_len y6, SY.out, qcells_size y6])
  have ZX : Hid (ZP.size = (qcells (endP x)).size) := Lib.hid (by rw [qcells_size x6]; rfl)
  have ZR : Hid (ZP.size = (qcells (endP (minE x y))).size) := Lib.hid (by rw [qcells_size r6]; rfl)
  have XY : Hid ((qcells (endP x)).size = (qcells (endP y)).size) := Lib.hid (by rw [qcells_size x6, qcells_size y6])
  have PX := Lib.hid (qcells_one (endP x))
  have PY := Lib.hid (qcells_one (endP y))
  have PR := Lib.hid (qcells_one (endP (minE x y)))
  have EX : Hid ((qcL (endP x)).toArray = qcells (endP x)) := Lib.hid rfl
  have EY : Hid ((qcL (endP y)).toArray = qcells (endP y)) := Lib.hid rfl
  obtain ⟨n, hn⟩ : ∃ n, w.heap.size = n := ⟨_, rfl⟩
  have ZB : Hid (Blk ((w.alloc (.cells ZP 43)).alloc (.cells (qcells (endP x)) 43)) n 43 ZP) := Lib.hid (by rw [← hn]; exact (Blk.new _ _ _).alloc _)
  have XB : Hid (Blk ((w.alloc (.cells ZP 43)).alloc (.cells (qcells (endP x)) 43)) (n + 1) 43 (qcells (endP x))) := Lib.hid (by
    have := Blk.new (w.alloc (.cells ZP 43)) 43 (qcells (endP x))
    rwa [World.size_alloc, hn] at this)
  have AZ : Hid (Blk ((w.alloc (.cells ZP 43)).alloc (.cells ZP 43)) (w.alloc (.cells ZP 43)).heap.size 43 ZP) := Lib.hid (Blk.new _ _ _)
  have bw := Below.step (box_below w (.cells ZP 43)) (box_below _ (.cells (qcells (endP x)) 43))
  have BW : Hid (Below n w ((w.alloc (.cells ZP 43)).alloc (.cells (qcells (endP x)) 43))) := Lib.hid (by rw [← hn]; exact bw)
  have RA := Lib.hid (pf_range (hr.below (box_below w (.cells ZP 43))) 0 (by simp) (p := endP x) rfl)
  have RW := Lib.hid (hr.below bw)
  have GL : Hid (g < n) := Lib.hid (by
    obtain ⟨b, off, e, hb⟩ := hr.form (by omega)
    injection e with e
    injection e with e1 e2
    subst e1
    rw [← hn]
    exact hb)
  clear bw hr x6 y6 r6
  generalize hQX : qcells (endP x) = QX at *
  generalize hQY : qcells (endP y) = QY at *
  generalize hQR : qcells (endP (minE x y)) = QR at *
  have HR1 : Hid ((cmpE y x < 0) → QR = QY) := Lib.hid (fun h => by rw [← hQR, ME h]; exact hQY)
  have HR2 : Hid (¬ (cmpE y x < 0) → QR = QX) := Lib.hid (fun h => by rw [← hQR, MN h]; exact hQX)
  clear ME MN hQX hQY hQR
  go_enter Tryz.func105, Tryz.ntmps105
  go_wp2_with (first
    | (refine Great.wpList_allocTo rfl (some 4) rfl (.pointer (some ⟨w.heap.size, 0, none⟩)) (.cells ZP 43) (alloc_prefix_run rfl) ?_)
    | (refine wpList_load_mid rfl 43 (.tmp 12) rfl g 0 rfl (qcL (endP x)) _ RA.out Tryz.underlying43 rfl LX.out ?_; rw [EX.out])
    | (refine Great.wpList_allocTo rfl (some 5) rfl (.pointer (some ⟨(w.alloc (.cells ZP 43)).heap.size, 0, none⟩)) (.cells ZP 43) (alloc_prefix_run rfl) ?_)
    | (refine wpList_store_rowTo rfl 43 (.tmp 5) (.tmp 13) rfl rfl (w.alloc (.cells ZP 43)).heap.size QX rfl rfl 43 ZP AZ.out SX.out ZX.out PX.out ?_; rw [alloc_setRow]))
  clear AZ RA
  generalize (w.alloc (.cells ZP 43)).alloc (.cells QX 43) = W1 at *
  go_loopw [6] (fun iV wr => ∃ k : Nat, iV = .int .i64 (k : Int) ∧ ((k = 1 ∧ Blk wr (n + 1) 43 QX) ∨ (k = 2 ∧ Blk wr (n + 1) 43 QR)) ∧ Blk wr n 43 ZP ∧ PfRow wr (some ⟨g, 0, none⟩) 2 [endP x, endP y] ∧ Below n w wr) (fun iV _ => (5 - intOf iV).toNat)
  case atStart => exact ⟨1, rfl, .inl ⟨rfl, XB.out⟩, ZB.out, RW.out, BW.out⟩
  case round =>
    obtain ⟨k, rfl, hk, hz, hrw, hbw⟩ := hrel
    have Z5 := Lib.hid hz
    have R5 := Lib.hid hrw
    have B5 := Lib.hid hbw
    clear hz hrw hbw ZB XB RW BW
    rcases hk with ⟨rfl, hb⟩ | ⟨rfl, hb⟩
    · have X5 := Lib.hid hb
      clear hb
      go_upto_region 7 with (fail)
      have X6 : Hid (Blk wr.drew (n + 1) 43 QX) := X5
      have Z6 : Hid (Blk wr.drew n 43 ZP) := Z5
      have R6 : Hid (PfRow wr.drew (some ⟨g, 0, none⟩) 2 [endP x, endP y]) := Lib.hid (R5.out.below (drewN_below wr 1))
      have B6 : Hid (Below n w wr.drew) := Lib.hid B5.out.drew
      have N6 : Hid (n + 1 < wr.drew.heap.size) := Lib.hid X5.out.lt
      clear X5 Z5 R5 B5
      refine wp_region_ord Ext Ext.refl (fun _ _ _ => Ext.trans) ((0, false) :: (1, false) :: (2, false) :: (3, false) :: (4, false) :: (5, false) :: (6, true) :: (7, false) :: []) (by kernel_rfl) (by kernel_rfl) rfl (by kernel_rfl) (fun _ _ _ _ _ h => h) ?_
      generalize wr.drew = w6 at *
      repeat (first
        | (refine ord_skip rfl (by rfl) ?_; simp only [Act.put, List.setIfInBounds_toArray, List.set_cons_zero, List.set_cons_succ])
        | (refine ord_take _ rfl (by rfl) (fun W hW => yields_row 43 (.tmp 5) rfl (n + 1) 43 QX _ rfl (Blk.below X6.out hW X6.out.lt) Tryz.underlying43 rfl SX.out) ?_; simp only [Act.put, List.setIfInBounds_toArray, List.set_cons_zero, List.set_cons_succ])
        | (refine ord_take (.agg QY) rfl (by rfl) (fun W hW => by rw [← EY.out]; exact yields_part 43 (.tmp 23) rfl g 18 (qcL (endP y)) _ rfl (pf_range (R6.out.below hW) 1 (by simp) rfl) Tryz.underlying43 rfl LY.out) ?_; simp only [Act.put, List.setIfInBounds_toArray, List.set_cons_zero, List.set_cons_succ])
        | (refine ord_take _ rfl (by rfl) (fun W hW => by go_simp; first | done | rfl) ?_; simp only [Act.put, List.setIfInBounds_toArray, List.set_cons_zero, List.set_cons_succ])
        | (refine ord_sole rfl (by rfl) (fun K1 hK1 => ?_)
           go_simp
           first
             | refine (CC.out _).mono ?_
           rintro r w5 ⟨rfl, hb5⟩
           refine hK1 _ _ hb5 ?_
           clear hK1 K1
           replace B6 := Lib.hid (B6.out.trans (hb5.mono (by have := N6.out; omega)))
           replace X6 := Lib.hid (X6.out.below hb5 X6.out.lt)
           replace Z6 := Lib.hid (Z6.out.below hb5 Z6.out.lt)
           replace R6 := Lib.hid (R6.out.below hb5)
           clear hb5))
      refine ord_end ?_
      have RB := Lib.hid (pf_range R6.out 1 (by simp) (p := endP y) rfl)
      by_cases hc : cmpE y x < 0
      · have tc : decide (cmpE y x < 0) = true := decide_eq_true hc
        have e2 := HR1.out hc
        go_wp2_with (first
          | (refine wpList_load_mid rfl 43 (.tmp 30) rfl g 18 rfl (qcL (endP y)) _ RB.out Tryz.underlying43 rfl LY.out ?_; rw [EY.out])
          | (refine wpList_store_rowTo rfl 43 (.tmp 5) (.tmp 31) rfl rfl (n + 1) QY rfl rfl 43 QX X6.out SY.out XY.out PY.out ?_))
        go_roundw
        case rel =>
          refine ⟨2, by go_num, .inr ⟨rfl, ?_⟩, (setRow_other _ _ _ _ (by omega)).trans Z6.out, ?_, below_setRow B6.out (by omega) QY⟩
          · rw [e2]
            exact setRow_heap _ _ _ _ 43 _ X6.out
          · exact pf_setRow R6.out (by have := GL.out; omega) QY
        case measure => simp only [intOf]; omega
      · have tc : decide (cmpE y x < 0) = false := decide_eq_false hc
        have e2 := HR2.out (by omega)
        go_wp2_with fail
        go_roundw
        case rel => exact ⟨2, by go_num, .inr ⟨rfl, by rw [e2]; exact X6.out⟩, Z6.out, R6.out, B6.out⟩
        case measure => simp only [intOf]; omega
    · have X5 := Lib.hid hb
      clear hb
      go_wp2_with (first
        | (refine wpList_load_row rfl 43 (.tmp 5) rfl (n + 1) rfl 43 QR (0, 0) _ X5.out Tryz.underlying43 rfl SR.out ?_)
        | (refine wpList_store_rowTo rfl 43 (.tmp 4) (.tmp 32) rfl rfl n QR rfl rfl 43 ZP Z5.out SR.out ZR.out PR.out ?_))
      exact bodyPost_ret (results_cell_row rfl _ _ n 43 QR (0, 0) _ rfl (setRow_heap _ _ _ _ 43 _ Z5.out) Tryz.underlying43 rfl SR.out) rfl ⟨rfl, by rw [hn]; exact below_setRow B5.out (by omega) QR⟩
end Go.Proofs.YtlmndmfebgaidaaGreatDoor
