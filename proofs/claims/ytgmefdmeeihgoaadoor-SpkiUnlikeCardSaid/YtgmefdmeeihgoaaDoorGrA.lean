/-
  Merged texts: Math, Out, Ord, Row, Open, Blk, Tree, TreeP, Sc1, Weigh, SameT, Num.
-/
import Derived.WalkKit
import Derived.WalkSpells
import Derived.Deep.Draws
import Derived.Laws.BytesArg
import Derived.Deep.QuietTactic
import Derived.Test.YtgmefdmeeihgoaaDoorRows
import Derived.WalkLawsBesides
import Derived.Lib.Hide
import Derived.Laws.AppendOwn
import Derived.Laws.OwnMore
import Derived.OwnWalk
import Derived.Laws.MakeOwn
import Derived.Laws.AppendOwnNone
import Derived.OrdersHeld
import Derived.KernelRfl
import Derived.OpenShut
import Derived.ProofKit
import Derived.BigQuiet
import Derived.Maps.AppendAt
import Derived.Laws.ResultCell
import Derived.Deep.LoopGhost
import Derived.Lib.Strings
import Derived.Laws.BitsLemmas
namespace Go.Proofs.YtgmefdmeeihgoaaDoor
open Go.RowKit

/-- A slice value with n elements reads as the numbers zs, each a byte; where there is an element, it lies in a block of this world. -/
def Row (w : World) (a : Option Addr) (n : Nat) (zs : List Int) : Prop :=
  zs.length = n ∧ (∀ x ∈ zs, 0 ≤ x ∧ x ≤ 255) ∧
  (0 < n → ∃ b off, a = some ⟨b, off, none⟩ ∧ b < w.heap.size ∧ ∀ i, i < n → w.cell? ⟨b, off + i, none⟩ = some (.int .u8 (zs[i]?.getD 0)))

theorem Row.below {w w' : World} {a : Option Addr} {n : Nat} {zs : List Int} (h : Row w a n zs) (hb : Below w.heap.size w w') : Row w' a n zs := by
  refine ⟨h.1, h.2.1, fun hn => ?_⟩
  obtain ⟨b, off, e, hlt, hc⟩ := h.2.2 hn
  exact ⟨b, off, e, Nat.lt_of_lt_of_le hlt hb.size, fun i hi => (hb.cell (p := ⟨b, off + i, none⟩) hlt).trans (hc i hi)⟩

theorem Row.drewN {w : World} {a : Option Addr} {n : Nat} {zs : List Int} (h : Row w a n zs) (k : Nat) : Row (w.drewN k) a n zs := h

theorem Row.nil (w : World) (a : Option Addr) : Row w a 0 [] := ⟨rfl, by simp, fun h => absurd h (by omega)⟩

theorem Row.byte {w : World} {a : Option Addr} {n : Nat} {zs : List Int} (h : Row w a n zs) (k : Nat) : 0 ≤ zs[k]?.getD 0 ∧ zs[k]?.getD 0 ≤ 255 := by
  rcases Nat.lt_or_ge k zs.length with hk | hk
  · rw [List.getElem?_eq_getElem hk]
    exact h.2.1 _ (List.getElem_mem hk)
  · rw [List.getElem?_eq_none hk]
    simp

/-- string(b) of such a slice. -/
theorem Row.conv {P : Program} {w : World} {a : Option Addr} {n cap : Nat} {zs : List Int} (h : Row w a n zs) (src dst e : TypeId)
    (hs : P.underlying src = some (.slice e)) (he : P.underlying e = some (.int .u8)) (hd : P.underlying dst = some .string) :
    (convert src dst (.slice a n cap)).run P w = .ok (.string (strOfNums zs)) w := by
  rcases Nat.eq_zero_or_pos n with hn | hn
  · subst hn
    have hz : zs = [] := List.eq_nil_of_length_eq_zero h.1
    subst hz
    cases a with
    | none => exact run_convert_bytes_nil w src e hs he 0 cap dst hd
    | some ad =>
      have hl : (loadCells ad 0).run P w = .ok (([] : List Int).map (Value.int .u8)).toArray w := by
        have := run_loadCells_list (P := P) w ad [] (fun j v hj => by simp at hj)
        simpa using this
      rw [run_convert_bytes_string w src dst e _ 0 cap hs he hd, run_bytesToString w _ 0 cap [] hl]
      rfl
  · obtain ⟨b, off, rfl, _, hc⟩ := h.2.2 hn
    exact run_convert_bytes_arg w src e hs he b off n cap zs h.1 (fun i hi => by rw [hc i hi, List.getD_eq_getElem?_getD]) dst hd

/-- The row that was made reads as these bytes. -/
theorem Row.of_own {w : World} {base g n cap : Nat} {zs : List Int} (h : w.ownsRow base 5 1 (.slice (some ⟨g, 0, none⟩) n cap) n (zs.map (Value.int .u8))) (hz : ∀ x ∈ zs, 0 ≤ x ∧ x ≤ 255) :
    Row w (some ⟨g, 0, none⟩) n zs := by
  have hl : zs.length = n := by have := h.1; simpa using this
  refine ⟨hl, hz, fun hn => ⟨g, 0, rfl, ?_, fun i hi => ?_⟩⟩
  · exact (h.lt g rfl).2
  · rw [Nat.zero_add, h.cellAt i (by omega)]
    simp [show i < zs.length by omega]

/-- A callee that leaves whatever world it gets as it is, met behind draws that were added up. -/
theorem calm_call {P : Program} {f : FuncId} {args : Array Value} {w : World} {p q : Nat} {r : Value} (h : ∀ W : World, Calls P f args W fun e W' => e = .returned r ∧ W' = W) :
    Calls P f args (w.drewN (p + q)) fun e W' => e = .returned r ∧ ∃ m, W' = w.drewN (p + m) :=
  (h _).mono fun _ _ hh => ⟨hh.1, q, hh.2⟩

theorem same_int {k : IntKind} {x y : Int} (e : x = y) : Ending.returned (Value.int k x) = Ending.returned (Value.int k y) := e ▸ rfl

/-- Cmp's answer. -/
def cmpZ : List Int → List Int → Int
  | [], [] => 0
  | [], _ :: _ => -1
  | _ :: _, [] => 1
  | x :: xs, y :: ys => if x < y then -1 else if y < x then 1 else cmpZ xs ys

theorem cmpZ_nil_left (ys : List Int) : cmpZ [] ys = if (0 : Int) < ys.length then -1 else 0 := by
  cases ys with
  | nil => simp [cmpZ]
  | cons y ys => simp [cmpZ]

theorem cmpZ_nil_right (xs : List Int) : cmpZ xs [] = if (0 : Int) < xs.length then 1 else 0 := by
  cases xs with
  | nil => simp [cmpZ]
  | cons y ys => simp [cmpZ]

theorem cmpZ_drop {xs ys : List Int} {k : Nat} (h1 : k < xs.length) (h2 : k < ys.length) :
    cmpZ (xs.drop k) (ys.drop k) = if xs[k]?.getD 0 < ys[k]?.getD 0 then -1 else if ys[k]?.getD 0 < xs[k]?.getD 0 then 1 else cmpZ (xs.drop (k + 1)) (ys.drop (k + 1)) := by
  rw [List.drop_eq_getElem_cons h1, List.drop_eq_getElem_cons h2, cmpZ]
  simp [List.getElem?_eq_getElem h1, List.getElem?_eq_getElem h2]

/-- Where one of them is at its end. -/
theorem cmpZ_end {xs ys : List Int} {k : Nat} (h1 : k ≤ xs.length) (h2 : k ≤ ys.length) (h : k = xs.length ∨ k = ys.length) :
    cmpZ (xs.drop k) (ys.drop k) = if (xs.length : Int) < ys.length then -1 else if (ys.length : Int) < xs.length then 1 else 0 := by
  rcases h with h | h
  · rw [List.drop_of_length_le (Nat.le_of_eq h.symm), cmpZ_nil_left, List.length_drop]
    by_cases c : (xs.length : Int) < ys.length
    · rw [if_pos c, if_pos (by omega)]
    · rw [if_neg c, if_neg (by omega), if_neg (by omega)]
  · rw [List.drop_of_length_le (Nat.le_of_eq h.symm), cmpZ_nil_right, List.length_drop]
    by_cases c : (ys.length : Int) < xs.length
    · rw [if_pos (show (0 : Int) < ((xs.length - k : Nat) : Int) by omega), if_neg (show ¬ (xs.length : Int) < ys.length by omega), if_pos c]
    · rw [if_neg (show ¬ (0 : Int) < ((xs.length - k : Nat) : Int) by omega), if_neg (show ¬ (xs.length : Int) < ys.length by omega), if_neg c]

end Go.Proofs.YtgmefdmeeihgoaaDoor

namespace Go.Proofs.YtgmefdmeeihgoaaDoor
open Go.RowKit

theorem Tryd.infoByte : (Tryd.prog.info? 5).map (fun i => (i.zero, i.size, i.bytes)) = some (some (.int .u8 0), 1, 1) := by kernel_rfl

/-- The slice V is the call's own, in memory newer than W0, and reads as the bytes L. -/
def Out (W0 wr : World) (V : Value) (L : List Int) : Prop := wr.ownsRow W0.heap.size 5 1 V L.length (L.map (Value.int .u8)) ∧ Below W0.heap.size W0 wr

theorem Out.below {W0 wr w' : World} {V : Value} {L : List Int} (h : Out W0 wr V L) (hb : Below wr.heap.size wr w') : Out W0 w' V L := by
  refine ⟨⟨h.1.1, ?_⟩, h.2.trans (hb.mono h.2.size)⟩
  rcases h.1.2 with h' | ⟨g, cap, cur, e, h1, h2, h3⟩
  · exact .inl h'
  · exact .inr ⟨g, cap, cur, e, h1, (hb.block g (Array.getElem?_eq_some_iff.1 h2).1).trans h2, h3⟩

theorem Out.app {W0 wr w1 : World} {V V' : Value} {L : List Int} {x : Int} {o : Obj} (h : Out W0 wr V L) (h1 : w1.ownsRow W0.heap.size 5 1 V' (L.length + 1) (L.map (Value.int .u8) ++ [.int .u8 x])) (hg : (wr.alloc o).grownBy w1 V.ownBlock) : Out W0 w1 V' (L ++ [x]) := by
  refine ⟨by rw [List.length_append, List.map_append]; exact h1, ?_⟩
  exact (h.2.alloc h.2.size o).grown hg (by have := h.2.size; simp; omega) (fun k hk => (h.1.lt k hk).1)

theorem Out.row {W0 wr : World} {V : Value} {L : List Int} (h : Out W0 wr V L) (hL : ∀ x ∈ L, 0 ≤ x ∧ x ≤ 255) : ∃ a c, V = .slice a L.length c ∧ Row wr a L.length L := by
  rcases h.1.2 with ⟨rfl, h0⟩ | ⟨g, cap, cur, rfl, _⟩
  · have : L = [] := List.eq_nil_of_length_eq_zero h0
    subst this
    exact ⟨none, 0, rfl, Row.nil _ _⟩
  · exact ⟨_, cap, rfl, Row.of_own h.1 hL⟩

theorem Out.made {W0 : World} (c : Nat) (hc : c ≤ 1000000) : Out W0 (W0.alloc (.cells (madeCells #[.int .u8 0] c) 5)) (.slice (some ⟨W0.heap.size, 0, none⟩) 0 c) [] :=
  ⟨World.ownsRow_made W0 _ c (Nat.le_refl _) (by unfold maxLen; omega) (by rw [size_madeCells]; simp), (Below.refl _ _).alloc (Nat.le_refl _) _⟩

theorem make_bytes (n : Nat) (hn : n ≤ 1000000) (W : World) : (Instr.makeSlice 22 (.int .i64 0) (.int .i64 (n : Int))).run Tryd.prog W = .ok (.slice (some ⟨W.heap.size, 0, none⟩) 0 n) (W.alloc (.cells (madeCells #[.int .u8 0] n) 5)) := by
  obtain ⟨i0, hi5, hz0, hz1, hz2⟩ := info_parts Tryd.infoByte
  have hr := run_make (P := Tryd.prog) W 22 5 i0 (.int .u8 0) Tryd.underlying22 hi5 hz0 .i64 .i64 0 n (by omega) (by omega) (by rw [hz2]; omega) (by omega)
  rw [hz1] at hr
  simpa [Value.cells] using hr

/-- The first k of them. -/
theorem Row.first {w : World} {a : Option Addr} {n : Nat} {zs : List Int} (h : Row w a n zs) (k : Nat) (hk : k ≤ n) : Row w a k (zs.take k) := by
  have hl := h.1
  refine ⟨by rw [List.length_take]; omega, fun x hx => h.2.1 x (List.mem_of_mem_take hx), fun h0 => ?_⟩
  obtain ⟨b, off, e, hb, hc⟩ := h.2.2 (by omega)
  exact ⟨b, off, e, hb, fun i hi => by rw [hc i (by omega), List.getElem?_take, if_pos hi]⟩

theorem Row.cells {w : World} {ad : Addr} {n : Nat} {zs : List Int} (h : Row w (some ad) n zs) : ∀ j u, (zs.map (Value.int .u8))[j]? = some u → w.cell? (ad.add j) = some u := by
  intro j u hu
  rw [List.getElem?_map] at hu
  rcases Nat.lt_or_ge j zs.length with hl | hl
  · have hn := h.1
    obtain ⟨b, off, e, _, hc⟩ := h.2.2 (by omega)
    injection e with e
    subst e
    rw [Addr.add_lit, hc j (by omega)]
    rw [List.getElem?_eq_getElem hl] at hu ⊢
    simpa using hu
  · rw [List.getElem?_eq_none hl] at hu
    cases hu

/-- Bytes are appended. -/
theorem out_append {ops : Array Oper} {rest : List Oper} {o : Oper} {a : Act} {Q : Exit → Act → World → Prop} {W0 w : World} {V : Value} {L zs : List Int} {A : Option Addr} {m c : Nat} (hgd : o.guard = none) (s x : Operand)
    (hop : o.op = .call { callee := .builtin .append, args := #[s, x], argTypes := #[22, 22] }) (hs : a.eval s = V) (hout : Out W0 w V L) (hx : a.eval x = .slice A m c) (hr : Row w A m zs) (hnil : A = none → c = 0) (hl : L.length + m ≤ 1000000)
    (h : ∀ V' w', Out W0 w' V' (L ++ zs) → wpList Tryd.prog ops Q rest (a.put o.dst V') w') : wpList Tryd.prog ops Q (o :: rest) a w := by
  obtain ⟨i0, hi5, hz0, hz1, hz2⟩ := info_parts Tryd.infoByte
  cases A with
  | none =>
    obtain rfl := hnil rfl
    have hm : m = 0 := by
      rcases Nat.eq_zero_or_pos m with h0 | h0
      · exact h0
      · obtain ⟨_, _, e, _⟩ := hr.2.2 h0
        cases e
    subst hm
    obtain rfl : zs = [] := List.eq_nil_of_length_eq_zero hr.1
    refine wpList_append_own_none hgd s x 22 hop W0.heap.size 5 i0 1 Tryd.underlying22 hi5 V L.length _ hs hout.1 hx ?_
    have := h V w (by simpa using hout)
    exact this
  | some ad =>
    refine wpList_append_own _ hgd s x 22 hop W0.heap.size 5 i0 (.int .u8 0) 1 1 Tryd.underlying22 hi5 hz0 hz1 hz2 rfl (by decide) V L.length (L.map (Value.int .u8)) hs hout.1 ad m c (zs.map (Value.int .u8)) hx (by rw [List.length_map, hr.1, Nat.mul_one]) hr.cells ?_ (by unfold maxLen; omega) (by omega) hout.2.size ?_
    · intro u hu
      obtain ⟨_, _, rfl⟩ := List.mem_map.1 hu
      rfl
    · intro V' w' hown hg _
      refine h V' w' ⟨?_, hout.2.grown hg hout.2.size (fun k hk => (hout.1.lt k hk).1)⟩
      rw [List.length_append, hr.1, List.map_append]
      exact hown

theorem Out.alloc {W0 wr : World} {V : Value} {L : List Int} (h : Out W0 wr V L) (o : Obj) : Out W0 (wr.alloc o) V L := h.below ((Below.refl _ _).alloc (Nat.le_refl _) o)

theorem Out.nilc {W0 wr : World} {a : Option Addr} {n c : Nat} {L : List Int} (h : Out W0 wr (.slice a n c) L) : a = none → c = 0 := by
  intro e
  subst e
  rcases h.1.2 with ⟨e, _⟩ | ⟨g, cap, cur, e, _⟩
  · injection e
  · cases e

/-- A new slice of one byte. -/
theorem out_one (w : World) (z : Int) : Out w (w.alloc (.cells #[.int .u8 z] 5)) (.slice (some ⟨w.heap.size, 0, none⟩) 1 1) [z] :=
  ⟨⟨rfl, .inr ⟨w.heap.size, 1, #[.int .u8 z], rfl, Nat.le_refl _, heap_alloc_new w _, Nat.le_refl _, by unfold maxLen; omega, rfl, rfl⟩⟩, (Below.refl _ _).alloc (Nat.le_refl _) _⟩
/-- A row of the call's own: where it lies. -/
theorem Out.form {W0 wr : World} {V : Value} {L : List Int} (h : Out W0 wr V L) (h0 : 0 < L.length) : ∃ g cap, V = .slice (some ⟨g, 0, none⟩) L.length cap ∧ W0.heap.size ≤ g := by
  rcases h.1.2 with ⟨_, e⟩ | ⟨g, cap, cur, e, hb, _⟩
  · omega
  · exact ⟨g, cap, e, hb⟩
theorem Out.cell {W0 wr : World} {g cap n : Nat} {L : List Int} (h : Out W0 wr (.slice (some ⟨g, 0, none⟩) n cap) L) (j : Nat) (hj : j < L.length) : wr.cell? ⟨g, j, none⟩ = some (.int .u8 (L[j]?.getD 0)) ∧ wr.frozen? ⟨g, j, none⟩ = false := by
  have hn : n = L.length := by
    rcases h.1.2 with ⟨e, _⟩ | ⟨g, cap, cur, e, hb, _⟩
    · cases e
    · injection e
  subst hn
  refine ⟨?_, h.1.frozenAt j⟩
  rw [h.1.cellAt j (by omega), List.getElem?_map, List.getElem?_eq_getElem hj]
  rfl
theorem Out.set {W0 wr : World} {g cap n : Nat} {L : List Int} (h : Out W0 wr (.slice (some ⟨g, 0, none⟩) n cap) L) (hg : W0.heap.size ≤ g) (j : Nat) (x : Int) : Out W0 (wr.setCell ⟨g, j, none⟩ (.int .u8 x)) (.slice (some ⟨g, 0, none⟩) n cap) (L.set j x) := by
  have hn : n = L.length := by
    rcases h.1.2 with ⟨e, _⟩ | ⟨g, cap, cur, e, hb, _⟩
    · cases e
    · injection e
  subst hn
  refine ⟨?_, h.2.setCell hg _⟩
  have := (h.1.stored j (.int .u8 x)).1
  rw [List.length_set, List.map_set]
  exact this

theorem own_cap {w : World} {base n cap m : Nat} {a : Option Addr} {vs : List Value} (h : w.ownsRow base 5 1 (.slice a n cap) m vs) : n ≤ cap := by
  rcases h.2 with ⟨e, _⟩ | ⟨g, cap', cur, e, h1, h2, h3⟩
  · injection e with _ e1 e2
    omega
  · injection e with e0 e1 e2
    omega
theorem Out.drewN {W0 wr : World} {V : Value} {L : List Int} (h : Out W0 wr V L) (q : Nat) : Out W0 (wr.drewN q) V L := ⟨h.1, { h.2 with }⟩

/-- A new row of bytes. -/
theorem row_const (w : World) (zs : List Int) (fr : Nat × Nat) (hz : ∀ x ∈ zs, 0 ≤ x ∧ x ≤ 255) : Row (w.alloc (.cells (zs.map (Value.int .u8)).toArray 5 fr)) (some ⟨w.heap.size, 0, none⟩) zs.length zs := by
  refine ⟨rfl, hz, fun _ => ⟨w.heap.size, 0, rfl, by simp, fun i hi => ?_⟩⟩
  have e := heap_alloc_new w (.cells (zs.map (Value.int .u8)).toArray 5 fr)
  simp only [World.cell?, e]
  simp [hi]
theorem conv_at {w : World} {a : Option Addr} {n : Nat} {zs : List Int} (cap : Nat) (h : Row w a n zs) : (convert 22 9 (.slice a n cap)).run Tryd.prog w = .ok (.string (strOfNums zs)) w :=
  h.conv 22 9 5 Tryd.underlying22 Tryd.underlying5 Tryd.underlying9

/-- The numbers of a text's letters. -/
def numsOf (s : ByteArray) : List Int := s.data.toList.map fun c => (c.toNat : Int)
theorem numsOf_length (s : ByteArray) : (numsOf s).length = s.size := by
  show (s.data.toList.map _).length = s.data.size
  rw [List.length_map, Array.length_toList]
def nth (s : ByteArray) (k : Nat) : Int := (numsOf s)[k]?.getD 0

theorem nums_byte (s : ByteArray) : ∀ x ∈ numsOf s, 0 ≤ x ∧ x ≤ 255 := by
  intro x hx
  obtain ⟨c, _, rfl⟩ := List.mem_map.1 hx
  have := UInt8.toNat_lt c
  omega
theorem nth_range (s : ByteArray) (k : Nat) : 0 ≤ nth s k ∧ nth s k ≤ 255 := by
  unfold nth
  rcases Nat.lt_or_ge k (numsOf s).length with h | h
  · rw [List.getElem?_eq_getElem h]
    exact nums_byte s _ (List.getElem_mem h)
  · rw [List.getElem?_eq_none h]
    simp

theorem str_at (s : ByteArray) (k : Nat) (h : k < s.size) (i : Int) (hi : i = k) (W : World) : (Instr.index 9 (.string s) (.int .i64 i)).run Tryd.prog W = .ok (.int .u8 (nth s k)) W := by
  subst hi
  rw [run_index_string W 9 s .i64 _ Tryd.underlying9, dif_pos ⟨by omega, by omega⟩]
  have e : (((s[(k : Int).toNat]'(by omega)).toNat : Nat) : Int) = nth s k := by
    simp only [nth, numsOf, Int.toNat_natCast]
    rw [List.getElem?_map, List.getElem?_eq_getElem (show k < s.data.toList.length from by rw [Array.length_toList]; exact h)]
    simp only [Option.map_some, Option.getD_some]
    rfl
  rw [e]

theorem nums_extract (s : ByteArray) (a b : Nat) : numsOf (s.extract a b) = ((numsOf s).drop a).take (b - a) := by
  unfold numsOf
  rw [ByteArray.data_extract, Array.toList_extract, List.extract_eq_take_drop, List.map_take, List.map_drop]

theorem nums_str (xs : List Int) (h : ∀ x ∈ xs, 0 ≤ x ∧ x ≤ 255) : numsOf (strOfNums xs) = xs := by
  unfold numsOf
  rw [strOfNums_data, List.map_map]
  conv => rhs; rw [← List.map_id xs]
  refine List.map_congr_left fun x hx => ?_
  have hb := h x hx
  simp only [Function.comp, id]
  rw [UInt8.toNat_ofNat', Nat.mod_eq_of_lt (by omega)]
  omega

theorem str_nums (s : ByteArray) : strOfNums (numsOf s) = s := by
  unfold strOfNums numsOf
  rw [List.map_map]
  have : s.data.toList.map ((fun n : Int => UInt8.ofNat n.toNat) ∘ fun c : UInt8 => (c.toNat : Int)) = s.data.toList := by
    conv => rhs; rw [← List.map_id s.data.toList]
    refine List.map_congr_left fun c _ => ?_
    simp
  rw [this]

theorem bytes_ext {a b : ByteArray} (h : a.toList = b.toList) : a = b := by
  rw [ByteArray.toList_eq, ByteArray.toList_eq] at h
  exact ByteArray.ext (Array.ext' h)

theorem str_append (xs ys : List Int) : strOfNums (xs ++ ys) = strOfNums xs ++ strOfNums ys := by
  apply ByteArray.ext
  apply Array.ext'
  simp [strOfNums_data]

end Go.Proofs.YtgmefdmeeihgoaaDoor

namespace Go.Proofs.YtgmefdmeeihgoaaDoor
open Go.RowKit

section
variable {P : Program} {ops : Array Oper} {Q : Exit → Act → World → Prop} {R : World → World → Prop}

/-- W goes on from w: nothing that was there has turned. -/
def Ext (w W : World) : Prop := Below w.heap.size w W
theorem Ext.refl (w : World) : Ext w w := Below.refl _ _
theorem Ext.trans {a b c : World} (h : Ext a b) (k : Ext b c) : Ext a c := Below.trans h (Below.mono k h.size)

theorem Ext.of_drew {w W : World} (h : Ext w.drew W) : Ext w W := ⟨h.os, h.tape, h.output, h.size, h.block⟩
theorem Ext.drew {w W : World} (h : Ext w W) : Ext w W.drew := ⟨h.os, h.tape, h.output, h.size, h.block⟩

/-- What holds under a narrower condition on the worlds to come holds under a wider one. -/
theorem held_mono {S S' : World → Prop} (hs : ∀ W, S' W → S W) : ∀ (fuel : Nat) (listed : Array Bool) (a : Act) (w : World),
    wpAnyH P .any ops Q S' fuel listed a w → wpAnyH P .any ops Q S fuel listed a w
  | 0, _, _, _, h => h
  | fuel + 1, _, _, _, h => ⟨h.1, fun i hi => wpOp_mono (fun _ _ h' => ⟨hs _ h'.1, held_mono hs fuel _ _ _ h'.2⟩) (h.2 i hi)⟩

/-- One walk, in an order of our choosing: (i, false): operation number i, which yields in every world that goes on from the one at hand; (i, true): operation number i, which comes up alone, and behind which the world goes on from the one at hand. -/
def wpOrd (P : Program) (l : List Oper) (R : World → World → Prop) (Q : Exit → Act → World → Prop) : List (Nat × Bool) → Act → World → Prop
  | [], a, w => Q .normal a w
  | (i, sole) :: rest, a, w => ∃ o, l[i]? = some o ∧
    ((Region.wanted o (yielded l.toArray a.tmps) = false ∧ wpOrd P l R Q rest (a.put o.dst undef) w) ∨
     (Region.wanted o (yielded l.toArray a.tmps) = true ∧
       if sole then o.wp P a w (fun a' w' => R w w' ∧ wpOrd P l R Q rest a' w') Q
       else ∃ v, (∀ W, R w W → (execOp a.eval o).run P W = .ok (.value v) W) ∧ wpOrd P l R Q rest (a.put o.dst v) w))

/-- May the operations be met in this order? -/
def ordB (l : List Oper) : List (Nat × Bool) → Array Bool → Bool
  | [], listed => (Region.ready .any l.toArray listed).isEmpty
  | (i, sole) :: rest, listed =>
    (if sole then Region.ready .any l.toArray listed == [i] else (Region.ready .any l.toArray listed).contains i && Region.free .any l.toArray listed i) && ordB l rest (listed.setIfInBounds i true)

theorem held_of_ord {l : List Oper} (hrefl : ∀ w, R w w) (htrans : ∀ a b c, R a b → R b c → R a c) (hs : Region.noSelect l.toArray = true) (hQ : ∀ d v c a w, Q (.panic c) (a.put d v) w → Q (.panic c) a w) :
    ∀ (order : List (Nat × Bool)) (listed : Array Bool) (a : Act) (w : World), ordB l order listed = true → wpOrd P l R Q order a w → wpAnyH P .any l.toArray Q (R w) order.length listed a w
  | [], listed, a, w, hB, h => by
    have : Region.ready .any l.toArray listed = [] := by simpa [ordB] using hB
    exact wpAnyH_done this h _
  | (i, sole) :: rest, listed, a, w, hB, h => by
    obtain ⟨o, ho, h⟩ := h
    have hi : l.toArray[i]? = some o := by simpa using ho
    rw [ordB, Bool.and_eq_true] at hB
    obtain ⟨h1, hB'⟩ := hB
    cases sole with
    | false =>
      rw [if_neg (by simp), Bool.and_eq_true] at h1
      rcases h with ⟨hw, h⟩ | ⟨hw, h⟩
      · exact wpAnyH_take hi hs h1.2 h1.1 (hQ _ _) (.inr ⟨hw, rfl⟩) (hrefl w) (held_of_ord hrefl htrans hs hQ rest _ _ _ hB' h)
      · rw [if_neg (by simp)] at h
        obtain ⟨v, hv, h⟩ := h
        exact wpAnyH_take hi hs h1.2 h1.1 (hQ _ _) (.inl ⟨hw, hv⟩) (hrefl w) (held_of_ord hrefl htrans hs hQ rest _ _ _ hB' h)
    | true =>
      rw [if_pos rfl] at h1
      have hr : Region.ready .any l.toArray listed = [i] := by simpa using h1
      refine wpAnyH_all hr (by simp) (fun j hj => ?_)
      obtain rfl : j = i := by simpa using hj
      unfold wpOp
      simp only [hi]
      rcases h with ⟨hw, h⟩ | ⟨hw, h⟩
      · rw [if_neg (by rw [hw]; simp)]
        exact ⟨hrefl w, held_of_ord hrefl htrans hs hQ rest _ _ _ hB' h⟩
      · rw [if_pos rfl] at h
        rw [if_pos hw]
        exact .inl (Oper.wp_mono (fun a' w' h' => ⟨h'.1, held_mono (fun W hW => htrans _ _ _ h'.1 hW) _ _ _ _ (held_of_ord hrefl htrans hs hQ rest _ _ _ hB' h'.2)⟩) h)

/-- THE LAW: a region that asks the tape for its order. -/
theorem wp_region_ord {id : Nat} {a : Act} {w : World} {l : List Oper} (R : World → World → Prop) (hrefl : ∀ w, R w w) (htrans : ∀ a b c, R a b → R b c → R a c) (order : List (Nat × Bool)) (hm : P.follows .mixedOrders = true) (hs : Region.noSelect l.toArray = true) (hn : order.length = l.length)
    (hB : ordB l order (Array.replicate l.length false) = true) (hQ : ∀ d v c a w, Q (.panic c) (a.put (some d) v) w → Q (.panic c) a w) (h : wpOrd P l R Q order a w.drew) : (Code.region id l.toArray true).wp P Q a w := by
  refine wp_region_held (S := R w.drew) hm ?_
  have hQ' : ∀ d v c a w, Q (.panic c) (a.put d v) w → Q (.panic c) a w := fun d => by
    cases d with
    | none => exact fun _ _ _ _ h => h
    | some d => exact hQ d
  have := held_of_ord hrefl htrans hs hQ' order (Array.replicate l.length false) a w.drew hB h
  rw [hn] at this
  simpa using this

/- The moves of such a walk. -/
section
variable {l : List Oper} {rest : List (Nat × Bool)} {a : Act} {w : World} {i : Nat} {o : Oper}
theorem ord_skip {sole : Bool} (ho : l[i]? = some o) (hw : Region.wanted o (yielded l.toArray a.tmps) = false) (h : wpOrd P l R Q rest (a.put o.dst undef) w) : wpOrd P l R Q ((i, sole) :: rest) a w :=
  ⟨o, ho, .inl ⟨hw, h⟩⟩
theorem ord_take (v : Value) (ho : l[i]? = some o) (hw : Region.wanted o (yielded l.toArray a.tmps) = true) (hv : ∀ W, R w W → (execOp a.eval o).run P W = .ok (.value v) W)
    (h : wpOrd P l R Q rest (a.put o.dst v) w) : wpOrd P l R Q ((i, false) :: rest) a w :=
  ⟨o, ho, .inr ⟨hw, v, hv, h⟩⟩
theorem ord_move (x : Operand) (ho : l[i]? = some o) (hx : o.op = .move x) (hw : Region.wanted o (yielded l.toArray a.tmps) = true) (h : wpOrd P l R Q rest (a.put o.dst (a.eval x)) w) : wpOrd P l R Q ((i, false) :: rest) a w :=
  ord_take _ ho hw (fun W _ => by unfold execOp; rw [hx]; rfl) h
theorem ord_assign (x : Operand) (ho : l[i]? = some o) (hx : o.op = .assign x) (hw : Region.wanted o (yielded l.toArray a.tmps) = true) (h : wpOrd P l R Q rest (a.put o.dst (a.eval x)) w) : wpOrd P l R Q ((i, false) :: rest) a w :=
  ord_take _ ho hw (fun W _ => by unfold execOp; rw [hx]; rfl) h
theorem ord_sole (ho : l[i]? = some o) (hw : Region.wanted o (yielded l.toArray a.tmps) = true) (h : ∀ K : Act → World → Prop, (∀ a' w', R w w' → wpOrd P l R Q rest a' w' → K a' w') → o.wp P a w K Q) : wpOrd P l R Q ((i, true) :: rest) a w :=
  ⟨o, ho, .inr ⟨hw, h _ (fun _ _ he h => ⟨he, h⟩)⟩⟩
theorem ord_end (h : Q .normal a w) : wpOrd P l R Q [] a w := h
end

end
end Go.Proofs.YtgmefdmeeihgoaaDoor

namespace Go.Proofs.YtgmefdmeeihgoaaDoor
open Go.RowKit

theorem Row.rest {w : World} {a : Option Addr} {n : Nat} {zs : List Int} (h : Row w a n zs) (k c : Nat) (hk : k ≤ n) (hc : n ≤ c) : Row w (if c = k then a else a.map (·.add k)) (n - k) (zs.drop k) := by
  refine ⟨by rw [List.length_drop, h.1], fun x hx => h.2.1 x (List.mem_of_mem_drop hx), fun h0 => ?_⟩
  obtain ⟨b, off, e, hb, hcell⟩ := h.2.2 (by omega)
  subst e
  rw [if_neg (by omega)]
  refine ⟨b, off + k, by rw [Option.map_some, Addr.add_lit], hb, fun i hi => ?_⟩
  rw [Nat.add_assoc, hcell (k + i) (by omega), List.getElem?_drop]
theorem Row.set {w : World} {a : Option Addr} {n : Nat} {zs : List Int} (h : Row w a n zs) (g j : Nat) (v : Value) (hne : 0 < n → ∃ b off, a = some ⟨b, off, none⟩ ∧ b ≠ g) : Row (w.setCell ⟨g, j, none⟩ v) a n zs := by
  refine ⟨h.1, h.2.1, fun h0 => ?_⟩
  obtain ⟨b, off, e, hb, hcell⟩ := h.2.2 h0
  obtain ⟨b', off', e', hb'⟩ := hne h0
  rw [e] at e'
  obtain ⟨rfl, rfl⟩ : b = b' ∧ off = off' := by simpa using e'
  refine ⟨b, off, e, by simpa using hb, fun i hi => ?_⟩
  rw [← hcell i hi]
  simp only [World.cell?, heap_setCell_other w ⟨g, j, none⟩ b v hb']

end Go.Proofs.YtgmefdmeeihgoaaDoor

namespace Go.Proofs.YtgmefdmeeihgoaaDoor
open Go.RowKit

theorem cell_block {w : World} {p : Addr} {v : Value} (h : w.cell? p = some v) : p.block < w.heap.size := by
  rcases Nat.lt_or_ge p.block w.heap.size with hl | hl
  · exact hl
  · simp [World.cell?, Array.getElem?_eq_none hl] at h

theorem row_of {w : World} {a : Option Addr} {len cap : Nat} {zs : List Int}
    (h : (a = none ∧ len = 0 ∧ cap = 0 ∧ zs = []) ∨
      ∃ x, a = some x ∧ len ≤ cap ∧ cap ≤ maxLen ∧ zs.length = cap ∧ (∀ i, i < zs.length → w.cell? (x.add i) = some (.int .u8 (zs.getD i 0))) ∧ ∀ n ∈ zs, (Lit.int .u8 n).wf = true) :
    Row w a len (zs.take len) ∧ len ≤ maxLen := by
  rcases h with ⟨rfl, rfl, rfl, rfl⟩ | ⟨x, rfl, hl, hm, hz, hcell, hwz⟩
  · exact ⟨Row.nil _ _, Nat.zero_le _⟩
  · refine ⟨⟨by rw [List.length_take]; omega, fun y hy => ?_, fun hn => ?_⟩, by omega⟩
    · have := hwz y (List.mem_of_mem_take hy)
      have := bounds_u8 this
      omega
    · obtain ⟨b, off, spot⟩ := x
      have hc := hcell 0 (by omega)
      have hspot : spot = none := by simpa [Addr.add] using World.cell?_spot hc
      subst hspot
      refine ⟨b, off, rfl, by have := cell_block hc; simpa [Addr.add] using this, fun i hi => ?_⟩
      have := hcell i (by omega)
      rw [Addr.add_lit] at this
      rw [this, List.getD_eq_getElem?_getD, List.getElem?_take, if_pos hi]

end Go.Proofs.YtgmefdmeeihgoaaDoor

namespace Go.Proofs.YtgmefdmeeihgoaaDoor
open Go.RowKit
set_option linter.unusedVariables false

/-- Block g holds just these cells. -/
def Blk (w : World) (g : Nat) (t : TypeId) (cs : Array Value) : Prop := w.heap[g]? = some (.cells cs t (0, 0))
theorem Blk.lt {w : World} {g : Nat} {t : TypeId} {cs : Array Value} (h : Blk w g t cs) : g < w.heap.size := (Array.getElem?_eq_some_iff.1 h).1
theorem Blk.cell {w : World} {g : Nat} {t : TypeId} {cs : Array Value} (h : Blk w g t cs) (j : Nat) : w.cell? ⟨g, j, none⟩ = cs[j]? := by
  unfold Blk at h
  simp only [World.cell?, h]
  rfl
theorem Blk.free {w : World} {g : Nat} {t : TypeId} {cs : Array Value} (h : Blk w g t cs) (j : Nat) : w.frozen? ⟨g, j, none⟩ = false := by
  unfold Blk at h
  simp [World.frozen?, h]
theorem Blk.new (w : World) (t : TypeId) (cs : Array Value) : Blk (w.alloc (.cells cs t)) w.heap.size t cs := heap_alloc_new w _
theorem Blk.below {w w' : World} {g B : Nat} {t : TypeId} {cs : Array Value} (h : Blk w g t cs) (hb : Below B w w') (hg : g < B) : Blk w' g t cs := (hb.block g hg).trans h
theorem Blk.alloc {w : World} {g : Nat} {t : TypeId} {cs : Array Value} (h : Blk w g t cs) (o : Obj) : Blk (w.alloc o) g t cs := (Below.heap_alloc w o g h.lt).trans h
theorem Blk.set {w : World} {g : Nat} {t : TypeId} {cs : Array Value} (h : Blk w g t cs) (j : Nat) (v : Value) : Blk (w.setCell ⟨g, j, none⟩ v) g t (cs.setIfInBounds j v) := heap_setCell_same w g j cs t v h
theorem Blk.far {w : World} {g g' : Nat} {t : TypeId} {cs : Array Value} (h : Blk w g t cs) (hne : g ≠ g') (j : Nat) (v : Value) : Blk (w.setCell ⟨g', j, none⟩ v) g t cs := (heap_setCell_other w ⟨g', j, none⟩ g v hne).trans h
theorem Blk.drewN {w : World} {g : Nat} {t : TypeId} {cs : Array Value} (h : Blk w g t cs) (n : Nat) : Blk (w.drewN n) g t cs := h
theorem Below.step {w w1 w2 : World} (h : Below w.heap.size w w1) (k : Below w1.heap.size w1 w2) : Below w.heap.size w w2 := h.trans (k.mono h.size)
theorem drewN_below (w : World) (n : Nat) : Below w.heap.size w (w.drewN n) := ⟨rfl, rfl, rfl, Nat.le_refl _, fun _ _ => rfl⟩
theorem cell_later {wr : World} {b o : Nat} {v : Value} (h : wr.cell? ⟨b, o, none⟩ = some v) : ∀ W, Ext wr.drew W → W.cell? ⟨b, o, none⟩ = some v := by
  intro W hW
  have hb : b < wr.heap.size := by
    rcases Nat.lt_or_ge b wr.heap.size with h' | h'
    · exact h'
    · simp [World.cell?, Array.getElem?_eq_none h'] at h
  exact (hW.cell (p := ⟨b, o, none⟩) hb).trans h
theorem ret_bool {a b : Bool} (h : a = b) : Ending.returned (.bool a) = .returned (.bool b) := by rw [h]
theorem out_zero (w : World) : Out w (w.alloc (.cells #[] 5)) (.slice (some ⟨w.heap.size, 0, none⟩) 0 0) [] := by
  have h := Out.made (W0 := w) 0 (by omega)
  rw [show madeCells #[.int .u8 0] 0 = #[] by simp [madeCells]] at h
  exact h
theorem Out.wider {w W0 wr : World} {V : Value} {L : List Int} (h : Out W0 wr V L) (hb : Below w.heap.size w W0) : Out w wr V L := by
  refine ⟨⟨h.1.1, ?_⟩, Below.step hb h.2⟩
  rcases h.1.2 with h' | ⟨g, cap, cur, e, h1, h2⟩
  · exact .inl h'
  · exact .inr ⟨g, cap, cur, e, Nat.le_trans hb.size h1, h2⟩
/-- Bytes are appended to nothing. -/
theorem out_nil (w : World) : Out w w (.slice none 0 0) [] := ⟨⟨rfl, .inl ⟨rfl, rfl⟩⟩, Below.refl _ _⟩
/-- A row of bytes of the call's own that it hands back: new memory. -/
def GivesNew (zs : List Int) (w : World) (e : Ending) (w' : World) : Prop :=
  ∃ V, e = .returned V ∧ Out w w' V zs
theorem GivesNew.row {zs : List Int} {w w' : World} {e : Ending} (h : GivesNew zs w e w') (hb : ∀ x ∈ zs, 0 ≤ x ∧ x ≤ 255) : ∃ a c, e = .returned (.slice a zs.length c) ∧ Row w' a zs.length zs ∧ (a = none → c = 0) ∧ zs.length ≤ c ∧ Below w.heap.size w w' := by
  obtain ⟨V, rfl, ho⟩ := h
  obtain ⟨a, c, rfl, hr⟩ := ho.row hb
  refine ⟨a, c, rfl, hr, ?_, own_cap ho.1, ho.2⟩
  intro e
  subst e
  rcases ho.1.2 with ⟨e, _⟩ | ⟨g, cap, cur, e, _⟩
  · injection e
  · cases e
theorem Out.shape {W0 wr : World} {V : Value} {L : List Int} (h : Out W0 wr V L) : ∃ a c, V = .slice a L.length c := by
  rcases h.1.2 with ⟨rfl, h0⟩ | ⟨g, cap, cur, rfl, _⟩
  · exact ⟨none, 0, by rw [h0]⟩
  · exact ⟨_, _, rfl⟩
/-- A slice's length. -/
def lenS : Value → Nat
  | .slice _ m _ => m
  | _ => 0

end Go.Proofs.YtgmefdmeeihgoaaDoor

namespace Go.Proofs.YtgmefdmeeihgoaaDoor
open Go.RowKit

/-- An element: its tag, its bytes, the elements within it. -/
inductive T where
  | node (tag : Int) (body : List Int) (kids : List T)

theorem T.all {p : T → Prop} (h : ∀ tag body kids, (∀ t ∈ kids, p t) → p (.node tag body kids)) (t : T) : p t :=
  T.rec (motive_1 := p) (motive_2 := fun l => ∀ t ∈ l, p t) (fun tag body kids ih => h tag body kids ih) (fun _ hm => absurd hm (by simp))
    (fun t r h1 h2 x hx => by
      rcases List.mem_cons.1 hx with e | hx
      · rw [e]
        exact h1
      · exact h2 x hx) t

mutual
/-- The value reads as this element, and all that it leads to lies in blocks of this world. -/
def T.In (w : World) : T → Value → Prop
  | .node tag body kids, v => ∃ (A : Option Addr) (n c : Nat) (K : Option Addr) (m d : Nat), v = .agg #[.int .i64 tag, .slice A n c, .slice K m d] ∧ (Lit.int .i64 tag).wf = true ∧ Row w A n body ∧ n ≤ maxLen ∧ (A = none → c = 0) ∧ kids.length = m ∧ (m ≤ maxLen ∧ n ≤ c ∧ m ≤ d) ∧
      (0 < m → ∃ b off, K = some ⟨b, off, none⟩ ∧ b < w.heap.size ∧ T.InAll w kids b off)
/-- They lie there one behind the other, three cells each. -/
def T.InAll (w : World) : List T → Nat → Nat → Prop
  | [], _, _ => True
  | t :: r, b, off => (∃ v0 v1 v2 : Value, w.cell? ⟨b, off, none⟩ = some v0 ∧ w.cell? ⟨b, off + 1, none⟩ = some v1 ∧ w.cell? ⟨b, off + 2, none⟩ = some v2 ∧ T.In w t (.agg #[v0, v1, v2])) ∧ T.InAll w r b (off + 3)
end

/-- One of them. -/
theorem T.InAll.at {w : World} : ∀ {ts : List T} {b off : Nat}, T.InAll w ts b off → ∀ (i : Nat) (h : i < ts.length), ∃ v0 v1 v2 : Value, w.cell? ⟨b, off + i * 3, none⟩ = some v0 ∧ w.cell? ⟨b, off + i * 3 + 1, none⟩ = some v1 ∧ w.cell? ⟨b, off + i * 3 + 2, none⟩ = some v2 ∧ T.In w ts[i] (.agg #[v0, v1, v2])
  | [], _, _, _, _, h => absurd h (by simp)
  | t :: r, b, off, h, 0, _ => by
    unfold T.InAll at h
    simpa using h.1
  | t :: r, b, off, h, i + 1, hi => by
    unfold T.InAll at h
    have := T.InAll.at h.2 i (by simpa using hi)
    rw [show off + 3 + i * 3 = off + (i + 1) * 3 by omega] at this
    simpa using this
theorem T.InAll.of {w : World} : ∀ {ts : List T} {b off : Nat}, (∀ (i : Nat) (h : i < ts.length), ∃ v0 v1 v2 : Value, w.cell? ⟨b, off + i * 3, none⟩ = some v0 ∧ w.cell? ⟨b, off + i * 3 + 1, none⟩ = some v1 ∧ w.cell? ⟨b, off + i * 3 + 2, none⟩ = some v2 ∧ T.In w ts[i] (.agg #[v0, v1, v2])) → T.InAll w ts b off
  | [], _, _, _ => by
    unfold T.InAll
    trivial
  | t :: r, b, off, h => by
    unfold T.InAll
    refine ⟨by
      have h0 := h 0 (by simp)
      rw [List.getElem_cons_zero, Nat.zero_mul, Nat.add_zero] at h0
      exact h0, T.InAll.of fun i hi => ?_⟩
    have := h (i + 1) (by simpa using hi)
    rw [show off + (i + 1) * 3 = off + 3 + i * 3 by omega] at this
    simpa using this

/-- It lies there still in a world that goes on from this one. -/
theorem T.In.below {w w' : World} (hb : Below w.heap.size w w') (t : T) : ∀ {v : Value}, t.In w v → t.In w' v := by
  refine T.all (p := fun t => ∀ {v : Value}, t.In w v → t.In w' v) ?_ t
  intro tag body kids ih v h
  unfold T.In at h ⊢
  obtain ⟨A, n, c, K, m, d, rfl, hw, hr, hn, hc, hm, hm', hk⟩ := h
  refine ⟨A, n, c, K, m, d, rfl, hw, hr.below hb, hn, hc, hm, hm', fun h0 => ?_⟩
  obtain ⟨b, off, e, hlt, ha⟩ := hk h0
  refine ⟨b, off, e, Nat.lt_of_lt_of_le hlt hb.size, T.InAll.of fun i hi => ?_⟩
  obtain ⟨v0, v1, v2, h0, h1, h2, h3⟩ := ha.at i hi
  exact ⟨v0, v1, v2, (hb.cell (p := ⟨b, off + i * 3, none⟩) hlt).trans h0, (hb.cell (p := ⟨b, off + i * 3 + 1, none⟩) hlt).trans h1, (hb.cell (p := ⟨b, off + i * 3 + 2, none⟩) hlt).trans h2, ih _ (List.getElem_mem hi) h3⟩
theorem T.In.drewN {w : World} {t : T} {v : Value} (h : t.In w v) (k : Nat) : t.In (w.drewN k) v := T.In.below (w := w) (w' := w.drewN k) ⟨rfl, rfl, rfl, Nat.le_refl _, fun _ _ => rfl⟩ t h

def T.tag : T → Int | .node t _ _ => t
def T.body : T → List Int | .node _ b _ => b
def T.kids : T → List T | .node _ _ k => k

theorem T.each {p : T → Prop} (h : ∀ t, (∀ k ∈ t.kids, p k) → p t) (t : T) : p t := T.all (fun tag body kids ih => h (.node tag body kids) ih) t

/-- Its three cells. -/
theorem T.In.open {w : World} {t : T} {v : Value} (h : t.In w v) : ∃ (A : Option Addr) (n c : Nat) (K : Option Addr) (m d : Nat), v = .agg #[.int .i64 t.tag, .slice A n c, .slice K m d] ∧ (Lit.int .i64 t.tag).wf = true ∧ Row w A n t.body ∧ n ≤ maxLen ∧ (A = none → c = 0) ∧ t.kids.length = m ∧ (m ≤ maxLen ∧ n ≤ c ∧ m ≤ d) ∧
      (∀ i, i < m → ∃ b off, K = some ⟨b, off, none⟩ ∧ b < w.heap.size ∧ ∃ v0 v1 v2 : Value, w.cell? ⟨b, off + i * 3, none⟩ = some v0 ∧ w.cell? ⟨b, off + i * 3 + 1, none⟩ = some v1 ∧ w.cell? ⟨b, off + i * 3 + 2, none⟩ = some v2 ∧ (t.kids[i]?.getD (.node 0 [] [])).In w (.agg #[v0, v1, v2])) := by
  obtain ⟨tag, body, kids⟩ := t
  unfold T.In at h
  obtain ⟨A, n, c, K, m, d, rfl, hw, hr, hn, hc, hm, hm', hk⟩ := h
  refine ⟨A, n, c, K, m, d, rfl, hw, hr, hn, hc, hm, hm', fun i hi => ?_⟩
  obtain ⟨b, off, e, hlt, ha⟩ := hk (by omega)
  have hi' : i < kids.length := by omega
  obtain ⟨v0, v1, v2, h⟩ := ha.at i hi'
  refine ⟨b, off, e, hlt, v0, v1, v2, ?_⟩
  simp only [T.kids, List.getElem?_eq_getElem hi', Option.getD_some]
  exact h
/-- The cells of one. -/
theorem T.In.form {w : World} {t : T} {v0 v1 v2 : Value} (h : t.In w (.agg #[v0, v1, v2])) : ∃ (z : Int) (A : Option Addr) (n c : Nat) (K : Option Addr) (m d : Nat), v0 = .int .i64 z ∧ v1 = .slice A n c ∧ v2 = .slice K m d := by
  obtain ⟨A, n, c, K, m, d, e, _⟩ := h.open
  simp only [Value.agg.injEq] at e
  have e' := congrArg Array.toList e
  simp only [List.cons.injEq, and_true] at e'
  exact ⟨_, A, n, c, K, m, d, e'.1, e'.2.1, e'.2.2⟩



/-- An element's box (a local variable's block), and the element that it holds, in a world that has gone on. -/
structure Box (w wr : World) (g : Nat) (t : T) (A : Option Addr) (n c : Nat) (K : Option Addr) (m d : Nat) : Prop where
  base : w.heap.size ≤ g
  blk : Blk wr g 28 #[.int .i64 t.tag, .slice A n c, .slice K m d]
  below : Below w.heap.size w wr
  has : t.In wr (.agg #[.int .i64 t.tag, .slice A n c, .slice K m d])
theorem Box.start {w : World} {t : T} {A : Option Addr} {n c : Nat} {K : Option Addr} {m d : Nat} (h : t.In w (.agg #[.int .i64 t.tag, .slice A n c, .slice K m d])) : Box w (w.alloc (.cells #[.int .i64 t.tag, .slice A n c, .slice K m d] 28)) w.heap.size t A n c K m d :=
  ⟨Nat.le_refl _, Blk.new _ _ _, (Below.refl _ _).alloc (Nat.le_refl _) _, T.In.below ((Below.refl _ _).alloc (Nat.le_refl _) _) t h⟩
theorem Box.go {w wr w' : World} {g : Nat} {t : T} {A : Option Addr} {n c : Nat} {K : Option Addr} {m d : Nat} (h : Box w wr g t A n c K m d) (hb : Below wr.heap.size wr w') : Box w w' g t A n c K m d :=
  ⟨h.base, h.blk.below hb h.blk.lt, Below.step h.below hb, T.In.below hb t h.has⟩
theorem Box.cells {w wr : World} {g : Nat} {t : T} {A : Option Addr} {n c : Nat} {K : Option Addr} {m d : Nat} (h : Box w wr g t A n c K m d) : wr.cell? ⟨g, 0, none⟩ = some (.int .i64 t.tag) ∧ wr.cell? ⟨g, 1, none⟩ = some (.slice A n c) ∧ wr.cell? ⟨g, 2, none⟩ = some (.slice K m d) :=
  ⟨h.blk.cell 0, h.blk.cell 1, h.blk.cell 2⟩
/-- One of the elements within it. -/
theorem Box.kid {w wr : World} {g : Nat} {t : T} {A : Option Addr} {n c : Nat} {K : Option Addr} {m d : Nat} (h : Box w wr g t A n c K m d) (i : Nat) (hi : i < m) : ∃ (k : T) (b off : Nat) (z : Int) (A' : Option Addr) (n' c' : Nat) (K' : Option Addr) (m' d' : Nat), t.kids[i]? = some k ∧ K = some ⟨b, off, none⟩ ∧
    wr.cell? ⟨b, off + i * 3, none⟩ = some (.int .i64 z) ∧ wr.cell? ⟨b, off + i * 3 + 1, none⟩ = some (.slice A' n' c') ∧ wr.cell? ⟨b, off + i * 3 + 2, none⟩ = some (.slice K' m' d') ∧ k.In wr (.agg #[.int .i64 z, .slice A' n' c', .slice K' m' d']) := by
  obtain ⟨A1, n1, c1, K1, m1, d1, e, _, _, _, _, hm, _, hk⟩ := h.has.open
  simp only [Value.agg.injEq] at e
  have e' := congrArg Array.toList e
  simp only [List.cons.injEq, and_true, Value.slice.injEq, true_and] at e'
  obtain ⟨⟨rfl, rfl, rfl⟩, rfl, rfl, rfl⟩ := e'
  obtain ⟨b, off, rfl, hb, v0, v1, v2, h0, h1, h2, h3⟩ := hk i hi
  obtain ⟨z, A', n', c', K', m', d', rfl, rfl, rfl⟩ := h3.form
  have hi' : i < t.kids.length := by omega
  rw [List.getElem?_eq_getElem hi', Option.getD_some] at h3
  exact ⟨t.kids[i], b, off, z, A', n', c', K', m', d', List.getElem?_eq_getElem hi', rfl, h0, h1, h2, h3⟩

end Go.Proofs.YtgmefdmeeihgoaaDoor

namespace Go.Proofs.YtgmefdmeeihgoaaDoor
open Go.RowKit

mutual
/-- The value reads as this element, and all that it leads to lies in blocks that are P. -/
def T.InP (P : Nat → Prop) (w : World) : T → Value → Prop
  | .node tag body kids, v => ∃ (A : Option Addr) (n c : Nat) (K : Option Addr) (m d : Nat), v = .agg #[.int .i64 tag, .slice A n c, .slice K m d] ∧ (Lit.int .i64 tag).wf = true ∧ Row w A n body ∧ n ≤ maxLen ∧ (A = none → c = 0) ∧ kids.length = m ∧ (m ≤ maxLen ∧ n ≤ c ∧ m ≤ d) ∧
      (0 < n → ∃ b off, A = some ⟨b, off, none⟩ ∧ P b) ∧ (0 < m → ∃ b off, K = some ⟨b, off, none⟩ ∧ b < w.heap.size ∧ P b ∧ T.InPAll P w kids b off)
def T.InPAll (P : Nat → Prop) (w : World) : List T → Nat → Nat → Prop
  | [], _, _ => True
  | t :: r, b, off => (∃ v0 v1 v2 : Value, w.cell? ⟨b, off, none⟩ = some v0 ∧ w.cell? ⟨b, off + 1, none⟩ = some v1 ∧ w.cell? ⟨b, off + 2, none⟩ = some v2 ∧ T.InP P w t (.agg #[v0, v1, v2])) ∧ T.InPAll P w r b (off + 3)
end
theorem T.InPAll.at {P : Nat → Prop} {w : World} : ∀ {ts : List T} {b off : Nat}, T.InPAll P w ts b off → ∀ (i : Nat) (h : i < ts.length), ∃ v0 v1 v2 : Value, w.cell? ⟨b, off + i * 3, none⟩ = some v0 ∧ w.cell? ⟨b, off + i * 3 + 1, none⟩ = some v1 ∧ w.cell? ⟨b, off + i * 3 + 2, none⟩ = some v2 ∧ T.InP P w ts[i] (.agg #[v0, v1, v2])
  | [], _, _, _, _, h => absurd h (by simp)
  | t :: r, b, off, h, 0, _ => by
    unfold T.InPAll at h
    simpa using h.1
  | t :: r, b, off, h, i + 1, hi => by
    unfold T.InPAll at h
    have := T.InPAll.at h.2 i (by simpa using hi)
    rw [show off + 3 + i * 3 = off + (i + 1) * 3 by omega] at this
    simpa using this
theorem T.InPAll.of {P : Nat → Prop} {w : World} : ∀ {ts : List T} {b off : Nat}, (∀ (i : Nat) (h : i < ts.length), ∃ v0 v1 v2 : Value, w.cell? ⟨b, off + i * 3, none⟩ = some v0 ∧ w.cell? ⟨b, off + i * 3 + 1, none⟩ = some v1 ∧ w.cell? ⟨b, off + i * 3 + 2, none⟩ = some v2 ∧ T.InP P w ts[i] (.agg #[v0, v1, v2])) → T.InPAll P w ts b off
  | [], _, _, _ => by
    unfold T.InPAll
    trivial
  | t :: r, b, off, h => by
    unfold T.InPAll
    refine ⟨by
      have h0 := h 0 (by simp)
      rw [List.getElem_cons_zero, Nat.zero_mul, Nat.add_zero] at h0
      exact h0, T.InPAll.of fun i hi => ?_⟩
    have := h (i + 1) (by simpa using hi)
    rw [show off + (i + 1) * 3 = off + 3 + i * 3 by omega] at this
    simpa using this

/-- It lies there still where those blocks are as they were. -/
theorem T.InP.keep {P Q : Nat → Prop} {w w' : World} (hP : ∀ b, b < w.heap.size → P b → Q b ∧ w'.heap[b]? = w.heap[b]?) (hs : w.heap.size ≤ w'.heap.size) (t : T) : ∀ {v : Value}, t.InP P w v → t.InP Q w' v := by
  refine T.all (p := fun t => ∀ {v : Value}, t.InP P w v → t.InP Q w' v) ?_ t
  intro tag body kids ih v h
  unfold T.InP at h ⊢
  obtain ⟨A, n, c, K, m, d, rfl, hw, hr, hn, hc, hm, hm', hp, hk⟩ := h
  refine ⟨A, n, c, K, m, d, rfl, hw, ⟨hr.1, hr.2.1, fun h0 => ?_⟩, hn, hc, hm, hm', fun h0 => ?_, fun h0 => ?_⟩
  · obtain ⟨b, off, e, hb, hcell⟩ := hr.2.2 h0
    obtain ⟨b', off', e', hb'⟩ := hp h0
    rw [e] at e'
    obtain ⟨rfl, rfl⟩ : b = b' ∧ off = off' := by simpa using e'
    refine ⟨b, off, e, by omega, fun i hi => ?_⟩
    rw [← hcell i hi]
    simp only [World.cell?, (hP b hb hb').2]
  · obtain ⟨b, off, e, hb, _⟩ := hr.2.2 h0
    obtain ⟨b', off', e', hb'⟩ := hp h0
    rw [e] at e'
    obtain ⟨rfl, rfl⟩ : b = b' ∧ off = off' := by simpa using e'
    exact ⟨b, off, e, (hP b hb hb').1⟩
  · obtain ⟨b, off, e, hlt, hb, ha⟩ := hk h0
    refine ⟨b, off, e, by omega, (hP b hlt hb).1, T.InPAll.of fun i hi => ?_⟩
    obtain ⟨v0, v1, v2, h0, h1, h2, h3⟩ := ha.at i hi
    refine ⟨v0, v1, v2, ?_, ?_, ?_, ih _ (List.getElem_mem hi) h3⟩
    · rw [← h0]
      simp only [World.cell?, (hP b hlt hb).2]
    · rw [← h1]
      simp only [World.cell?, (hP b hlt hb).2]
    · rw [← h2]
      simp only [World.cell?, (hP b hlt hb).2]
theorem T.InP.in {P : Nat → Prop} {w : World} (t : T) : ∀ {v : Value}, t.InP P w v → t.In w v := by
  refine T.all (p := fun t => ∀ {v : Value}, t.InP P w v → t.In w v) ?_ t
  intro tag body kids ih v h
  unfold T.InP at h
  unfold T.In
  obtain ⟨A, n, c, K, m, d, rfl, hw, hr, hn, hc, hm, hm', hp, hk⟩ := h
  refine ⟨A, n, c, K, m, d, rfl, hw, hr, hn, hc, hm, hm', fun h0 => ?_⟩
  obtain ⟨b, off, e, hlt, hb, ha⟩ := hk h0
  refine ⟨b, off, e, hlt, T.InAll.of fun i hi => ?_⟩
  obtain ⟨v0, v1, v2, h0, h1, h2, h3⟩ := ha.at i hi
  exact ⟨v0, v1, v2, h0, h1, h2, ih _ (List.getElem_mem hi) h3⟩
theorem T.InP.below {P Q : Nat → Prop} {w w' : World} (hb : Below w.heap.size w w') (hq : ∀ b, P b → Q b) (t : T) {v : Value} (h : t.InP P w v) : t.InP Q w' v :=
  T.InP.keep (fun b hlt hp => ⟨hq b hp, hb.block b hlt⟩) hb.size t h
theorem T.InP.form {P : Nat → Prop} {w : World} {t : T} {v : Value} (h : t.InP P w v) : ∃ (A : Option Addr) (n c : Nat) (K : Option Addr) (m d : Nat), v = .agg #[.int .i64 t.tag, .slice A n c, .slice K m d] := by
  obtain ⟨A, n, c, K, m, d, e, _⟩ := (T.InP.in t h).open
  exact ⟨A, n, c, K, m, d, e⟩

theorem Tryd.infoNode : (Tryd.prog.info? 28).map (fun i => (i.zero, i.size, i.bytes)) = some (some (.agg #[.int .i64 0, .slice none 0 0, .slice none 0 0]), 3, 56) := by kernel_rfl

/-- What is kept apart while elements are collected: it is behind block g, and not the collection's own. -/
def Apart (g : Nat) (V : Value) (b : Nat) : Prop := g < b ∧ V.ownBlock ≠ some b

/-- The slice V is the call's own, in memory newer than W0, and holds these elements, none of which lies in block g or in V's. -/
def NOut (W0 wr : World) (g : Nat) (V : Value) (ks : List T) : Prop :=
  Below W0.heap.size W0 wr ∧ ∃ xs : List Value, wr.ownsRow W0.heap.size 28 3 V ks.length xs ∧
    ∀ i (h : i < ks.length), ∃ v0 v1 v2 : Value, xs[i * 3]? = some v0 ∧ xs[i * 3 + 1]? = some v1 ∧ xs[i * 3 + 2]? = some v2 ∧ (ks[i]).InP (Apart g V) wr (.agg #[v0, v1, v2])
theorem NOut.start {W0 wr : World} (hb : Below W0.heap.size W0 wr) (g : Nat) : NOut W0 wr g (.slice none 0 0) [] :=
  ⟨hb, [], World.ownsRow_nil _ _ _ _, fun i h => absurd h (by simp)⟩
theorem NOut.below {W0 wr w' : World} {g : Nat} {V : Value} {ks : List T} (h : NOut W0 wr g V ks) (hb : Below wr.heap.size wr w') : NOut W0 w' g V ks := by
  obtain ⟨h1, xs, h2, h3⟩ := h
  refine ⟨Below.trans h1 (hb.mono h1.size), xs, ⟨h2.1, ?_⟩, fun i hi => ?_⟩
  · rcases h2.2 with h' | ⟨g, cap, cur, e, h1, h2, h3⟩
    · exact .inl h'
    · exact .inr ⟨g, cap, cur, e, h1, (hb.block g (Array.getElem?_eq_some_iff.1 h2).1).trans h2, h3⟩
  · obtain ⟨v0, v1, v2, e0, e1, e2, hin⟩ := h3 i hi
    exact ⟨v0, v1, v2, e0, e1, e2, T.InP.below hb (fun _ h => h) _ hin⟩
/-- A store into block g. -/
theorem NOut.store {W0 wr : World} {g : Nat} {V : Value} {ks : List T} (h : NOut W0 wr g V ks) (hg : W0.heap.size ≤ g) (hV : V.ownBlock ≠ some g) (j : Nat) (v : Value) : NOut W0 (wr.setCell ⟨g, j, none⟩ v) g V ks := by
  obtain ⟨h1, xs, h2, h3⟩ := h
  refine ⟨h1.setCell (by show W0.heap.size ≤ g; exact hg) _, xs, ⟨h2.1, ?_⟩, fun i hi => ?_⟩
  · rcases h2.2 with h' | ⟨g', cap, cur, e, h1, h2, h3⟩
    · exact .inl h'
    · refine .inr ⟨g', cap, cur, e, h1, ?_, h3⟩
      rw [← h2]
      exact heap_setCell_other wr ⟨g, j, none⟩ g' v (fun he => hV (by have he' : g' = g := he; rw [e, he']; rfl))
  · obtain ⟨v0, v1, v2, e0, e1, e2, hin⟩ := h3 i hi
    refine ⟨v0, v1, v2, e0, e1, e2, T.InP.keep (fun b hb hp => ⟨hp, ?_⟩) (by simp) _ hin⟩
    exact heap_setCell_other wr ⟨g, j, none⟩ b v (fun he => by
      have he' : b = g := he
      have := hp.1
      omega)
theorem NOut.form {W0 wr : World} {g : Nat} {V : Value} {ks : List T} (h : NOut W0 wr g V ks) : ∃ (K : Option Addr) (d : Nat), V = .slice K ks.length d := by
  obtain ⟨_, xs, h2, _⟩ := h
  rcases h2.2 with ⟨rfl, h0⟩ | ⟨g', cap, cur, e, _⟩
  · exact ⟨none, 0, by rw [h0]⟩
  · exact ⟨_, cap, e⟩

/-- One more is appended: it was laid in a new block of three cells. -/
theorem nout_append {ops : Array Oper} {rest : List Oper} {o : Oper} {a : Act} {Q : Exit → Act → World → Prop} {W0 wr : World} {g : Nat} {V : Value} {ks : List T} {t : T} {v0 v1 v2 : Value} (hgd : o.guard = none) (x y : Operand)
    (hop : o.op = .call { callee := .builtin .append, args := #[x, y], argTypes := #[26, 26] }) (hs : a.eval x = V) (hout : NOut W0 wr g V ks) (hin : t.InP (Apart g V) wr (.agg #[v0, v1, v2]))
    (H : Nat) (hH : wr.heap.size = H) (hx : a.eval y = .slice (some ⟨H, 0, none⟩) 1 1) (hl : ks.length + 1 ≤ 100000)
    (h : ∀ V' w', NOut W0 w' g V' (ks ++ [t]) → (V'.ownBlock = V.ownBlock ∨ V'.ownBlock = some (wr.heap.size + 1)) → (∀ b, b < wr.heap.size → V.ownBlock ≠ some b → w'.heap[b]? = wr.heap[b]?) → Below W0.heap.size wr w' → wpList Tryd.prog ops Q rest (a.put o.dst V') w') :
    wpList Tryd.prog ops Q (o :: rest) a (wr.alloc (.cells #[v0, v1, v2] 28)) := by
  subst hH
  obtain ⟨i0, hi5, hz0, hz1, hz2⟩ := info_parts Tryd.infoNode
  obtain ⟨hb0, xs, hown, hks⟩ := hout
  have hown2 := hown.alloc (.cells #[v0, v1, v2] 28)
  have hsz : (wr.alloc (.cells #[v0, v1, v2] 28)).heap.size = wr.heap.size + 1 := by simp
  obtain ⟨A, n, c, K, m, d, e⟩ := hin.form
  simp only [Value.agg.injEq] at e
  have e' := congrArg Array.toList e
  simp only [List.cons.injEq, and_true] at e'
  obtain ⟨rfl, rfl, rfl⟩ := e'
  refine wpList_append_own_at _ hgd x y 26 hop W0.heap.size 28 i0 _ 3 56 Tryd.underlying26 hi5 hz0 hz1 hz2 rfl (by decide) V ks.length xs hs hown2 ⟨wr.heap.size, 0, none⟩ 1 1 [.int .i64 t.tag, .slice A n c, .slice K m d] hx rfl ?_ ?_ (by unfold maxLen; omega) (by omega) (by have := hb0.size; omega) ?_
  · intro j u hu
    have e0 := heap_alloc_new wr (.cells #[.int .i64 t.tag, .slice A n c, .slice K m d] 28)
    rcases j with _ | _ | _ | j
    · obtain rfl : Value.int .i64 t.tag = u := by simpa using hu
      simp only [Addr.add_lit, World.cell?, e0]
      rfl
    · obtain rfl : Value.slice A n c = u := by simpa using hu
      simp only [Addr.add_lit, World.cell?, e0]
      rfl
    · obtain rfl : Value.slice K m d = u := by simpa using hu
      simp only [Addr.add_lit, World.cell?, e0]
      rfl
    · simp at hu
  · intro u hu
    simp only [List.mem_cons, List.mem_nil_iff, or_false] at hu
    rcases hu with rfl | rfl | rfl <;> rfl
  · intro V' w' h1 hg1 _ hat
    have hkeep : ∀ b, b < wr.heap.size → V.ownBlock ≠ some b → w'.heap[b]? = wr.heap[b]? := fun b hb hne =>
      (hg1.block b (by omega) (fun e => hne e.symm)).trans (Below.heap_alloc wr _ b hb)
    have hAp : ∀ b, b < wr.heap.size → Apart g V b → Apart g V' b ∧ w'.heap[b]? = wr.heap[b]? := by
      intro b hb hp
      refine ⟨⟨hp.1, ?_⟩, hkeep b hb hp.2⟩
      rcases hat with h' | h'
      · rw [h']
        exact hp.2
      · rw [h', hsz]
        intro e
        injection e with e
        omega
    have hsz2 : wr.heap.size ≤ w'.heap.size := by have := hg1.size; omega
    have hB : Below W0.heap.size wr w' := ((Below.refl _ _).alloc hb0.size (.cells #[.int .i64 t.tag, .slice A n c, .slice K m d] 28)).grown hg1 (by have := hb0.size; omega) (fun k hk => (hown2.lt k hk).1)
    refine h V' w' ⟨hb0.trans hB, xs ++ [.int .i64 t.tag, .slice A n c, .slice K m d], by rw [List.length_append]; exact h1, fun i hi => ?_⟩ ?_ hkeep hB
    · have hxl : xs.length = ks.length * 3 := hown.1
      rcases Nat.lt_or_ge i ks.length with hlt | hge
      · obtain ⟨u0, u1, u2, e0, e1, e2, hin'⟩ := hks i hlt
        refine ⟨u0, u1, u2, ?_, ?_, ?_, ?_⟩
        · rw [List.getElem?_append_left (by omega)]; exact e0
        · rw [List.getElem?_append_left (by omega)]; exact e1
        · rw [List.getElem?_append_left (by omega)]; exact e2
        · rw [List.getElem_append_left hlt]
          exact T.InP.keep hAp hsz2 _ hin'
      · obtain rfl : i = ks.length := by simp at hi; omega
        refine ⟨.int .i64 t.tag, .slice A n c, .slice K m d, ?_, ?_, ?_, ?_⟩
        · rw [List.getElem?_append_right (by omega), show ks.length * 3 - xs.length = 0 by omega]; rfl
        · rw [List.getElem?_append_right (by omega), show ks.length * 3 + 1 - xs.length = 1 by omega]; rfl
        · rw [List.getElem?_append_right (by omega), show ks.length * 3 + 2 - xs.length = 2 by omega]; rfl
        · rw [List.getElem_append_right (Nat.le_refl _)]
          simp only [Nat.sub_self, List.getElem_singleton]
          exact T.InP.keep hAp hsz2 _ hin
    · rw [← hsz]
      exact hat

/-- What was collected, as an element's own. -/
theorem NOut.done {W0 wr : World} {g : Nat} {V : Value} {ks : List T} (h : NOut W0 wr g V ks) (hg : W0.heap.size ≤ g) {z : Int} (hz : (Lit.int .i64 z).wf = true) : (T.node z [] ks).InP (W0.heap.size ≤ ·) wr (.agg #[.int .i64 z, .slice none 0 0, V]) := by
  obtain ⟨hb, xs, hown, hks⟩ := h
  unfold T.InP
  have hxl : xs.length = ks.length * 3 := hown.1
  rcases hown.2 with ⟨rfl, h0⟩ | ⟨g', cap, cur, rfl, h1, h2, h3, h4, h5⟩
  · have : ks = [] := List.eq_nil_of_length_eq_zero h0
    subst this
    exact ⟨none, 0, 0, none, 0, 0, rfl, hz, Row.nil _ _, Nat.zero_le _, fun _ => rfl, rfl, ⟨Nat.zero_le _, Nat.le_refl _, Nat.le_refl _⟩, fun h => absurd h (by omega), fun h => absurd h (by omega)⟩
  · refine ⟨none, 0, 0, some ⟨g', 0, none⟩, ks.length, cap, rfl, hz, Row.nil _ _, Nat.zero_le _, fun _ => rfl, rfl, ⟨Nat.le_trans h3 h4, Nat.le_refl _, h3⟩, fun h => absurd h (by omega), fun _ => ⟨g', 0, rfl, (Array.getElem?_eq_some_iff.1 h2).1, h1, T.InPAll.of fun i hi => ?_⟩⟩
    obtain ⟨u0, u1, u2, e0, e1, e2, hin'⟩ := hks i hi
    refine ⟨u0, u1, u2, ?_, ?_, ?_, T.InP.keep (fun b _ hp => ⟨by have := hp.1; omega, rfl⟩) (Nat.le_refl _) _ hin'⟩
    · rw [Nat.zero_add, hown.cellAt _ (by omega)]; exact e0
    · rw [Nat.zero_add, hown.cellAt _ (by omega)]; exact e1
    · rw [Nat.zero_add, hown.cellAt _ (by omega)]; exact e2

end Go.Proofs.YtgmefdmeeihgoaaDoor

namespace Go.Proofs.YtgmefdmeeihgoaaDoor
open Go.RowKit
set_option linter.unusedVariables false

/-- Bytes without noughts ahead. -/
def bareZ : List Int → List Int
  | [] => []
  | z :: r => if z = 0 then bareZ r else z :: r
theorem bare_drop {zs : List Int} {k : Nat} (h : k < zs.length) : bareZ (zs.drop k) = if zs[k]?.getD 0 = 0 then bareZ (zs.drop (k + 1)) else zs.drop k := by
  rw [List.drop_eq_getElem_cons h, bareZ, List.getElem?_eq_getElem h]
  rfl
theorem bare_le (zs : List Int) : (bareZ zs).length ≤ zs.length := by
  induction zs with
  | nil => exact Nat.le_refl _
  | cons z r ih =>
    rw [bareZ]
    split
    · rw [List.length_cons]; omega
    · exact Nat.le_refl _
theorem bare_mem {zs : List Int} {x : Int} (h : x ∈ bareZ zs) : x ∈ zs := by
  induction zs with
  | nil => exact h
  | cons z r ih =>
    rw [bareZ] at h
    split at h
    · exact List.mem_cons_of_mem _ (ih h)
    · exact h

theorem out_nothing {w : World} (o : Obj) : Out w ((w.alloc o).alloc (.cells #[] 5)) (.slice (some ⟨w.heap.size + 1, 0, none⟩) 0 0) [] := by
  have h := Out.made (W0 := w.alloc o) 0 (by omega)
  rw [show (w.alloc o).heap.size = w.heap.size + 1 by simp, show madeCells #[.int .u8 0] 0 = #[] by simp [madeCells]] at h
  refine ⟨⟨h.1.1, ?_⟩, Below.step (w1 := w.alloc o) ((Below.refl _ _).alloc (Nat.le_refl _) _) ((Below.refl _ _).alloc (Nat.le_refl _) _)⟩
  rcases h.1.2 with h' | ⟨g, cap, cur, e, h1, h2, h3⟩
  · exact .inl h'
  · exact .inr ⟨g, cap, cur, e, by simp at h1; omega, h2, h3⟩

end Go.Proofs.YtgmefdmeeihgoaaDoor

namespace Go.Proofs.YtgmefdmeeihgoaaDoor
open Go.RowKit

mutual
def weighT : T → Nat → Int
  | .node _ body kids, deep => if 60 < deep then 30000 else weighAll kids deep (1 + (if (body.length : Int) < 30000 then (body.length : Int) else 30000))
def weighAll : List T → Nat → Int → Int
  | [], _, a => a
  | t :: r, deep, a => if a < 30000 then weighAll r deep (a + weighT t (deep + 1)) else a
end
theorem weighT_eq (t : T) (deep : Nat) : weighT t deep = if 60 < deep then 30000 else weighAll t.kids deep (1 + (if (t.body.length : Int) < 30000 then (t.body.length : Int) else 30000)) := by
  obtain ⟨tag, body, kids⟩ := t
  rw [weighT]
  rfl
theorem weigh_ge (t : T) : ∀ deep, 0 ≤ weighT t deep := by
  refine T.all (p := fun t => ∀ deep, 0 ≤ weighT t deep) ?_ t
  intro tag body kids ih deep
  have key : ∀ (ks : List T), (∀ k ∈ ks, ∀ deep, 0 ≤ weighT k deep) → ∀ a : Int, 0 ≤ a → 0 ≤ weighAll ks deep a := by
    intro ks
    induction ks with
    | nil => intro _ a ha; rw [weighAll]; exact ha
    | cons k r ihr =>
      intro hk a ha
      rw [weighAll]
      split
      · exact ihr (fun x hx => hk x (by simp [hx])) _ (by have := hk k (by simp) (deep + 1); omega)
      · exact ha
  rw [weighT]
  split
  · omega
  · exact key kids ih _ (by split <;> omega)
theorem weigh_le (t : T) : ∀ deep, deep ≤ 61 → weighT t deep ≤ 30001 * (62 - deep) := by
  refine T.all (p := fun t => ∀ deep, deep ≤ 61 → weighT t deep ≤ 30001 * (62 - deep)) ?_ t
  intro tag body kids ih deep hd
  rw [weighT]
  by_cases h : 60 < deep
  · rw [if_pos h]
    omega
  rw [if_neg h]
  have key : ∀ (ks : List T), (∀ k ∈ ks, ∀ deep : Nat, deep ≤ 61 → weighT k deep ≤ 30001 * (62 - deep)) → ∀ a : Int, a ≤ 30001 * (62 - deep) → weighAll ks deep a ≤ 30001 * (62 - deep) := by
    intro ks
    induction ks with
    | nil => intro _ a ha; rw [weighAll]; exact ha
    | cons k r ihr =>
      intro hk a ha
      rw [weighAll]
      split
      · refine ihr (fun x hx => hk x (by simp [hx])) _ ?_
        have := hk k (by simp) (deep + 1) (by omega)
        omega
      · exact ha
  exact key kids ih _ (by split <;> omega)

theorem weigh_kid {ks : List T} {i : Nat} {k : T} (h : ks[i]? = some k) (deep : Nat) (a : Int) : weighAll (ks.drop i) deep a = if a < 30000 then weighAll (ks.drop (i + 1)) deep (a + weighT k (deep + 1)) else a := by
  obtain ⟨hi, rfl⟩ := List.getElem?_eq_some_iff.1 h
  rw [List.drop_eq_getElem_cons hi, weighAll]
theorem weigh_end {ks : List T} {i : Nat} (h : ks.length ≤ i) (deep : Nat) (a : Int) : weighAll (ks.drop i) deep a = a := by
  rw [List.drop_of_length_le h, weighAll]
theorem weigh_stop (ks : List T) (deep : Nat) (a : Int) (h : ¬ a < 30000) : weighAll ks deep a = a := by
  cases ks with
  | nil => rw [weighAll]
  | cons k r => rw [weighAll, if_neg h]

theorem ret_int {k : IntKind} {a b : Int} (h : a = b) : Ending.returned (.int k a) = .returned (.int k b) := by rw [h]

theorem weigh_start {t : T} {deep n : Nat} (hn : t.body.length = n) (h : ¬ 60 < deep) (X : Int) (hX : (X = 1 + n ∧ (n : Int) ≤ 30000) ∨ (X = 30001 ∧ 30000 ≤ (n : Int))) : weighAll (t.kids.drop 0) deep X = weighT t deep := by
  have e : X = 1 + (if (t.body.length : Int) < 30000 then (t.body.length : Int) else 30000) := by
    rw [hn]
    split <;> omega
  rw [weighT_eq, if_neg h, List.drop_zero, ← e]
theorem weigh_bound (t : T) (deep : Nat) (h : deep ≤ 61) : 0 ≤ weighT t deep ∧ weighT t deep ≤ 30001 * (62 - deep) := ⟨weigh_ge t deep, weigh_le t deep h⟩

set_option maxHeartbeats 2000000 in
theorem weigh_any (t : T) : ∀ (v : Value) (deep : Nat) (w : World), t.In w v → deep ≤ 61 →
    Calls Tryd.prog 15 #[v, .int .i64 (deep : Int)] w fun e w' => e = .returned (.int .i64 (weighT t deep)) ∧ Below w.heap.size w w' := by
  refine T.each (p := fun t => ∀ (v : Value) (deep : Nat) (w : World), t.In w v → deep ≤ 61 → Calls Tryd.prog 15 #[v, .int .i64 (deep : Int)] w fun e w' => e = .returned (.int .i64 (weighT t deep)) ∧ Below w.heap.size w w') ?_ t
  clear t
  intro t ih v deep w hin hd
  obtain ⟨A, n, c, K, m, d, rfl, hw, hr, hn, hc, hm, hm', hks⟩ := hin.open
  have BX := Lib.hid (Box.start hin)
  have IH := Lib.hid ih
  have WT := Lib.hid (weighT_eq t deep)
  have HM := Lib.hid hm
  have BL := Lib.hid hr.1
  clear hin ih hw hr hc hm hks
  unfold maxLen at hn hm'
  by_cases h60 : 60 < deep
  · go_enter Tryd.func15, Tryd.ntmps15
    go_wp2_with fail
    go_ret
    exact ⟨ret_int (by rw [WT.out, if_pos h60]), (Below.refl _ _).alloc (Nat.le_refl _) _⟩
  go_enter Tryd.func15, Tryd.ntmps15
  go_wp2_with fail
  all_goals
    go_loopw [5, 6] (fun a i wr => ∃ (k : Nat) (z : Int), k ≤ m ∧ i = .int .i64 (k : Int) ∧ a = .int .i64 z ∧ 0 ≤ z ∧ z ≤ 30001 * (62 - deep) ∧ weighAll (t.kids.drop k) deep z = weighT t deep ∧ Box w wr w.heap.size t A n c K m d) (fun _ i _ => m - (intOf i).toNat)
    case atStart =>
      exact ⟨0, _, by omega, rfl, rfl, by omega, by omega, weigh_start BL.out h60 _ (by omega), BX.out⟩
    case round =>
      obtain ⟨k, z, hk, rfl, rfl, hz0, hz1, hw, hbox⟩ := hrel
      have HW := Lib.hid hw
      have HB := Lib.hid hbox
      obtain ⟨g0, g1, g2⟩ := hbox.cells
      clear hw hbox
      by_cases hlt : k < m
      · by_cases hzz : z < 30000
        · obtain ⟨x, b, off, zz, A', n', c', K', m', d', hx, rfl, c0, c1, c2, hxin⟩ := HB.out.kid k hlt
          have ST := Lib.hid ((weigh_kid hx deep z).symm.trans HW.out)
          have hbd := weigh_bound x (deep + 1) (by omega)
          have CI := Lib.hid (IH.out x (List.mem_of_getElem? hx) _ (deep + 1) wr hxin (by omega))
          clear hx hxin
          go_wp2_with (go_at_call 15; refine (CI.out).mono ?_; rintro e w2 ⟨rfl, hb2⟩; have HB2 := Lib.hid (HB.out.go hb2); clear hb2)
          go_roundw
          case rel => exact ⟨k + 1, _, by omega, by go_num, rfl, by omega, by omega, by rw [if_pos hzz] at ST; exact ST.out, HB2.out⟩
          case measure => simp [intOf]; omega
        · have E := Lib.hid ((weigh_stop _ deep z hzz).symm.trans HW.out)
          clear HW
          go_wp2_with fail
          go_ret
          exact ⟨ret_int E.out, HB.out.below⟩
      · have E := Lib.hid ((weigh_end (ks := t.kids) (i := k) (by rw [HM.out]; omega) deep z).symm.trans HW.out)
        clear HW
        go_wp2_with fail
        go_ret
        exact ⟨ret_int E.out, HB.out.below⟩

def lightT (t : T) : Bool := decide (weighT t 0 < 30000)
set_option maxHeartbeats 1000000 in
theorem light_any (t : T) (v : Value) (w : World) (hin : t.In w v) : Calls Tryd.prog 7 #[v] w fun e w' => e = .returned (.bool (lightT t)) ∧ Below w.heap.size w w' := by
  obtain ⟨A, n, c, K, m, d, rfl, _⟩ := hin.open
  have BX := Lib.hid (Box.start hin)
  clear hin
  go_enter Tryd.func7, Tryd.ntmps7
  go_wp2_with fail
  refine (weigh_any t _ 0 _ BX.out.has (by omega)).mono ?_
  rintro e w2 ⟨rfl, hb2⟩
  have B2 := Lib.hid (Below.step BX.out.below hb2)
  clear hb2 BX
  go_wp2_with fail
  go_ret
  exact ⟨rfl, B2.out⟩

end Go.Proofs.YtgmefdmeeihgoaaDoor

namespace Go.Proofs.YtgmefdmeeihgoaaDoor
open Go.RowKit

mutual
def sameT : T → T → Bool
  | .node t b ks, y => (t == y.tag) && ((b == y.body) && ((ks.length == y.kids.length) && sameAll ks y.kids))
def sameAll : List T → List T → Bool
  | [], _ => true
  | _ :: _, [] => true
  | x :: r, y :: q => sameT x y && sameAll r q
end
theorem sameT_eq (x y : T) : sameT x y = ((x.tag == y.tag) && ((x.body == y.body) && ((x.kids.length == y.kids.length) && sameAll x.kids y.kids))) := by
  obtain ⟨t, b, ks⟩ := x
  rw [sameT]
  rfl
theorem same_refl (x : T) : sameT x x = true := by
  refine T.each (p := fun x => sameT x x = true) ?_ x
  intro x ih
  have key : ∀ ks : List T, (∀ k ∈ ks, sameT k k = true) → sameAll ks ks = true := by
    intro ks
    induction ks with
    | nil => intro _; rw [sameAll]
    | cons k r ihr =>
      intro h
      rw [sameAll, h k (by simp), ihr (fun x hx => h x (by simp [hx]))]
      rfl
  rw [sameT_eq, key x.kids ih]
  simp
theorem same_is (x : T) : ∀ y, sameT x y = true → x = y := by
  refine T.each (p := fun x => ∀ y, sameT x y = true → x = y) ?_ x
  intro x ih y h
  have key : ∀ ks ys : List T, (∀ k ∈ ks, ∀ y, sameT k y = true → k = y) → ks.length = ys.length → sameAll ks ys = true → ks = ys := by
    intro ks
    induction ks with
    | nil => intro ys _ hl _; exact (List.eq_nil_of_length_eq_zero (by simpa using hl.symm)).symm
    | cons k r ihr =>
      intro ys hk hl h
      cases ys with
      | nil => simp at hl
      | cons y q =>
        rw [sameAll, Bool.and_eq_true] at h
        rw [hk k (by simp) y h.1, ihr q (fun x hx => hk x (by simp [hx])) (by simpa using hl) h.2]
  rw [sameT_eq, Bool.and_eq_true, Bool.and_eq_true, Bool.and_eq_true] at h
  obtain ⟨h1, h2, h3, h4⟩ := h
  have h5 := key x.kids y.kids ih (by simpa using h3) h4
  obtain ⟨t, b, ks⟩ := x
  obtain ⟨t', b', ks'⟩ := y
  simp only [T.tag, T.body, T.kids, beq_iff_eq] at h1 h2 h5
  rw [h1, h2, h5]
theorem same_drop {xs ys : List T} {i : Nat} {x y : T} (hx : xs[i]? = some x) (hy : ys[i]? = some y) : sameAll (xs.drop i) (ys.drop i) = (sameT x y && sameAll (xs.drop (i + 1)) (ys.drop (i + 1))) := by
  obtain ⟨h1, rfl⟩ := List.getElem?_eq_some_iff.1 hx
  obtain ⟨h2, rfl⟩ := List.getElem?_eq_some_iff.1 hy
  rw [List.drop_eq_getElem_cons h1, List.drop_eq_getElem_cons h2, sameAll]
theorem same_end {xs : List T} {i : Nat} (h : xs.length ≤ i) (ys : List T) : sameAll (xs.drop i) ys = true := by
  rw [List.drop_of_length_le h, sameAll]

theorem str_ne {x y : ByteArray} (h : ¬ x = y) : (x.toList == y.toList) = false := by
  rw [beq_eq_false_iff_ne]
  intro e
  rw [Lib.toList_data, Lib.toList_data] at e
  obtain ⟨⟨x⟩⟩ := x
  obtain ⟨⟨y⟩⟩ := y
  exact h (by rw [show x = y from e])
theorem strs_test {xs ys : List Int} (hx : ∀ z ∈ xs, 0 ≤ z ∧ z ≤ 255) (hy : ∀ z ∈ ys, 0 ≤ z ∧ z ≤ 255) : ((strOfNums xs).toList == (strOfNums ys).toList) = (xs == ys) := by
  by_cases h : xs = ys
  · subst h
    simp
  · rw [str_ne (fun e => h (by rw [← nums_str xs hx, ← nums_str ys hy, e]))]
    exact (beq_eq_false_iff_ne.2 h).symm

theorem Box.later {w wr : World} {g : Nat} {t : T} {A : Option Addr} {n c : Nat} {K : Option Addr} {m d : Nat} (h : Box w wr g t A n c K m d) : ∀ W, Ext wr.drew W → W.cell? ⟨g, 2, none⟩ = some (.slice K m d) :=
  fun _ hW => (hW.cell (p := ⟨g, 2, none⟩) h.blk.lt).trans (h.blk.cell 2)

theorem Box.wider {w wr : World} {o : Obj} {t : T} {A : Option Addr} {n c : Nat} {K : Option Addr} {m d : Nat} (h : Box (w.alloc o) wr (w.alloc o).heap.size t A n c K m d) : Box w wr (w.heap.size + 1) t A n c K m d := by
  have e : (w.alloc o).heap.size = w.heap.size + 1 := by simp
  exact ⟨by omega, e ▸ h.blk, (((Below.refl _ _).alloc (Nat.le_refl _) o : Below w.heap.size w (w.alloc o))).trans (h.below.mono (by omega)), h.has⟩

set_option maxHeartbeats 4000000 in
theorem same_any (x : T) : ∀ (y : T) (u v : Value) (w : World), x.In w u → y.In w v →
    Calls Tryd.prog 11 #[u, v] w fun e w' => e = .returned (.bool (sameT x y)) ∧ Below w.heap.size w w' := by
  refine T.each (p := fun x => ∀ (y : T) (u v : Value) (w : World), x.In w u → y.In w v → Calls Tryd.prog 11 #[u, v] w fun e w' => e = .returned (.bool (sameT x y)) ∧ Below w.heap.size w w') ?_ x
  clear x
  intro x ih y u v w hx hy
  obtain ⟨A, n, c, K, m, d, rfl, wx, rx, hn, hc, hm, hm', hks⟩ := hx.open
  obtain ⟨A2, n2, c2, K2, m2, d2, rfl, wy, ry, hn2, hc2, hk2, hm2, hks2⟩ := hy.open
  have IH := Lib.hid ih
  have BX := Lib.hid ((Box.start hx).go ((Below.refl _ _).alloc (Nat.le_refl _) (.cells #[.int .i64 y.tag, .slice A2 n2 c2, .slice K2 m2 d2] 28)))
  have BY := Lib.hid (Box.start (w := w.alloc (.cells #[.int .i64 x.tag, .slice A n c, .slice K m d] 28)) (T.In.below ((Below.refl _ _).alloc (Nat.le_refl _) _) y hy))
  have B2 : Hid (Below w.heap.size w ((w.alloc (.cells #[.int .i64 x.tag, .slice A n c, .slice K m d] 28)).alloc (.cells #[.int .i64 y.tag, .slice A2 n2 c2, .slice K2 m2 d2] 28))) := ((Below.refl _ _).alloc (Nat.le_refl _) _).alloc (by simp) _
  have SE := Lib.hid (sameT_eq x y)
  have HM := Lib.hid hm
  have HM2 := Lib.hid hk2
  unfold maxLen at hm' hm2 hn hn2
  clear hks hks2 hc hc2 ih
  by_cases e1 : x.tag = y.tag
  rotate_left
  · have t1 : (x.tag != y.tag) = true := by simpa using e1
    have F : Hid (sameT x y = false) := by rw [SE.out]; simp [e1, Hid]
    clear hm hk2 e1
    go_enter Tryd.func11, Tryd.ntmps11
    go_wp2_with fail
    go_ret
    exact ⟨ret_bool F.out.symm, B2.out⟩
  have E1 := Lib.hid e1
  have t1 : (x.tag != y.tag) = false := by simpa using e1
  have kx := conv_at c ((rx.below (w' := w.alloc (.cells #[.int .i64 x.tag, .slice A n c, .slice K m d] 28)) ((Below.refl _ _).alloc (Nat.le_refl _) _)).below ((Below.refl _ _).alloc (Nat.le_refl _) (.cells #[.int .i64 y.tag, .slice A2 n2 c2, .slice K2 m2 d2] 28)))
  have ky := conv_at c2 ((ry.below (w' := w.alloc (.cells #[.int .i64 x.tag, .slice A n c, .slice K m d] 28)) ((Below.refl _ _).alloc (Nat.le_refl _) _)).below ((Below.refl _ _).alloc (Nat.le_refl _) (.cells #[.int .i64 y.tag, .slice A2 n2 c2, .slice K2 m2 d2] 28)))
  have ts := strs_test rx.2.1 ry.2.1
  by_cases e2 : x.body = y.body
  rotate_left
  · have F : Hid (sameT x y = false) := by rw [SE.out]; simp [e2, Hid]
    have t2 : (x.body == y.body) = false := by simpa using e2
    rw [t2] at ts
    clear hm hk2 e1 e2 t2
    go_enter Tryd.func11, Tryd.ntmps11
    go_wp2_with fail
    go_ret
    exact ⟨ret_bool F.out.symm, B2.out⟩
  have E2 := Lib.hid e2
  have t2 : (x.body == y.body) = true := by simpa using e2
  rw [t2] at ts
  clear t2 e1 e2
  by_cases e3 : m = m2
  rotate_left
  · have F : Hid (sameT x y = false) := by rw [SE.out]; simp [HM.out, HM2.out, e3, Hid]
    have t3 : ((m : Int) != (m2 : Int)) = true := by simp; omega
    clear hm hk2 e3
    go_enter Tryd.func11, Tryd.ntmps11
    go_wp2_with fail
    go_ret
    exact ⟨ret_bool F.out.symm, B2.out⟩
  subst e3
  have SA : Hid (sameT x y = sameAll x.kids y.kids) := by rw [SE.out]; simp [HM.out, HM2.out, E1.out, E2.out, Hid]
  clear hm hk2 SE E1 E2
  go_enter Tryd.func11, Tryd.ntmps11
  go_wp2_with fail
  clear kx ky ts
  go_loopw [5] (fun i wr => ∃ k : Nat, k ≤ m ∧ i = .int .i64 (k : Int) ∧ sameT x y = sameAll (x.kids.drop k) (y.kids.drop k) ∧ Box w wr w.heap.size x A n c K m d ∧ Box w wr (w.heap.size + 1) y A2 n2 c2 K2 m d2) (fun i _ => m - (intOf i).toNat)
  case atStart => exact ⟨0, by omega, rfl, SA.out, BX.out, Box.wider BY.out⟩
  case round =>
    obtain ⟨k, hk, rfl, hs, hbx, hby⟩ := hrel
    have HS := Lib.hid hs
    have HX := Lib.hid hbx
    have HY := Lib.hid hby
    have gx := hbx.cells.2.2
    have gy := hby.cells.2.2
    clear hs hbx hby SA BX BY B2
    by_cases hlt : k < m
    · obtain ⟨p, b, off, z, A', n', c', K', m', d', hp, rfl, p0, p1, p2, hpin⟩ := HX.out.kid k hlt
      obtain ⟨q, b2, off2, z2, A2', n2', c2', K2', m2', d2', hq, rfl, q0, q1, q2, hqin⟩ := HY.out.kid k hlt
      have ST := Lib.hid (HS.out.trans (same_drop hp hq))
      have lx := HX.out.later
      have ly := HY.out.later
      have l0 := cell_later p0
      have l1 := cell_later p1
      have l2 := cell_later p2
      have r0 := cell_later q0
      have r1 := cell_later q1
      have r2 := cell_later q2
      have CI := Lib.hid (fun W (hW : Ext wr.drew W) => IH.out p (List.mem_of_getElem? hp) q _ _ W (T.In.below (Ext.of_drew hW) p hpin) (T.In.below (Ext.of_drew hW) q hqin))
      clear HS hp hq hpin hqin p0 p1 p2 q0 q1 q2 IH
      go_wp2_with fail
      clear gx gy
      refine wp_region_ord Ext Ext.refl (fun _ _ _ => Ext.trans) ((0, false) :: (1, false) :: (2, false) :: (3, false) :: (4, false) :: (5, false) :: (6, false) :: (7, false) :: (8, false) :: (9, false) :: (10, true) :: (11, false) :: []) (by kernel_rfl) (by kernel_rfl) rfl (by kernel_rfl) (fun _ _ _ _ _ h => h) ?_
      repeat (refine ord_take _ rfl (by rfl) (fun W hW => by go_simp; first | done | rfl) ?_; simp only [Act.put, List.setIfInBounds_toArray, List.set_cons_zero, List.set_cons_succ])
      clear lx ly l0 l1 l2 r0 r1 r2
      refine ord_sole rfl (by rfl) (fun K1 hK1 => ?_)
      go_simp
      refine (CI.out _ (Ext.refl _)).mono ?_
      rintro e v1 ⟨rfl, hb1⟩
      refine hK1 _ _ hb1 ?_
      clear hK1 K1
      have B1 := Lib.hid (Ext.of_drew hb1)
      clear hb1 CI
      cases hsame : sameT p q
      · have F : Hid (sameT x y = false) := by rw [ST.out, hsame]; rfl
        have BB := Lib.hid (Below.step HX.out.below B1.out)
        clear hsame ST HX HY
        repeat (refine ord_take _ rfl (by rfl) (fun W hW => by go_simp; first | done | rfl) ?_; simp only [Act.put, List.setIfInBounds_toArray, List.set_cons_zero, List.set_cons_succ])
        refine ord_end ?_
        go_wp2_with fail
        go_ret
        exact ⟨ret_bool F.out.symm, BB.out⟩
      · have N : Hid (sameT x y = sameAll (x.kids.drop (k + 1)) (y.kids.drop (k + 1))) := by rw [ST.out, hsame]; simp [Hid]
        clear hsame ST
        have HX2 := Lib.hid (HX.out.go B1.out)
        have HY2 := Lib.hid (HY.out.go B1.out)
        clear HX HY B1
        repeat (refine ord_take _ rfl (by rfl) (fun W hW => by go_simp; first | done | rfl) ?_; simp only [Act.put, List.setIfInBounds_toArray, List.set_cons_zero, List.set_cons_succ])
        refine ord_end ?_
        go_wp2_with fail
        go_roundw
        case rel => exact ⟨k + 1, by omega, by go_num, N.out, HX2.out, HY2.out⟩
        case measure => simp [intOf]; omega
    · have F : Hid (sameT x y = true) := by rw [HS.out, same_end (by rw [HM.out]; omega)]; exact Lib.hid rfl
      clear HS
      go_wp2_with fail
      go_ret
      exact ⟨ret_bool F.out.symm, HX.out.below⟩

end Go.Proofs.YtgmefdmeeihgoaaDoor

namespace Go.Proofs.YtgmefdmeeihgoaaDoor
open Go.RowKit

def B56 : Int := 72057594037927936

/-- Num's answer, from a number on. -/
def numZ : Int → List Int → Int × Bool
  | n, [] => (n, true)
  | n, x :: xs => if B56 ≤ n then (0, false) else numZ (n * 256 + x) xs

theorem numZ_drop {zs : List Int} {k : Nat} (s : Int) (h : k < zs.length) : numZ s (zs.drop k) = if B56 ≤ s then (0, false) else numZ (s * 256 + zs[k]?.getD 0) (zs.drop (k + 1)) := by
  rw [List.drop_eq_getElem_cons h, numZ]
  simp [List.getElem?_eq_getElem h]

theorem num_step {zs : List Int} {k : Nat} {s x : Int} (h : k < zs.length) (hx : x = zs[k]?.getD 0) (he : numZ s (zs.drop k) = numZ 0 zs) :
    (B56 ≤ s → numZ 0 zs = (0, false)) ∧ (s < B56 → numZ (s * 256 + x) (zs.drop (k + 1)) = numZ 0 zs) := by
  rw [numZ_drop s h, ← hx] at he
  refine ⟨fun hs => ?_, fun hs => ?_⟩
  · rw [← he, if_pos hs]
  · rw [if_neg (by omega)] at he
    exact he

theorem num_end {zs : List Int} {k : Nat} {s : Int} (h : zs.length ≤ k) (he : numZ s (zs.drop k) = numZ 0 zs) : numZ 0 zs = (s, true) := by
  rw [← he, List.drop_of_length_le h, numZ]

theorem top_set {s : Int} (h : (s / 72057594037927936 != 0) = true) (h0 : 0 ≤ s) : B56 ≤ s := by
  simp at h
  unfold B56
  omega
theorem top_clear {s : Int} (h : (s / 72057594037927936 != 0) = false) : s < B56 := by
  simp at h
  unfold B56
  omega

theorem or8 {s x : Int} (h0 : 0 ≤ s) (h : s < B56) (x0 : 0 ≤ x) (x1 : x ≤ 255) : bits .or .u64 (IntKind.u64.wrap (s * 256)) x = s * 256 + x := by
  unfold B56 at h
  have hw : ∀ n : Int, 0 ≤ n → n < 2 ^ 64 → IntKind.u64.wrap n = n := by
    intro n h0 h1
    rw [IntKind.wrap_u64]
    omega
  rw [hw _ (by omega) (by omega)]
  exact bits_join .u64 64 (by decide) hw 8 _ _ (by omega) (by omega) (by omega) x0 (by omega) (by omega)

theorem ret_num {zs : List Int} {n : Int} {b : Bool} (h : numZ 0 zs = (n, b)) : Ending.returned (.tuple #[.int .u64 n, .bool b]) = .returned (.tuple #[.int .u64 (numZ 0 zs).1, .bool (numZ 0 zs).2]) := by rw [h]

set_option maxHeartbeats 400000 in
theorem num_any (a : Option Addr) (n ca : Nat) (zs : List Int) (w : World) (hx : Row w a n zs) (hn : n ≤ 1000000) :
    Calls Tryd.prog 61 #[.slice a n ca] w fun e w' => e = .returned (.tuple #[.int .u64 (numZ 0 zs).1, .bool (numZ 0 zs).2]) ∧ w' = w := by
  have HX := Lib.hid hx
  clear hx
  go_enter Tryd.func61, Tryd.ntmps61
  go_wp2
  go_loop [4, 8] (fun t i => ∃ k : Nat, ∃ s : Int, k ≤ n ∧ 0 ≤ s ∧ s ≤ 18446744073709551615 ∧ i = .int .i64 k ∧ t = .int .u64 s ∧ numZ s (zs.drop k) = numZ 0 zs) (fun _ i => n - (intOf i).toNat)
  case atStart => exact ⟨0, 0, Nat.zero_le _, by omega, by omega, rfl, rfl, rfl⟩
  case round =>
    obtain ⟨k, s, hk, hs0, hs1, rfl, rfl, he⟩ := hrel
    have HE := Lib.hid he
    clear he
    by_cases hlt : k < n
    · obtain ⟨b1, o1, rfl, hb1, hc1⟩ := HX.out.2.2 (by omega)
      have c1 := hc1 k hlt
      clear hc1
      have bx := HX.out.byte k
      have ST := Lib.hid (num_step (by rw [HX.out.1]; exact hlt) rfl HE.out)
      generalize zs[k]?.getD 0 = x at c1 bx ST
      go_wp2
      · go_ret2
        exact ⟨ret_num (ST.out.1 (top_set (by assumption) hs0)), rfl⟩
      · have ht : s < B56 := top_clear (by assumption)
        go_round
        case rel => exact ⟨k + 1, _, by omega, by omega, by unfold B56 at ht; omega, by go_num, by rw [or8 hs0 ht bx.1 bx.2], ST.out.2 ht⟩
        case measure => simp [intOf]; omega
    · go_wp2
      go_ret2
      exact ⟨ret_num (num_end (by rw [HX.out.1]; omega) HE.out), rfl⟩

end Go.Proofs.YtgmefdmeeihgoaaDoor
