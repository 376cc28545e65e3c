/-
  A row of bytes that the call itself made and appends to; texts as numbers. Nothing of the program is named here but the types of byte, []byte and string.
-/
import Derived.Test.YtppdnejkbdnlcaaRows
import Derived.Test.YtppdnejkbdnlcaaMath
import Derived.WalkKit
import Derived.WalkSpells
import Derived.WalkLawsBesides
import Derived.Lib.Hide
import Derived.Laws.AppendOwn
import Derived.Laws.OwnMore
import Derived.OwnWalk
import Derived.Laws.MakeOwn
import Derived.Laws.AppendOwnNone
namespace Go.Proofs.Ytppdnejkbdnlcaa
open Go.RowKit

theorem Try.infoByte : (Try.prog.info? 5).map (fun i => (i.zero, i.size, i.bytes)) = some (some (.int .u8 0), 1, 1) := by kernel_rfl

/-- The slice V is the call's own, in memory newer than W0, and reads as the bytes L. -/
def Out (W0 wr : World) (V : Value) (L : List Int) : Prop := wr.ownsRow W0.heap.size 5 1 V L.length (L.map (Value.int .u8)) ∧ Below W0.heap.size W0 wr

theorem Out.below {W0 wr w' : World} {V : Value} {L : List Int} (h : Out W0 wr V L) (hb : Below wr.heap.size wr w') : Out W0 w' V L := by
  refine ⟨⟨h.1.1, ?_⟩, h.2.trans (hb.mono h.2.size)⟩
  rcases h.1.2 with h' | ⟨g, cap, cur, e, h1, h2, h3⟩
  · exact .inl h'
  · exact .inr ⟨g, cap, cur, e, h1, (hb.block g (Array.getElem?_eq_some_iff.1 h2).1).trans h2, h3⟩

theorem Out.app {W0 wr w1 : World} {V V' : Value} {L : List Int} {x : Int} {o : Obj} (h : Out W0 wr V L) (h1 : w1.ownsRow W0.heap.size 5 1 V' (L.length + 1) (L.map (Value.int .u8) ++ [.int .u8 x])) (hg : (wr.alloc o).grownBy w1 V.ownBlock) : Out W0 w1 V' (L ++ [x]) := by
  refine ⟨by rw [List.length_append, List.map_append]; exact h1, ?_⟩
  exact (h.2.alloc h.2.size o).grown hg (by have := h.2.size; simp; omega) (fun k hk => (h.1.lt k hk).1)

theorem Out.row {W0 wr : World} {V : Value} {L : List Int} (h : Out W0 wr V L) (hL : ∀ x ∈ L, 0 ≤ x ∧ x ≤ 255) : ∃ a c, V = .slice a L.length c ∧ Row wr a L.length L := by
  rcases h.1.2 with ⟨rfl, h0⟩ | ⟨g, cap, cur, rfl, _⟩
  · have : L = [] := List.eq_nil_of_length_eq_zero h0
    subst this
    exact ⟨none, 0, rfl, Row.nil _ _⟩
  · exact ⟨_, cap, rfl, Row.of_own h.1 hL⟩

theorem Out.made {W0 : World} (c : Nat) (hc : c ≤ 1000000) : Out W0 (W0.alloc (.cells (madeCells #[.int .u8 0] c) 5)) (.slice (some ⟨W0.heap.size, 0, none⟩) 0 c) [] :=
  ⟨World.ownsRow_made W0 _ c (Nat.le_refl _) (by unfold maxLen; omega) (by rw [size_madeCells]; simp), (Below.refl _ _).alloc (Nat.le_refl _) _⟩


/-- The first k of them. -/
theorem Row.first {w : World} {a : Option Addr} {n : Nat} {zs : List Int} (h : Row w a n zs) (k : Nat) (hk : k ≤ n) : Row w a k (zs.take k) := by
  have hl := h.1
  refine ⟨by rw [List.length_take]; omega, fun x hx => h.2.1 x (List.mem_of_mem_take hx), fun h0 => ?_⟩
  obtain ⟨b, off, e, hb, hc⟩ := h.2.2 (by omega)
  exact ⟨b, off, e, hb, fun i hi => by rw [hc i (by omega), List.getElem?_take, if_pos hi]⟩

theorem Row.cells {w : World} {ad : Addr} {n : Nat} {zs : List Int} (h : Row w (some ad) n zs) : ∀ j u, (zs.map (Value.int .u8))[j]? = some u → w.cell? (ad.add j) = some u := by
  intro j u hu
  rw [List.getElem?_map] at hu
  rcases Nat.lt_or_ge j zs.length with hl | hl
  · have hn := h.1
    obtain ⟨b, off, e, _, hc⟩ := h.2.2 (by omega)
    injection e with e
    subst e
    rw [Addr.add_lit, hc j (by omega)]
    rw [List.getElem?_eq_getElem hl] at hu ⊢
    simpa using hu
  · rw [List.getElem?_eq_none hl] at hu
    cases hu


theorem Out.alloc {W0 wr : World} {V : Value} {L : List Int} (h : Out W0 wr V L) (o : Obj) : Out W0 (wr.alloc o) V L := h.below ((Below.refl _ _).alloc (Nat.le_refl _) o)

theorem Out.nilc {W0 wr : World} {a : Option Addr} {n c : Nat} {L : List Int} (h : Out W0 wr (.slice a n c) L) : a = none → c = 0 := by
  intro e
  subst e
  rcases h.1.2 with ⟨e, _⟩ | ⟨g, cap, cur, e, _⟩
  · injection e
  · cases e

/-- A new slice of one byte. -/
theorem out_one (w : World) (z : Int) : Out w (w.alloc (.cells #[.int .u8 z] 5)) (.slice (some ⟨w.heap.size, 0, none⟩) 1 1) [z] :=
  ⟨⟨rfl, .inr ⟨w.heap.size, 1, #[.int .u8 z], rfl, Nat.le_refl _, heap_alloc_new w _, Nat.le_refl _, by unfold maxLen; omega, rfl, rfl⟩⟩, (Below.refl _ _).alloc (Nat.le_refl _) _⟩
/-- A row of the call's own: where it lies. -/
theorem Out.form {W0 wr : World} {V : Value} {L : List Int} (h : Out W0 wr V L) (h0 : 0 < L.length) : ∃ g cap, V = .slice (some ⟨g, 0, none⟩) L.length cap ∧ W0.heap.size ≤ g := by
  rcases h.1.2 with ⟨_, e⟩ | ⟨g, cap, cur, e, hb, _⟩
  · omega
  · exact ⟨g, cap, e, hb⟩
theorem Out.cell {W0 wr : World} {g cap n : Nat} {L : List Int} (h : Out W0 wr (.slice (some ⟨g, 0, none⟩) n cap) L) (j : Nat) (hj : j < L.length) : wr.cell? ⟨g, j, none⟩ = some (.int .u8 (L[j]?.getD 0)) ∧ wr.frozen? ⟨g, j, none⟩ = false := by
  have hn : n = L.length := by
    rcases h.1.2 with ⟨e, _⟩ | ⟨g, cap, cur, e, hb, _⟩
    · cases e
    · injection e
  subst hn
  refine ⟨?_, h.1.frozenAt j⟩
  rw [h.1.cellAt j (by omega), List.getElem?_map, List.getElem?_eq_getElem hj]
  rfl
theorem Out.set {W0 wr : World} {g cap n : Nat} {L : List Int} (h : Out W0 wr (.slice (some ⟨g, 0, none⟩) n cap) L) (hg : W0.heap.size ≤ g) (j : Nat) (x : Int) : Out W0 (wr.setCell ⟨g, j, none⟩ (.int .u8 x)) (.slice (some ⟨g, 0, none⟩) n cap) (L.set j x) := by
  have hn : n = L.length := by
    rcases h.1.2 with ⟨e, _⟩ | ⟨g, cap, cur, e, hb, _⟩
    · cases e
    · injection e
  subst hn
  refine ⟨?_, h.2.setCell hg _⟩
  have := (h.1.stored j (.int .u8 x)).1
  rw [List.length_set, List.map_set]
  exact this

theorem own_cap {w : World} {base n cap m : Nat} {a : Option Addr} {vs : List Value} (h : w.ownsRow base 5 1 (.slice a n cap) m vs) : n ≤ cap := by
  rcases h.2 with ⟨e, _⟩ | ⟨g, cap', cur, e, h1, h2, h3⟩
  · injection e with _ e1 e2
    omega
  · injection e with e0 e1 e2
    omega
theorem Out.drewN {W0 wr : World} {V : Value} {L : List Int} (h : Out W0 wr V L) (q : Nat) : Out W0 (wr.drewN q) V L := ⟨h.1, { h.2 with }⟩

/-- A new row of bytes. -/
theorem row_const (w : World) (zs : List Int) (fr : Nat × Nat) (hz : ∀ x ∈ zs, 0 ≤ x ∧ x ≤ 255) : Row (w.alloc (.cells (zs.map (Value.int .u8)).toArray 5 fr)) (some ⟨w.heap.size, 0, none⟩) zs.length zs := by
  refine ⟨rfl, hz, fun _ => ⟨w.heap.size, 0, rfl, by simp, fun i hi => ?_⟩⟩
  have e := heap_alloc_new w (.cells (zs.map (Value.int .u8)).toArray 5 fr)
  simp only [World.cell?, e]
  simp [hi]

/-- The numbers of a text's letters. -/
def numsOf (s : ByteArray) : List Int := s.data.toList.map fun c => (c.toNat : Int)
theorem numsOf_length (s : ByteArray) : (numsOf s).length = s.size := by
  show (s.data.toList.map _).length = s.data.size
  rw [List.length_map, Array.length_toList]
def nth (s : ByteArray) (k : Nat) : Int := (numsOf s)[k]?.getD 0

theorem nums_byte (s : ByteArray) : ∀ x ∈ numsOf s, 0 ≤ x ∧ x ≤ 255 := by
  intro x hx
  obtain ⟨c, _, rfl⟩ := List.mem_map.1 hx
  have := UInt8.toNat_lt c
  omega
theorem nth_range (s : ByteArray) (k : Nat) : 0 ≤ nth s k ∧ nth s k ≤ 255 := by
  unfold nth
  rcases Nat.lt_or_ge k (numsOf s).length with h | h
  · rw [List.getElem?_eq_getElem h]
    exact nums_byte s _ (List.getElem_mem h)
  · rw [List.getElem?_eq_none h]
    simp

theorem str_at (s : ByteArray) (k : Nat) (h : k < s.size) (i : Int) (hi : i = k) (W : World) : (Instr.index 9 (.string s) (.int .i64 i)).run Try.prog W = .ok (.int .u8 (nth s k)) W := by
  subst hi
  rw [run_index_string W 9 s .i64 _ Try.underlying9, dif_pos ⟨by omega, by omega⟩]
  have e : (((s[(k : Int).toNat]'(by omega)).toNat : Nat) : Int) = nth s k := by
    simp only [nth, numsOf, Int.toNat_natCast]
    rw [List.getElem?_map, List.getElem?_eq_getElem (show k < s.data.toList.length from by rw [Array.length_toList]; exact h)]
    simp only [Option.map_some, Option.getD_some]
    rfl
  rw [e]

theorem nums_extract (s : ByteArray) (a b : Nat) : numsOf (s.extract a b) = ((numsOf s).drop a).take (b - a) := by
  unfold numsOf
  rw [ByteArray.data_extract, Array.toList_extract, List.extract_eq_take_drop, List.map_take, List.map_drop]

theorem nums_str (xs : List Int) (h : ∀ x ∈ xs, 0 ≤ x ∧ x ≤ 255) : numsOf (strOfNums xs) = xs := by
  unfold numsOf
  rw [strOfNums_data, List.map_map]
  conv => rhs; rw [← List.map_id xs]
  refine List.map_congr_left fun x hx => ?_
  have hb := h x hx
  simp only [Function.comp, id]
  rw [UInt8.toNat_ofNat', Nat.mod_eq_of_lt (by omega)]
  omega

theorem str_nums (s : ByteArray) : strOfNums (numsOf s) = s := by
  unfold strOfNums numsOf
  rw [List.map_map]
  have : s.data.toList.map ((fun n : Int => UInt8.ofNat n.toNat) ∘ fun c : UInt8 => (c.toNat : Int)) = s.data.toList := by
    conv => rhs; rw [← List.map_id s.data.toList]
    refine List.map_congr_left fun c _ => ?_
    simp
  rw [this]

theorem bytes_ext {a b : ByteArray} (h : a.toList = b.toList) : a = b := by
  rw [ByteArray.toList_eq, ByteArray.toList_eq] at h
  exact ByteArray.ext (Array.ext' h)

theorem str_append (xs ys : List Int) : strOfNums (xs ++ ys) = strOfNums xs ++ strOfNums ys := by
  apply ByteArray.ext
  apply Array.ext'
  simp [strOfNums_data]

end Go.Proofs.Ytppdnejkbdnlcaa
