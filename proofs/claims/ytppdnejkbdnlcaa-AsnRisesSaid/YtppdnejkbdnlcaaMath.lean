/-
  Plain facts on lists of bytes and on worlds, for the proofs of stage 1 (octet). Nothing of the program is named here.
-/
import Derived.WalkKit
import Derived.WalkSpells
import Derived.Deep.Draws
import Derived.Laws.BytesArg
import Derived.Deep.QuietTactic
namespace Go.Proofs.Ytppdnejkbdnlcaa
open Go.RowKit

/-- A slice value with n elements reads as the numbers zs, each a byte; where there is an element, it lies in a block of this world. -/
def Row (w : World) (a : Option Addr) (n : Nat) (zs : List Int) : Prop :=
  zs.length = n ∧ (∀ x ∈ zs, 0 ≤ x ∧ x ≤ 255) ∧
  (0 < n → ∃ b off, a = some ⟨b, off, none⟩ ∧ b < w.heap.size ∧ ∀ i, i < n → w.cell? ⟨b, off + i, none⟩ = some (.int .u8 (zs[i]?.getD 0)))

theorem Row.below {w w' : World} {a : Option Addr} {n : Nat} {zs : List Int} (h : Row w a n zs) (hb : Below w.heap.size w w') : Row w' a n zs := by
  refine ⟨h.1, h.2.1, fun hn => ?_⟩
  obtain ⟨b, off, e, hlt, hc⟩ := h.2.2 hn
  exact ⟨b, off, e, Nat.lt_of_lt_of_le hlt hb.size, fun i hi => (hb.cell (p := ⟨b, off + i, none⟩) hlt).trans (hc i hi)⟩

theorem Row.drewN {w : World} {a : Option Addr} {n : Nat} {zs : List Int} (h : Row w a n zs) (k : Nat) : Row (w.drewN k) a n zs := h

theorem Row.nil (w : World) (a : Option Addr) : Row w a 0 [] := ⟨rfl, by simp, fun h => absurd h (by omega)⟩

theorem Row.byte {w : World} {a : Option Addr} {n : Nat} {zs : List Int} (h : Row w a n zs) (k : Nat) : 0 ≤ zs[k]?.getD 0 ∧ zs[k]?.getD 0 ≤ 255 := by
  rcases Nat.lt_or_ge k zs.length with hk | hk
  · rw [List.getElem?_eq_getElem hk]
    exact h.2.1 _ (List.getElem_mem hk)
  · rw [List.getElem?_eq_none hk]
    simp

/-- string(b) of such a slice. -/
theorem Row.conv {P : Program} {w : World} {a : Option Addr} {n cap : Nat} {zs : List Int} (h : Row w a n zs) (src dst e : TypeId)
    (hs : P.underlying src = some (.slice e)) (he : P.underlying e = some (.int .u8)) (hd : P.underlying dst = some .string) :
    (convert src dst (.slice a n cap)).run P w = .ok (.string (strOfNums zs)) w := by
  rcases Nat.eq_zero_or_pos n with hn | hn
  · subst hn
    have hz : zs = [] := List.eq_nil_of_length_eq_zero h.1
    subst hz
    cases a with
    | none => exact run_convert_bytes_nil w src e hs he 0 cap dst hd
    | some ad =>
      have hl : (loadCells ad 0).run P w = .ok (([] : List Int).map (Value.int .u8)).toArray w := by
        have := run_loadCells_list (P := P) w ad [] (fun j v hj => by simp at hj)
        simpa using this
      rw [run_convert_bytes_string w src dst e _ 0 cap hs he hd, run_bytesToString w _ 0 cap [] hl]
      rfl
  · obtain ⟨b, off, rfl, _, hc⟩ := h.2.2 hn
    exact run_convert_bytes_arg w src e hs he b off n cap zs h.1 (fun i hi => by rw [hc i hi, List.getD_eq_getElem?_getD]) dst hd

/-- The row that was made reads as these bytes. -/
theorem Row.of_own {w : World} {base g n cap : Nat} {zs : List Int} (h : w.ownsRow base 5 1 (.slice (some ⟨g, 0, none⟩) n cap) n (zs.map (Value.int .u8))) (hz : ∀ x ∈ zs, 0 ≤ x ∧ x ≤ 255) :
    Row w (some ⟨g, 0, none⟩) n zs := by
  have hl : zs.length = n := by have := h.1; simpa using this
  refine ⟨hl, hz, fun hn => ⟨g, 0, rfl, ?_, fun i hi => ?_⟩⟩
  · exact (h.lt g rfl).2
  · rw [Nat.zero_add, h.cellAt i (by omega)]
    simp [show i < zs.length by omega]

/-- A callee that leaves whatever world it gets as it is, met behind draws that were added up. -/
theorem calm_call {P : Program} {f : FuncId} {args : Array Value} {w : World} {p q : Nat} {r : Value} (h : ∀ W : World, Calls P f args W fun e W' => e = .returned r ∧ W' = W) :
    Calls P f args (w.drewN (p + q)) fun e W' => e = .returned r ∧ ∃ m, W' = w.drewN (p + m) :=
  (h _).mono fun _ _ hh => ⟨hh.1, q, hh.2⟩

theorem same_int {k : IntKind} {x y : Int} (e : x = y) : Ending.returned (Value.int k x) = Ending.returned (Value.int k y) := e ▸ rfl

/-- Cmp's answer. -/
def cmpZ : List Int → List Int → Int
  | [], [] => 0
  | [], _ :: _ => -1
  | _ :: _, [] => 1
  | x :: xs, y :: ys => if x < y then -1 else if y < x then 1 else cmpZ xs ys

theorem cmpZ_nil_left (ys : List Int) : cmpZ [] ys = if (0 : Int) < ys.length then -1 else 0 := by
  cases ys with
  | nil => simp [cmpZ]
  | cons y ys => simp [cmpZ]

theorem cmpZ_nil_right (xs : List Int) : cmpZ xs [] = if (0 : Int) < xs.length then 1 else 0 := by
  cases xs with
  | nil => simp [cmpZ]
  | cons y ys => simp [cmpZ]

theorem cmpZ_drop {xs ys : List Int} {k : Nat} (h1 : k < xs.length) (h2 : k < ys.length) :
    cmpZ (xs.drop k) (ys.drop k) = if xs[k]?.getD 0 < ys[k]?.getD 0 then -1 else if ys[k]?.getD 0 < xs[k]?.getD 0 then 1 else cmpZ (xs.drop (k + 1)) (ys.drop (k + 1)) := by
  rw [List.drop_eq_getElem_cons h1, List.drop_eq_getElem_cons h2, cmpZ]
  simp [List.getElem?_eq_getElem h1, List.getElem?_eq_getElem h2]

/-- Where one of them is at its end. -/
theorem cmpZ_end {xs ys : List Int} {k : Nat} (h1 : k ≤ xs.length) (h2 : k ≤ ys.length) (h : k = xs.length ∨ k = ys.length) :
    cmpZ (xs.drop k) (ys.drop k) = if (xs.length : Int) < ys.length then -1 else if (ys.length : Int) < xs.length then 1 else 0 := by
  rcases h with h | h
  · rw [List.drop_of_length_le (Nat.le_of_eq h.symm), cmpZ_nil_left, List.length_drop]
    by_cases c : (xs.length : Int) < ys.length
    · rw [if_pos c, if_pos (by omega)]
    · rw [if_neg c, if_neg (by omega), if_neg (by omega)]
  · rw [List.drop_of_length_le (Nat.le_of_eq h.symm), cmpZ_nil_right, List.length_drop]
    by_cases c : (ys.length : Int) < xs.length
    · rw [if_pos (show (0 : Int) < ((xs.length - k : Nat) : Int) by omega), if_neg (show ¬ (xs.length : Int) < ys.length by omega), if_pos c]
    · rw [if_neg (show ¬ (0 : Int) < ((xs.length - k : Nat) : Int) by omega), if_neg (show ¬ (xs.length : Int) < ys.length by omega), if_neg c]

end Go.Proofs.Ytppdnejkbdnlcaa
