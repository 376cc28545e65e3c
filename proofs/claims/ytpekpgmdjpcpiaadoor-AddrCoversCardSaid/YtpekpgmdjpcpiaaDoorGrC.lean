/-
  Merged texts: Fork, AeA, AeT, AeU, AdI, AdR, AdS, Num, AeV, AeW, AdT.
-/
import Derived.Test.YtpekpgmdjpcpiaaDoorGrA
import Derived.Great.Walk
import Derived.Test.YtpekpgmdjpcpiaaDoorGrB
import Derived.Test.YtpekpgmdjpcpiaaDoorRows
import Derived.WalkKit
import Derived.WalkSpells
import Derived.WalkLawsBesides
import Derived.Deep.QuietTactic
import Derived.BigQuiet
import Derived.Lib.Hide
import Derived.Laws.BitsLemmas
namespace Go.Proofs.YtpekpgmdjpcpiaaDoor
open Go.RowKit

/-- An order of our choosing: 'take': an operation that yields in every world that goes on from the one at hand; 'sole': one that comes up alone; 'fork': two that come up, either first. -/
inductive Plan where
  | fin
  | take (i : Nat) (p : Plan)
  | sole (i : Nat) (p : Plan)
  | fork (i : Nat) (p : Plan) (j : Nat) (q : Plan)
def Plan.len : Plan → Nat
  | .fin => 0
  | .take _ p => p.len + 1
  | .sole _ p => p.len + 1
  | .fork _ p _ _ => p.len + 1

section
variable {P : Program} {ops : Array Oper} {Q : Exit → Act → World → Prop} {R : World → World → Prop}

/-- One that makes memory. -/
def wpSole (P : Program) (l : List Oper) (R : World → World → Prop) (Q : Exit → Act → World → Prop) (i : Nat) (K : Act → World → Prop) (a : Act) (w : World) : Prop :=
  ∃ o, l[i]? = some o ∧ ((Region.wanted o (yielded l.toArray a.tmps) = false ∧ K (a.put o.dst undef) w) ∨
    (Region.wanted o (yielded l.toArray a.tmps) = true ∧ o.wp P a w (fun a' w' => R w w' ∧ K a' w') Q))
def wpPlan (P : Program) (l : List Oper) (R : World → World → Prop) (Q : Exit → Act → World → Prop) : Plan → Act → World → Prop
  | .fin, a, w => Q .normal a w
  | .take i p, a, w => ∃ o, l[i]? = some o ∧
    ((Region.wanted o (yielded l.toArray a.tmps) = false ∧ wpPlan P l R Q p (a.put o.dst undef) w) ∨
     (Region.wanted o (yielded l.toArray a.tmps) = true ∧ ∃ v, (∀ W, R w W → (execOp a.eval o).run P W = .ok (.value v) W) ∧ wpPlan P l R Q p (a.put o.dst v) w))
  | .sole i p, a, w => wpSole P l R Q i (wpPlan P l R Q p) a w
  | .fork i p j q, a, w => wpSole P l R Q i (wpPlan P l R Q p) a w ∧ wpSole P l R Q j (wpPlan P l R Q q) a w
def planB (l : List Oper) : Plan → Array Bool → Bool
  | .fin, listed => (Region.ready .any l.toArray listed).isEmpty
  | .take i p, listed => ((Region.ready .any l.toArray listed).contains i && Region.free .any l.toArray listed i) && planB l p (listed.setIfInBounds i true)
  | .sole i p, listed => (Region.ready .any l.toArray listed == [i]) && planB l p (listed.setIfInBounds i true)
  | .fork i p j q, listed => ((Region.ready .any l.toArray listed == [i, j]) && (p.len == q.len)) && (planB l p (listed.setIfInBounds i true) && planB l q (listed.setIfInBounds j true))

theorem held_sole {l : List Oper} (hrefl : ∀ w, R w w) (htrans : ∀ a b c, R a b → R b c → R a c) {i fuel : Nat} {listed : Array Bool} {K : Act → World → Prop} {a : Act} {w : World}
    (hK : ∀ a' w', K a' w' → wpAnyH P .any l.toArray Q (R w') fuel (listed.setIfInBounds i true) a' w') (h : wpSole P l R Q i K a w) :
    wpOp P l.toArray Q i (fun a' w' => R w w' ∧ wpAnyH P .any l.toArray Q (R w) fuel (listed.setIfInBounds i true) a' w') a w := by
  obtain ⟨o, ho, h⟩ := h
  have hi : l.toArray[i]? = some o := by simpa using ho
  unfold wpOp
  simp only [hi]
  rcases h with ⟨hw, h⟩ | ⟨hw, h⟩
  · rw [if_neg (by rw [hw]; simp)]
    exact ⟨hrefl w, hK _ _ h⟩
  · rw [if_pos hw]
    exact .inl (Oper.wp_mono (fun a' w' h' => ⟨h'.1, held_mono (fun W hW => htrans _ _ _ h'.1 hW) _ _ _ _ (hK _ _ h'.2)⟩) h)

theorem held_of_plan {l : List Oper} (hrefl : ∀ w, R w w) (htrans : ∀ a b c, R a b → R b c → R a c) (hs : Region.noSelect l.toArray = true) (hQ : ∀ d v c a w, Q (.panic c) (a.put d v) w → Q (.panic c) a w) :
    ∀ (p : Plan) (listed : Array Bool) (a : Act) (w : World), planB l p listed = true → wpPlan P l R Q p a w → wpAnyH P .any l.toArray Q (R w) p.len listed a w
  | .fin, listed, a, w, hB, h => by
    have : Region.ready .any l.toArray listed = [] := by simpa [planB] using hB
    exact wpAnyH_done this h _
  | .take i p, listed, a, w, hB, h => by
    obtain ⟨o, ho, h⟩ := h
    have hi : l.toArray[i]? = some o := by simpa using ho
    rw [planB, Bool.and_eq_true, Bool.and_eq_true] at hB
    obtain ⟨⟨h1, h2⟩, hB'⟩ := hB
    rcases h with ⟨hw, h⟩ | ⟨hw, v, hv, h⟩
    · exact wpAnyH_take hi hs h2 h1 (hQ _ _) (.inr ⟨hw, rfl⟩) (hrefl w) (held_of_plan hrefl htrans hs hQ p _ _ _ hB' h)
    · exact wpAnyH_take hi hs h2 h1 (hQ _ _) (.inl ⟨hw, hv⟩) (hrefl w) (held_of_plan hrefl htrans hs hQ p _ _ _ hB' h)
  | .sole i p, listed, a, w, hB, h => by
    rw [planB, Bool.and_eq_true] at hB
    have hr : Region.ready .any l.toArray listed = [i] := by simpa using hB.1
    refine wpAnyH_all hr (by simp) (fun j hj => ?_)
    obtain rfl : j = i := by simpa using hj
    exact held_sole hrefl htrans (fun a' w' h' => held_of_plan hrefl htrans hs hQ p _ a' w' hB.2 h') h
  | .fork i p j q, listed, a, w, hB, h => by
    rw [planB, Bool.and_eq_true, Bool.and_eq_true, Bool.and_eq_true] at hB
    obtain ⟨⟨h1, h2⟩, h3, h4⟩ := hB
    have hr : Region.ready .any l.toArray listed = [i, j] := by simpa using h1
    have hl : p.len = q.len := by simpa using h2
    refine wpAnyH_all hr (by simp) (fun x hx => ?_)
    have hx' : x = i ∨ x = j := by simpa using hx
    rcases hx' with rfl | rfl
    · exact held_sole hrefl htrans (fun a' w' h' => held_of_plan hrefl htrans hs hQ p _ a' w' h3 h') h.1
    · have := held_sole (fuel := q.len) (listed := listed) hrefl htrans (fun a' w' h' => held_of_plan hrefl htrans hs hQ q _ a' w' h4 h') h.2
      rw [← hl] at this
      exact this

/-- THE LAW: a region that asks the tape for its order. -/
theorem wp_region_plan {id : Nat} {a : Act} {w : World} {l : List Oper} (R : World → World → Prop) (hrefl : ∀ w, R w w) (htrans : ∀ a b c, R a b → R b c → R a c) (plan : Plan) (hm : P.follows .mixedOrders = true) (hs : Region.noSelect l.toArray = true) (hn : plan.len = l.length)
    (hB : planB l plan (Array.replicate l.length false) = true) (hQ : ∀ d v c a w, Q (.panic c) (a.put (some d) v) w → Q (.panic c) a w) (h : wpPlan P l R Q plan a w.drew) : (Code.region id l.toArray true).wp P Q a w := by
  refine wp_region_held (S := R w.drew) hm ?_
  have hQ' : ∀ d v c a w, Q (.panic c) (a.put d v) w → Q (.panic c) a w := fun d => by
    cases d with
    | none => exact fun _ _ _ _ h => h
    | some d => exact hQ d
  have := held_of_plan hrefl htrans hs hQ' plan (Array.replicate l.length false) a w.drew hB h
  rw [hn] at this
  simpa using this

section
variable {l : List Oper} {p q : Plan} {a : Act} {w : World} {i j : Nat} {o : Oper} {K : Act → World → Prop}
theorem plan_skip (ho : l[i]? = some o) (hw : Region.wanted o (yielded l.toArray a.tmps) = false) (h : wpPlan P l R Q p (a.put o.dst undef) w) : wpPlan P l R Q (.take i p) a w := ⟨o, ho, .inl ⟨hw, h⟩⟩
theorem plan_take (v : Value) (ho : l[i]? = some o) (hw : Region.wanted o (yielded l.toArray a.tmps) = true) (hv : ∀ W, R w W → (execOp a.eval o).run P W = .ok (.value v) W) (h : wpPlan P l R Q p (a.put o.dst v) w) : wpPlan P l R Q (.take i p) a w := ⟨o, ho, .inr ⟨hw, v, hv, h⟩⟩
theorem sole_take (ho : l[i]? = some o) (hw : Region.wanted o (yielded l.toArray a.tmps) = true) (h : ∀ K' : Act → World → Prop, (∀ a' w', R w w' → K a' w' → K' a' w') → o.wp P a w K' Q) : wpSole P l R Q i K a w :=
  ⟨o, ho, .inr ⟨hw, h _ (fun _ _ he h => ⟨he, h⟩)⟩⟩
theorem plan_sole (h : wpSole P l R Q i (wpPlan P l R Q p) a w) : wpPlan P l R Q (.sole i p) a w := h
theorem plan_fork (h1 : wpSole P l R Q i (wpPlan P l R Q p) a w) (h2 : wpSole P l R Q j (wpPlan P l R Q q) a w) : wpPlan P l R Q (.fork i p j q) a w := ⟨h1, h2⟩
theorem plan_end (h : Q .normal a w) : wpPlan P l R Q .fin a w := h
end
end
end Go.Proofs.YtpekpgmdjpcpiaaDoor

namespace Go.Proofs.YtpekpgmdjpcpiaaDoor
open Go.RowKit
set_option linter.unusedVariables false

theorem clamped_any (n m : Int) (w : World) (l0 : -9223372036854775808 ≤ n) (l1 : n ≤ 9223372036854775807) (m0 : 0 ≤ m) (m1 : m ≤ 1000) :
    Calls Tryd.prog 36 #[.int .i64 n, .int .i64 m] w fun e w' => e = .returned (.int .i64 (min (max n 0) m)) ∧ w' = w := by
  obtain ⟨a, ha⟩ : ∃ a, max n 0 = a := ⟨_, rfl⟩
  obtain ⟨b, hb⟩ : ∃ b, min a m = b := ⟨_, rfl⟩
  have F := Lib.hid (show min (max n 0) m = b by rw [ha, hb])
  go_enter Tryd.func36, Tryd.ntmps36
  go_wp2_with fail
  go_ret
  exact ⟨by rw [F.out]; rfl, rfl⟩

/-- A family: how many bytes, of a group, the base, what stands between. -/
def famS (v : Bool) : ByteArray := if v then ⟨#[58]⟩ else ⟨#[46]⟩
def famN (v : Bool) : Nat := if v then 16 else 4
def famG (v : Bool) : Nat := if v then 2 else 1
def famB (v : Bool) : Nat := if v then 16 else 10
def famC (v : Bool) : Array Value := #[.int .i64 (famN v), .int .i64 (famG v), .int .i64 (famB v), .string (famS v)]
def ZF : Array Value := #[.int .i64 0, .int .i64 0, .int .i64 0, .string ⟨#[]⟩]
theorem famC_one (v : Bool) : (famC v).all (·.oneCell') = true := by
  refine all_oneCell_toArray (cs := [.int .i64 (famN v), .int .i64 (famG v), .int .i64 (famB v), .string (famS v)]) fun u hu => ?_
  simp only [List.mem_cons, List.not_mem_nil, or_false] at hu
  rcases hu with rfl | rfl | rfl | rfl <;> rfl
theorem Tryd.sizeF (v : Bool) : (Tryd.prog.info? 56).map (·.size) = some (famC v).size := by cases v <;> kernel_rfl

set_option maxHeartbeats 500000 in
set_option maxRecDepth 10000 in
theorem family_any (v : Bool) (w : World) :
    Calls Tryd.prog 37 #[.bool v] w fun e w' => e = .returned (.agg (famC v)) ∧ Below w.heap.size w w' := by
  have BZ := Lib.hid (Blk.new w 56 ZF)
  have BW := Lib.hid (box_below w (.cells ZF 56))
  have ZS := fun v => Lib.hid (Tryd.sizeF v)
  have ZE : ∀ v, Hid (ZF.size = (famC v).size) := fun v => Lib.hid (by cases v <;> rfl)
  have P1 := fun v => Lib.hid (famC_one v)
  cases v with
  | true =>
    go_enter Tryd.func37, Tryd.ntmps37
    generalize hw2 : w.alloc (.cells ZF 56) = w2 at *
    go_wp2_with (first
      | (refine Great.wpList_allocTo rfl (some 2) rfl (.pointer (some ⟨w.heap.size, 0, none⟩)) (.cells ZF 56) rfl ?_; rw [hw2]; clear hw2)
      | (refine wpList_store_rowTo rfl 56 (.tmp 2) (.tmp 4) rfl rfl w.heap.size (famC true) rfl rfl 56 ZF BZ.out (ZS true).out (ZE true).out (P1 true).out ?_))
    exact bodyPost_ret (results_cell_row rfl _ _ w.heap.size 56 (famC true) (0, 0) _ rfl (setRow_heap _ _ _ _ 56 _ BZ.out) Tryd.underlying56 rfl (ZS true).out) rfl ⟨rfl, below_setRow BW.out (Nat.le_refl _) _⟩
  | false =>
    go_enter Tryd.func37, Tryd.ntmps37
    generalize hw2 : w.alloc (.cells ZF 56) = w2 at *
    go_wp2_with (first
      | (refine Great.wpList_allocTo rfl (some 2) rfl (.pointer (some ⟨w.heap.size, 0, none⟩)) (.cells ZF 56) rfl ?_; rw [hw2]; clear hw2)
      | (refine wpList_store_rowTo rfl 56 (.tmp 2) (.tmp 5) rfl rfl w.heap.size (famC false) rfl rfl 56 ZF BZ.out (ZS false).out (ZE false).out (P1 false).out ?_))
    exact bodyPost_ret (results_cell_row rfl _ _ w.heap.size 56 (famC false) (0, 0) _ rfl (setRow_heap _ _ _ _ 56 _ BZ.out) Tryd.underlying56 rfl (ZS false).out) rfl ⟨rfl, below_setRow BW.out (Nat.le_refl _) _⟩

end Go.Proofs.YtpekpgmdjpcpiaaDoor

namespace Go.Proofs.YtpekpgmdjpcpiaaDoor
open Go.RowKit
set_option linter.unusedVariables false

theorem pow_any (w : World) : Calls Tryd.prog 83 #[.int .i64 16] w fun e w' => e = .returned (.bool true) ∧ w' = w := by
  have h : bits .and .i64 16 15 = 0 := by kernel_rfl
  go_enter Tryd.func83, Tryd.ntmps83
  go_wp2_with fail
  go_ret
  exact ⟨rfl, rfl⟩
set_option maxHeartbeats 500000 in
theorem zeros64_any (w : World) (hs : Std w) : Calls Tryd.prog 96 #[.int .u64 16] w fun e w' => e = .returned (.int .i64 4) ∧ w' = w := by
  have ht := hs.two
  have h0 : IntKind.u64.wrap (-16) = 18446744073709551600 := by rw [IntKind.wrap_u64]; omega
  have h1 : bits .and .u64 16 18446744073709551600 = 16 := by kernel_rfl
  have h2 : IntKind.u64.wrap 4573923408821661840 = 4573923408821661840 := by rw [IntKind.wrap_u64]; omega
  clear hs
  go_enter Tryd.func96, Tryd.ntmps96
  go_wp2_with fail
  go_ret
  exact ⟨rfl, rfl⟩
theorem zeros_any (w : World) (hs : Std w) : Calls Tryd.prog 84 #[.int .u64 16] w fun e w' => e = .returned (.int .i64 4) ∧ w' = w := by
  have HS := Lib.hid (zeros64_any w hs)
  clear hs
  go_enter Tryd.func84, Tryd.ntmps84
  go_wp2_with (go_at_call 96; refine HS.out.mono ?_; rintro e w' ⟨rfl, rfl⟩)
  go_ret
  exact ⟨rfl, rfl⟩

/-- Sixty-five cells, of which the last hold T. -/
def bufT (T : List Int) : Array Value := (List.replicate (65 - T.length) (Value.int .u8 0) ++ T.map (Value.int .u8)).toArray
def Z65 : Array Value := (List.replicate 65 (Value.int .u8 0)).toArray
theorem bufT_nil : bufT [] = Z65 := rfl
theorem bufT_set {T : List Int} {k : Nat} (h : T.length = k) (hk : k < 65) (c : Int) : (bufT T).setIfInBounds (64 - k) (.int .u8 c) = bufT (c :: T) := by
  unfold bufT
  apply Array.ext'
  rw [Array.toList_setIfInBounds, h]
  show List.set (List.replicate (65 - k) (Value.int .u8 0) ++ T.map (Value.int .u8)) (64 - k) (.int .u8 c) = List.replicate (65 - (c :: T).length) (Value.int .u8 0) ++ (c :: T).map (Value.int .u8)
  rw [List.length_cons, h, show 65 - k = (64 - k) + 1 by omega, show 65 - (k + 1) = 64 - k by omega, List.replicate_succ', List.append_assoc, List.set_append_right _ _ (by simp), List.length_replicate, Nat.sub_self]
  rfl
theorem bufT_at {T : List Int} {k : Nat} (h : T.length = k) (hk : k ≤ 65) (i : Nat) (hi : i < k) : (bufT T)[65 - k + i]? = some (.int .u8 (T[i]?.getD 0)) := by
  unfold bufT
  rw [List.getElem?_toArray, List.getElem?_append_right (by rw [List.length_replicate, h]; omega), List.length_replicate, h, show 65 - k + i - (65 - k) = i by omega, List.getElem?_map, List.getElem?_eq_getElem (by omega)]
  rfl
theorem bufT_size {T : List Int} (h : T.length ≤ 65) : (bufT T).size = 65 := by
  unfold bufT
  simp
  omega
theorem buf_row {w : World} {g k : Nat} {T : List Int} (h : Blk w g 111 (bufT T)) (hl : T.length = k) (hk : k ≤ 65) (hb : Bytes T) : Row w (some ⟨g, 65 - k, none⟩) k T :=
  ⟨hl, hb, fun _ => ⟨g, 65 - k, rfl, h.lt, fun i hi => (h.cell _).trans (bufT_at hl hk i hi)⟩⟩
theorem dig36 (r : Nat) (h : r < 16) (W : World) :
    (Instr.index 9 (.string ⟨#[48, 49, 50, 51, 52, 53, 54, 55, 56, 57, 97, 98, 99, 100, 101, 102, 103, 104, 105, 106, 107, 108, 109, 110, 111, 112, 113, 114, 115, 116, 117, 118, 119, 120, 121, 122]⟩) (.int .u64 (r : Int))).run Tryd.prog W = .ok (.int .u8 (chrZ r)) W := by
  rw [run_index_string W 9 _ .u64 _ Tryd.underlying9, dif_pos ⟨by omega, by simp only [ByteArray.size_mk']; simp; omega⟩]
  congr 2
  rcases r with _ | _ | _ | _ | _ | _ | _ | _ | _ | _ | _ | _ | _ | _ | _ | _ | r
  all_goals first | rfl | (exfalso; omega)
theorem and15 {m : Nat} (h : m ≤ 65535) : bits .and .u64 (m : Int) 15 = ((m % 16 : Nat) : Int) := by
  have h16 := bits_mask .u64 64 (by decide) (fun n h0 h1 => by rw [IntKind.wrap_u64]; omega) 4 (by decide) (m : Int) (by omega) (by omega)
  rw [show (2 : Int) ^ 4 - 1 = 15 from rfl, show (2 : Int) ^ 4 = 16 from rfl] at h16
  rw [h16]
  omega

end Go.Proofs.YtpekpgmdjpcpiaaDoor

namespace Go.Proofs.YtpekpgmdjpcpiaaDoor
open Go.RowKit
set_option linter.unusedVariables false

theorem dig_next {n m : Nat} {T : List Int} (h : digZ 16 n = digZ 16 m ++ T) (hm : 16 ≤ m) : digZ 16 n = digZ 16 (m / 16) ++ chrZ (m % 16) :: T := by
  rw [h, dig_step (by omega) hm, List.append_assoc]
  rfl
theorem dig_last {n m : Nat} {T : List Int} (h : digZ 16 n = digZ 16 m ++ T) (hm : m < 16) : digZ 16 n = chrZ m :: T := by
  rw [h, dig_small hm]
  rfl

set_option maxHeartbeats 2000000 in
set_option maxRecDepth 10000 in
theorem bits16_any (n : Nat) (hn : n ≤ 65535) (w : World) (hs : Std w) :
    Calls Tryd.prog 69 #[.slice none 0 0, .int .u64 (n : Int), .int .i64 16, .bool false, .bool false] w fun e w' => e = .returned (.tuple #[.slice none 0 0, .string (strOfNums (digZ 16 n))]) ∧ Below w.heap.size w w' := by
  have BZ := Lib.hid (Blk.new w 111 Z65)
  have BW := Lib.hid (box_below w (.cells Z65 111))
  have CP := Lib.hid (fun W => pow_any W)
  have CZ := Lib.hid (zeros_any _ (hs.later BW.out))
  have DB := Lib.hid (dig_byte (b := 16) (by omega) (by omega) n)
  clear hs
  go_enter Tryd.func69, Tryd.ntmps69
  generalize hw2 : w.alloc (.cells Z65 111) = w2 at *
  generalize hg : w.heap.size = g at *
  have HG := Lib.hid (show g ≤ g from Nat.le_refl _)
  go_wp2_with (first
    | (refine Great.wpList_allocTo rfl (some 12) rfl (.pointer (some ⟨w.heap.size, 0, none⟩)) (.cells Z65 111) rfl ?_; rw [hw2, hg]; clear hw2 hg)
    | (go_at_call 83; refine (CP.out _).mono ?_; rintro e w' ⟨rfl, rfl⟩)
    | (go_at_call 84; refine CZ.out.mono ?_; rintro e w' ⟨rfl, rfl⟩))
  go_loopw [1, 13] (fun uV iV wr => ∃ (m k : Nat) (T : List Int), uV = .int .u64 (m : Int) ∧ iV = .int .i64 (65 - (k : Int)) ∧ T.length = k ∧ k ≤ 3 ∧ m < 16 ^ (4 - k) ∧ digZ 16 n = digZ 16 m ++ T ∧ Blk wr g 111 (bufT T) ∧ Below g w wr) (fun uV _ _ => (intOf uV).toNat)
  case atStart => exact ⟨n, 0, [], rfl, rfl, rfl, by omega, by simp; omega, by simp, by rw [bufT_nil]; exact BZ.out, BW.out⟩
  case round =>
    obtain ⟨m, k, T, rfl, rfl, hk, hk3, hm, hd, hz, hb⟩ := hrel
    have HK := Lib.hid hk
    have HD := Lib.hid hd
    have HZ := Lib.hid hz
    have HB := Lib.hid hb
    have m4 : m ≤ 65535 := by
      have : k = 0 ∨ k = 1 ∨ k = 2 ∨ k = 3 := by omega
      rcases this with rfl | rfl | rfl | rfl <;> simp at hm <;> omega
    clear hk hd hz hb
    have i1 : IntKind.i64.wrap (65 - (k : Int) - 1) = 64 - (k : Int) := by rw [IntWalk.i64_in _ (by omega)]; omega
    have i0 : (0 : Int) ≤ 64 - (k : Int) := by omega
    have i2 : (64 : Int) - (k : Int) < 65 := by omega
    have i3 : ((64 : Int) - (k : Int)).toNat = 64 - k := by omega
    have fz := Blk.free HZ.out (64 - k)
    have cz : wr.cell? ⟨g, 64 - k, none⟩ = some (.int .u8 0) := by
      rw [Blk.cell HZ.out]
      unfold bufT
      rw [List.getElem?_toArray, HK.out, List.getElem?_append_left (by simp; omega), List.getElem?_replicate, if_pos (by omega)]
    by_cases hge : 16 ≤ m
    · have t0 : decide ((16 : Int) ≤ (m : Int)) = true := decide_eq_true (by omega)
      have hk2 : k ≤ 2 := by
        have : k = 0 ∨ k = 1 ∨ k = 2 ∨ k = 3 := by omega
        rcases this with rfl | rfl | rfl | rfl <;> simp at hm <;> omega
      have hm' : m / 16 < 16 ^ (4 - (k + 1)) := by
        have : k = 0 ∨ k = 1 ∨ k = 2 := by omega
        rcases this with rfl | rfl | rfl <;> simp at hm ⊢ <;> omega
      have HM := Lib.hid hm'
      obtain ⟨r, hr⟩ : ∃ r, m % 16 = r := ⟨_, rfl⟩
      have r16 : r < 16 := by omega
      have ND := Lib.hid (dig_next HD.out hge)
      have a15 := and15 m4
      rw [hr] at a15 ND
      have dx := dig36 r r16
      have sh : (m : Int) / 16 = ((m / 16 : Nat) : Int) := by omega
      have sm : IntKind.u64.wrap ((m / 16 : Nat) : Int) = ((m / 16 : Nat) : Int) := by rw [IntKind.wrap_u64]; omega
      have HS := Lib.hid (fun c => bufT_set HK.out (by omega) c)
      have HN : Hid (m / 16 < m) := Lib.hid (by omega)
      clear hm hm' hr
      generalize m / 16 = m2 at *
      generalize chrZ r = c at *
      go_wp2_with fail
      go_roundw
      case rel =>
        refine ⟨m2, k + 1, c :: T, ?_, ?_, by simp [HK.out], by omega, HM.out, ND.out, ?_, ?_⟩
        · rfl
        · go_num
        · rw [← HS.out c]
          exact Blk.set HZ.out (64 - k) _
        · exact Below.setCell HB.out (p := ⟨g, 64 - k, none⟩) (Nat.le_refl _) _
      case measure =>
        have := HN.out
        simp only [intOf]
        omega
    · have t0 : decide ((16 : Int) ≤ (m : Int)) = false := decide_eq_false (by omega)
      have ND := Lib.hid (dig_last HD.out (by omega))
      have dx := dig36 m (by omega)
      have HS := Lib.hid (fun c => bufT_set HK.out (by omega) c)
      have DC := DB.out
      rw [ND.out] at DC
      generalize chrZ m = c at *
      have W4 : Hid (Row (wr.setCell ⟨g, 64 - k, none⟩ (.int .u8 c)) (some ⟨g, 64 - k, none⟩) (k + 1) (c :: T)) := Lib.hid (by
        have h1 := Blk.set HZ.out (64 - k) (.int .u8 c)
        rw [HS.out c] at h1
        have h2 := buf_row h1 (show (c :: T).length = k + 1 by simp [HK.out]) (by omega) DC
        rwa [show 65 - (k + 1) = 64 - k by omega] at h2)
      have B4 : Hid (Below g w (wr.setCell ⟨g, 64 - k, none⟩ (.int .u8 c))) := Lib.hid (Below.setCell HB.out (p := ⟨g, 64 - k, none⟩) (Nat.le_refl _) _)
      have hsl : ∀ W, (Instr.sliceAt 111 (.pointer (some ⟨g, 0, none⟩)) (some (.int .i64 (64 - (k : Int)))) none none).run Tryd.prog W = .ok (.slice (some ⟨g, 64 - k, none⟩) (k + 1) (k + 1)) W := fun W => by
        have hal : Tryd.prog.arrayLen 111 = 65 := by kernel_rfl
        rw [run_sliceAt_array_l W 111 ⟨g, 0, none⟩ Tryd.underlying111 .i64 (64 - (k : Int)) (by omega) (by rw [hal]; omega), hal, i3]
        go_simp
        omega
      have hcv := fun (cap : Nat) => Row.conv (P := Tryd.prog) (cap := cap) W4.out 52 9 5 Tryd.underlying52 Tryd.underlying5 Tryd.underlying9
      have hcv1 := hcv (k + 1)
      clear hcv DC W4 HD HS HZ HB HK hm HG CP DB
      generalize hw4 : wr.setCell ⟨g, 64 - k, none⟩ (.int .u8 c) = w4 at *
      go_wp2_with fail
      go_ret2
      exact ⟨by rw [ND.out]; rfl, B4.out⟩

set_option maxHeartbeats 500000 in
/-- The digits of a number, of base 16 or 10. -/
theorem fmt_any (v : Bool) (n : Nat) (hn : n ≤ 65535) (h10 : v = false → n < 1000) (w : World) (hs : Std w) :
    Calls Tryd.prog 51 #[.int .u64 (n : Int), .int .i64 (if v then 16 else 10)] w fun e w' => e = .returned (.string (strOfNums (digZ (if v then 16 else 10) n))) ∧ Below w.heap.size w w' := by
  cases v with
  | true =>
    have CB := Lib.hid (bits16_any n hn w hs)
    clear hs
    generalize hD : strOfNums (digZ (if true = true then 16 else 10) n) = D
    have HD := Lib.hid hD
    rw [if_pos rfl] at hD
    rw [hD] at CB
    clear hD
    go_enter Tryd.func51, Tryd.ntmps51
    go_wp2_with (first
      | (go_at_call 69; refine CB.out.mono ?_; rintro e w' ⟨rfl, hb⟩; have HB := Lib.hid hb; clear hb)
      | (go_at_call 63; go_in))
    go_ret
    exact ⟨rfl, HB.out⟩
  | false =>
    have CB := Lib.hid (fmt10_any n (h10 rfl) w hs)
    clear hs
    generalize hD : strOfNums (digZ (if false = true then 16 else 10) n) = D
    have HD := Lib.hid hD
    rw [if_neg (by decide)] at hD
    rw [hD] at CB
    clear hD
    go_enter Tryd.func51, Tryd.ntmps51
    go_wp2_with (first
      | (go_at_call 63; refine CB.out.mono ?_; rintro e w' ⟨rfl, hb⟩; have HB := Lib.hid hb; clear hb))
    go_ret
    exact ⟨rfl, HB.out⟩

end Go.Proofs.YtpekpgmdjpcpiaaDoor

namespace Go.Proofs.YtpekpgmdjpcpiaaDoor
open Go.RowKit
set_option linter.unusedVariables false

def Z16 : Array Value := (List.replicate 16 (Value.int .u8 0)).toArray
def decZ (A : List Int) (q : Nat) : List Int := digZ 10 (A[q]?.getD 0).toNat
def fourZ (A : List Int) : List Int := decZ A 0 ++ [46] ++ decZ A 1 ++ [46] ++ decZ A 2 ++ [46] ++ decZ A 3
/-- A prefix's text. -/
def textZ (v : Bool) (A : List Int) (L : Int) : List Int := (if v then sixZ A else fourZ A) ++ [47] ++ digZ 10 L.toNat
def textE (v : Bool) (A : List Int) (L : Int) : List Int := if rightA v A L = true then textZ v A L else []
def textR (v : Bool) (A : List Int) (L : Int) : Int := if rightA v A L = true then 0 else 1
theorem run_ok {A : List Int} (hA : Sixteen A) (i : Nat) : ∀ (m : Nat) {s : List Int}, Bytes s → Bytes (runG s A i m) ∧ (runG s A i m).length ≤ s.length + 65537 * m
  | 0, s, h => ⟨h, by simp [runG]⟩
  | m + 1, s, h => by
    obtain ⟨h1, h2⟩ := run_ok hA i m h
    have hs := sepG_ok h1
    have hh := hexG_ok hA (i + m)
    rw [runG]
    unfold addG
    refine ⟨hs.1.app hh.1, ?_⟩
    rw [List.length_append]
    omega
theorem six_ok {A : List Int} (hA : Sixteen A) : Bytes (sixZ A) ∧ (sixZ A).length ≤ 2000000 := by
  have hn : Bytes [] := fun x hx => (by simp at hx)
  have h58 : Bytes [58, 58] := fun x hx => by simp at hx; omega
  have hr := row_le A
  unfold sixZ
  generalize rowZ A = p at *
  obtain ⟨f, n⟩ := p
  simp only at hr ⊢
  split
  · have := run_ok hA 0 8 hn
    refine ⟨this.1, ?_⟩
    have h2 := this.2
    simp only [List.length_nil] at h2
    omega
  · have h1 := run_ok hA 0 f hn
    have h2 := run_ok hA (f + n) (8 - f - n) (h1.1.app h58)
    refine ⟨h2.1, ?_⟩
    have h3 := h2.2
    have h4 := h1.2
    rw [List.length_append] at h3
    simp only [List.length_nil, List.length_cons] at h3 h4
    omega
theorem dec_ok {A : List Int} (hA : Sixteen A) (q : Nat) : Bytes (decZ A q) ∧ (decZ A q).length ≤ 256 := by
  have := sixteen_at hA q
  have l := dig_len (b := 10) (by omega) (A[q]?.getD 0).toNat
  exact ⟨dig_byte (by omega) (by omega) _, by unfold decZ; omega⟩
theorem four_ok {A : List Int} (hA : Sixteen A) : Bytes (fourZ A) ∧ (fourZ A).length ≤ 2000 := by
  have h0 := dec_ok hA 0
  have h1 := dec_ok hA 1
  have h2 := dec_ok hA 2
  have h3 := dec_ok hA 3
  have hp : Bytes [46] := fun x hx => by simp at hx; omega
  unfold fourZ
  refine ⟨(((((h0.1.app hp).app h1.1).app hp).app h2.1).app hp).app h3.1, ?_⟩
  simp only [List.length_append, List.length_cons, List.length_nil]
  omega

set_option maxHeartbeats 2000000 in
set_option maxRecDepth 10000 in
theorem rtext_any (v : Bool) (A : List Int) (L : Int) (w : World) (hA : Sixteen A) (l0 : -9223372036854775808 ≤ L) (l1 : L ≤ 9223372036854775807) :
    Calls Tryd.prog 11 #[.agg (pcells v A L)] w fun e w' => e = .returned (.tuple #[.string (strOfNums (textE v A L)), .int .i64 (textR v A L)]) ∧ Below w.heap.size w w' := by
  have BX := Lib.hid (pbox w v A L)
  have BW := Lib.hid (box_below w (.cells (pcells v A L) 24))
  have HA := Lib.hid hA
  have hA16 := hA.1
  have Z1 := Lib.hid (Tryd.sizeP (v := v) (L := L) hA16)
  have CR := Lib.hid (fun W => rright_any v A L W hA l0 l1)
  have RI := Lib.hid (right_is v A L)
  have ML := most_le v
  clear hA
  go_enter Tryd.func11, Tryd.ntmps11
  generalize hw2 : w.alloc (.cells (pcells v A L) 24) = w2 at *
  go_wp2_with (refine wpList_load_row rfl 24 (.tmp 1) rfl w.heap.size rfl 24 (pcells v A L) (0, 0) _ BX.out Tryd.underlying24 rfl Z1.out ?_)
  refine (CR.out w2).mono ?_
  rintro r w3 ⟨rfl, hb3⟩
  have B3 := Lib.hid (Below.step BW.out hb3)
  have X3 := Lib.hid (BX.out.below hb3 BX.out.lt)
  clear hb3 CR BW BX hw2
  by_cases hr : rightA v A L = true
  · have TE : Hid (textE v A L = textZ v A L) := Lib.hid (if_pos hr)
    have TR : Hid (textR v A L = 0) := Lib.hid (if_pos hr)
    obtain ⟨q0, q1, _⟩ := RI.out.1 hr
    rw [hr]
    clear RI hr
    have S4 := Lib.hid (Blk.new w3 22 Z16)
    have K4 : Hid (Blk ((w3.alloc (.cells Z16 22)).setRow w3.heap.size (acells A).toArray) w3.heap.size 22 (acells A).toArray) := Lib.hid (setRow_heap _ _ _ _ _ _ S4.out)
    have b4 : Below w3.heap.size w3 ((w3.alloc (.cells Z16 22)).setRow w3.heap.size (acells A).toArray) := below_setRow (box_below w3 (.cells Z16 22)) (Nat.le_refl _) _
    have B4 := Lib.hid (Below.step B3.out b4)
    have X4 := Lib.hid (X3.out.below b4 X3.out.lt)
    have SAZ : Hid ((Tryd.prog.info? 22).map (·.size) = some (acells A).toArray.size) := Lib.hid (by rw [Tryd.sizeA hA16]; simp)
    have SZ : Hid (Z16.size = (acells A).toArray.size) := Lib.hid (by simp [Z16, acells_len hA16])
    have S1 : Hid ((acells A).toArray.all (·.oneCell') = true) := Lib.hid (all_oneCell_toArray (fun u hu => by obtain ⟨_, _, rfl⟩ := List.mem_map.1 hu; rfl))
    clear b4 B3
    go_wp2_with (first
      | (refine wpList_load_mid rfl 22 (.tmp 9) rfl w.heap.size 1 rfl (acells A) (.array 16 5) (X3.out.range hA16) Tryd.underlying22 rfl (Tryd.sizeA hA16) ?_)
      | (refine Great.wpList_allocTo rfl (some 4) rfl (.pointer (some ⟨w3.heap.size, 0, none⟩)) (.cells Z16 22) rfl ?_)
      | (refine wpList_store_rowTo rfl 22 (.tmp 4) (.tmp 10) rfl rfl w3.heap.size (acells A).toArray rfl rfl 22 Z16 S4.out SAZ.out SZ.out S1.out ?_))
    simp only [Act.put, List.setIfInBounds_toArray, List.set_cons_zero, List.set_cons_succ]
    have c0 := (K4.out.cell 0).trans (List.getElem?_toArray.trans (acells_at hA16 0 (by omega)))
    have c1 := (K4.out.cell 1).trans (List.getElem?_toArray.trans (acells_at hA16 1 (by omega)))
    have c2 := (K4.out.cell 2).trans (List.getElem?_toArray.trans (acells_at hA16 2 (by omega)))
    have c3 := (K4.out.cell 3).trans (List.getElem?_toArray.trans (acells_at hA16 3 (by omega)))
    generalize (w3.alloc (.cells Z16 22)).setRow w3.heap.size (acells A).toArray = w4 at *
    generalize w3.heap.size = g4 at *
    have CD : Hid (∀ (q : Nat) (W : World), Calls Tryd.prog 24 #[.int .i64 (A[q]?.getD 0), .int .i64 10] W fun e w' => e = .returned (.string (strOfNums (decZ A q))) ∧ ∃ m, w' = W.drewN m) := Lib.hid (fun q W => by
      have x := sixteen_at HA.out q
      have h := rdigits_any 10 (by omega) (by omega) (A[q]?.getD 0).toNat (by omega) W
      rw [show (((A[q]?.getD 0).toNat : Nat) : Int) = A[q]?.getD 0 by omega, show ((10 : Nat) : Int) = 10 from rfl] at h
      exact h)
    have x0 := sixteen_at HA.out 0
    have x1 := sixteen_at HA.out 1
    have x2 := sixteen_at HA.out 2
    have x3 := sixteen_at HA.out 3
    have k0 : IntKind.i64.wrap (A[0]?.getD 0) = A[0]?.getD 0 := IntWalk.i64_in _ (by omega)
    have k1 : IntKind.i64.wrap (A[1]?.getD 0) = A[1]?.getD 0 := IntWalk.i64_in _ (by omega)
    have k2 : IntKind.i64.wrap (A[2]?.getD 0) = A[2]?.getD 0 := IntWalk.i64_in _ (by omega)
    have k3 : IntKind.i64.wrap (A[3]?.getD 0) = A[3]?.getD 0 := IntWalk.i64_in _ (by omega)
    have z0 : (strOfNums (decZ A 0)).size ≤ 256 := by rw [strOfNums_size]; exact (dec_ok HA.out 0).2
    have z1 : (strOfNums (decZ A 1)).size ≤ 256 := by rw [strOfNums_size]; exact (dec_ok HA.out 1).2
    have z2 : (strOfNums (decZ A 2)).size ≤ 256 := by rw [strOfNums_size]; exact (dec_ok HA.out 2).2
    have z3 : (strOfNums (decZ A 3)).size ≤ 256 := by rw [strOfNums_size]; exact (dec_ok HA.out 3).2
    have FS : Hid (strOfNums (decZ A 0) ++ ⟨#[46]⟩ ++ strOfNums (decZ A 1) ++ ⟨#[46]⟩ ++ strOfNums (decZ A 2) ++ ⟨#[46]⟩ ++ strOfNums (decZ A 3) = strOfNums (fourZ A)) := Lib.hid (by unfold fourZ; simp only [str_append]; rfl)
    obtain ⟨a0, h0⟩ : ∃ a0, A[0]?.getD 0 = a0 := ⟨_, rfl⟩
    have CD0 := Lib.hid (CD.out 0)
    rw [h0] at CD0 c0 x0 k0
    clear h0
    obtain ⟨a1, h1⟩ : ∃ a1, A[1]?.getD 0 = a1 := ⟨_, rfl⟩
    have CD1 := Lib.hid (CD.out 1)
    rw [h1] at CD1 c1 x1 k1
    clear h1
    obtain ⟨a2, h2⟩ : ∃ a2, A[2]?.getD 0 = a2 := ⟨_, rfl⟩
    have CD2 := Lib.hid (CD.out 2)
    rw [h2] at CD2 c2 x2 k2
    clear h2
    obtain ⟨a3, h3⟩ : ∃ a3, A[3]?.getD 0 = a3 := ⟨_, rfl⟩
    have CD3 := Lib.hid (CD.out 3)
    rw [h3] at CD3 c3 x3 k3
    clear h3
    clear CD
    have m0 := cell_later c0
    have m1 := cell_later c1
    have m2 := cell_later c2
    have m3 := cell_later c3
    clear X3 S4 SZ c0 c1 c2 c3
    refine wp_region_ord Ext Ext.refl (fun _ _ _ => Ext.trans) ((0, false) :: (1, false) :: (2, false) :: (5, false) :: (6, false) :: (7, false) :: (11, false) :: (12, false) :: (13, false) :: (17, false) :: (18, false) :: (19, false) :: (3, true) :: (4, false) :: (8, true) :: (9, false) :: (10, false) :: (14, true) :: (15, false) :: (16, false) :: (20, true) :: (21, false) :: (22, false) :: []) (by kernel_rfl) (by kernel_rfl) rfl (by kernel_rfl) (fun _ _ _ _ _ h => h) ?_
    repeat (refine ord_take _ rfl (by rfl) (fun W hW => by go_simp; first | done | rfl | rw [if_neg (by omega)] | rw [if_neg (by simp; omega)]) ?_; simp only [Act.put, List.setIfInBounds_toArray, List.set_cons_zero, List.set_cons_succ])
    clear m0 m1 m2 m3
    refine ord_sole rfl (by rfl) (fun K1 hK1 => ?_)
    go_simp
    refine (CD0.out _).mono ?_
    rintro r w5 ⟨rfl, q5, rfl⟩
    refine hK1 _ _ ⟨rfl, rfl, rfl, Nat.le_refl _, fun _ _ => rfl⟩ ?_
    clear hK1 K1
    repeat (refine ord_take _ rfl (by rfl) (fun W hW => by go_simp; first | done | rfl | rw [if_neg (by omega)] | rw [if_neg (by simp; omega)]) ?_; simp only [Act.put, List.setIfInBounds_toArray, List.set_cons_zero, List.set_cons_succ])
    refine ord_sole rfl (by rfl) (fun K1 hK1 => ?_)
    go_simp
    refine (CD1.out _).mono ?_
    rintro r w6 ⟨rfl, q6, rfl⟩
    refine hK1 _ _ ⟨rfl, rfl, rfl, Nat.le_refl _, fun _ _ => rfl⟩ ?_
    clear hK1 K1
    repeat (refine ord_take _ rfl (by rfl) (fun W hW => by go_simp; first | done | rfl | rw [if_neg (by omega)] | rw [if_neg (by simp; omega)]) ?_; simp only [Act.put, List.setIfInBounds_toArray, List.set_cons_zero, List.set_cons_succ])
    refine ord_sole rfl (by rfl) (fun K1 hK1 => ?_)
    go_simp
    refine (CD2.out _).mono ?_
    rintro r w7 ⟨rfl, q7, rfl⟩
    refine hK1 _ _ ⟨rfl, rfl, rfl, Nat.le_refl _, fun _ _ => rfl⟩ ?_
    clear hK1 K1
    repeat (refine ord_take _ rfl (by rfl) (fun W hW => by go_simp; first | done | rfl | rw [if_neg (by omega)] | rw [if_neg (by simp; omega)]) ?_; simp only [Act.put, List.setIfInBounds_toArray, List.set_cons_zero, List.set_cons_succ])
    refine ord_sole rfl (by rfl) (fun K1 hK1 => ?_)
    go_simp
    refine (CD3.out _).mono ?_
    rintro r w8 ⟨rfl, q8, rfl⟩
    refine hK1 _ _ ⟨rfl, rfl, rfl, Nat.le_refl _, fun _ _ => rfl⟩ ?_
    clear hK1 K1
    repeat (refine ord_take _ rfl (by rfl) (fun W hW => by go_simp; first | done | rfl | rw [if_neg (by omega)] | rw [if_neg (by simp; omega)]) ?_; simp only [Act.put, List.setIfInBounds_toArray, List.set_cons_zero, List.set_cons_succ])
    refine ord_end ?_
    have B9 : Hid (Below w.heap.size w ((w4.drewN (1 + q5 + q6 + q7)).drewN q8)) := Lib.hid (Below.step B4.out ⟨rfl, rfl, rfl, Nat.le_refl _, fun _ _ => rfl⟩)
    have K9 : Hid (Blk ((w4.drewN (1 + q5 + q6 + q7)).drewN q8) g4 22 (acells A).toArray) := K4
    have X9 : Hid (PBlk ((w4.drewN (1 + q5 + q6 + q7)).drewN q8) w.heap.size v A L) := X4
    rw [FS.out]
    clear CD0 CD1 CD2 CD3 B4 K4 X4 z0 z1 z2 z3 FS
    generalize (w4.drewN (1 + q5 + q6 + q7)).drewN q8 = w9 at *
    have cv := X9.out.v
    have cl := X9.out.l hA16
    have CL : Hid (∀ W : World, Calls Tryd.prog 24 #[.int .i64 L, .int .i64 10] W fun e w' => e = .returned (.string (strOfNums (digZ 10 L.toNat))) ∧ ∃ m, w' = W.drewN m) := Lib.hid (fun W => by
      have h := rdigits_any 10 (by omega) (by omega) L.toNat (by omega) W
      rw [show ((L.toNat : Nat) : Int) = L by omega, show ((10 : Nat) : Int) = 10 from rfl] at h
      exact h)
    have zL : (strOfNums (digZ 10 L.toNat)).size ≤ 129 := by rw [strOfNums_size]; have := dig_len (b := 10) (by omega) L.toNat; omega
    cases v with
    | true =>
      have CX := Lib.hid (rsix_any A w9 HA.out)
      have zS : (strOfNums (sixZ A)).size ≤ 2000000 := by rw [strOfNums_size]; exact (six_ok HA.out).2
      have TS : Hid (strOfNums (sixZ A) ++ ⟨#[47]⟩ ++ strOfNums (digZ 10 L.toNat) = strOfNums (textZ true A L)) := Lib.hid (by unfold textZ; simp only [str_append, if_true]; rfl)
      rw [← TE.out] at TS
      generalize strOfNums (sixZ A) = SX at *
      generalize strOfNums (digZ 10 L.toNat) = DL at *
      go_wp2_with (refine wpList_load_row rfl 22 (.tmp 4) rfl g4 rfl 22 (acells A).toArray (0, 0) (.array 16 5) K9.out Tryd.underlying22 rfl SAZ.out ?_)
      refine CX.out.mono ?_
      rintro r w10 ⟨rfl, hb10⟩
      have B10 := Lib.hid (Below.step B9.out hb10)
      have cl := (X9.out.below hb10 X9.out.lt).l hA16
      clear hb10 CX B9 K9 X9 cv
      go_wp2_with fail
      refine (CL.out _).mono ?_
      rintro r w11 ⟨rfl, q11, rfl⟩
      have B11 := Lib.hid (Below.step B10.out (drewN_below w10 q11))
      generalize w10.drewN q11 = w12 at *
      go_wp2_with fail
      go_ret2
      exact ⟨by rw [← TS.out, TR.out]; rfl, B11.out⟩
    | false =>
      have zS : (strOfNums (fourZ A)).size ≤ 2000000 := by rw [strOfNums_size]; have := (four_ok HA.out).2; omega
      have TS : Hid (strOfNums (fourZ A) ++ ⟨#[47]⟩ ++ strOfNums (digZ 10 L.toNat) = strOfNums (textZ false A L)) := Lib.hid (by unfold textZ; simp only [str_append]; rfl)
      rw [← TE.out] at TS
      generalize strOfNums (fourZ A) = SX at *
      generalize strOfNums (digZ 10 L.toNat) = DL at *
      go_wp2_with fail
      refine (CL.out _).mono ?_
      rintro r w11 ⟨rfl, q11, rfl⟩
      have B11 := Lib.hid (Below.step B9.out (drewN_below w9 q11))
      generalize w9.drewN q11 = w12 at *
      go_wp2_with fail
      go_ret2
      exact ⟨by rw [← TS.out, TR.out]; rfl, B11.out⟩
  · have TE : Hid (textE v A L = []) := Lib.hid (if_neg hr)
    have TR : Hid (textR v A L = 1) := Lib.hid (if_neg hr)
    have hr' : rightA v A L = false := by simpa using hr
    rw [hr']
    go_wp2_with fail
    go_ret2
    exact ⟨by rw [TE.out, TR.out]; rfl, B3.out⟩

end Go.Proofs.YtpekpgmdjpcpiaaDoor

namespace Go.Proofs.YtpekpgmdjpcpiaaDoor
open Go.RowKit
set_option linter.unusedVariables false

/-- A digit's value; a number that goes on. -/
def digV (c : Int) : Int := if 97 ≤ c ∧ c ≤ 102 then c - 87 else if 48 ≤ c ∧ c ≤ 57 then c - 48 else 99
def numG (b m : Int) : Int → List Int → Int
  | n, [] => n
  | n, c :: cs => if b ≤ digV c ∨ m < n * b + digV c then -1 else numG b m (n * b + digV c) cs
theorem digV_rng (c : Int) : 0 ≤ digV c ∧ digV c ≤ 99 := by
  unfold digV
  split
  · omega
  · split <;> omega

set_option maxHeartbeats 2000000 in
set_option maxRecDepth 10000 in
theorem rnumber_any (s : ByteArray) (b m : Int) (w : World) (hs : s.size ≤ 1000) (hb0 : 2 ≤ b) (hb1 : b ≤ 16) (hm0 : 0 ≤ m) (hm1 : m ≤ 65535) :
    Calls Tryd.prog 28 #[.string s, .int .i64 b, .int .i64 m] w fun e w' => e = .returned (.int .i64 (numG b m 0 (numsOf s))) ∧ w' = w := by
  go_enter Tryd.func28, Tryd.ntmps28
  go_wp2_with fail
  go_loopg [7, 8] s.size (fun gk nV iV wr => ∃ (k : Nat) (n : Int), gk + k = s.size ∧ iV = .int .i64 (k : Int) ∧ nV = .int .i64 n ∧ 0 ≤ n ∧ n ≤ m ∧ wr = w ∧ numG b m 0 (numsOf s) = numG b m n ((numsOf s).drop k))
  case atStart => exact ⟨0, 0, rfl, rfl, rfl, by omega, hm0, rfl, by rw [List.drop_zero]⟩
  case round =>
    obtain ⟨k, n, hgk, rfl, rfl, hn0, hn1, rfl, hg⟩ := hrel
    have G := Lib.hid hg
    clear hg
    by_cases hlt : k < s.size
    · have t0 : decide (k < s.size) = true := decide_eq_true hlt
      have t0' : decide ((k : Int) < (s.size : Int)) = true := decide_eq_true (by omega)
      obtain ⟨g, rfl⟩ : ∃ g, gk = g + 1 := ⟨gk - 1, by omega⟩
      have hi := str_at s k hlt (k : Int) rfl
      have hc := nth_range s k
      have D : Hid ((numsOf s).drop k = nth s k :: (numsOf s).drop (k + 1)) := Lib.hid (by
        rw [List.drop_eq_getElem_cons (by rw [numsOf_length]; exact hlt)]
        unfold nth
        rw [List.getElem?_eq_getElem (by rw [numsOf_length]; exact hlt)]
        rfl)
      generalize nth s k = c at hi hc D
      have hd := digV_rng c
      have G2 : Hid (numG b m 0 (numsOf s) = if b ≤ digV c ∨ m < n * b + digV c then -1 else numG b m (n * b + digV c) ((numsOf s).drop (k + 1))) := Lib.hid (by rw [G.out, D.out, numG])
      clear G D
      have nb0 : 0 ≤ n * b := Int.mul_nonneg hn0 (by omega)
      have nb1 : n * b ≤ 65535 * 16 := Int.mul_le_mul (by omega) hb1 (by omega) (by omega)
      have k1 : IntKind.i64.wrap (n * b) = n * b := IntWalk.i64_in _ (by omega)
      have k2 : IntKind.i64.wrap ((k : Int) + 1) = (k : Int) + 1 := IntWalk.i64_in _ (by omega)
      by_cases hk0 : c < 48
      · have DV : digV c = 99 := by unfold digV; rw [if_neg (by omega), if_neg (by omega)]
        have t1 : decide (48 ≤ c) = false := by simp; omega
        have t2 : decide (97 ≤ c) = false := by simp; omega
        rw [DV] at G2 hd
        clear DV
        have k3 : IntKind.i64.wrap (n * b + 99) = n * b + 99 := IntWalk.i64_in _ (by omega)
        by_cases hbd : b ≤ 99
        · have s1 : decide (b ≤ 99) = true := decide_eq_true hbd
          have R : Hid (numG b m 0 (numsOf s) = -1) := Lib.hid (by rw [G2.out, if_pos (.inl hbd)])
          clear G2 hbd
          go_wp2_with fail
          go_ret
          exact ⟨by rw [R.out] <;> rfl, rfl⟩
        have s1 : decide (b ≤ 99) = false := decide_eq_false hbd
        by_cases hmd : m < n * b + 99
        · have s2 : decide (m < n * b + 99) = true := decide_eq_true hmd
          have R : Hid (numG b m 0 (numsOf s) = -1) := Lib.hid (by rw [G2.out, if_pos (.inr hmd)])
          clear G2 hmd
          go_wp2_with fail
          go_ret
          exact ⟨by rw [R.out] <;> rfl, rfl⟩
        have s2 : decide (m < n * b + 99) = false := decide_eq_false hmd
        have R : Hid (numG b m 0 (numsOf s) = numG b m (n * b + 99) ((numsOf s).drop (k + 1))) := Lib.hid (by rw [G2.out, if_neg (by omega)])
        clear G2
        go_wp2_with fail
        go_roundg g
        case measure => omega
        case rel => exact ⟨k + 1, _, by omega, by go_num, rfl, by omega, by omega, rfl, R.out⟩
      by_cases hk1 : c ≤ 57
      · have DV : digV c = c - 48 := by unfold digV; rw [if_neg (by omega), if_pos (by omega)]
        have t1 : decide (48 ≤ c) = true := by simp; omega
        have t2 : decide (c ≤ 57) = true := by simp; omega
        have t3 : decide (97 ≤ c) = false := by simp; omega
        rw [DV] at G2 hd
        clear DV
        have u1 : IntKind.u8.wrap (c - 48) = c - 48 := IntWalk.u8_in _ (by omega)
        have u2 : IntKind.i64.wrap (c - 48) = c - 48 := IntWalk.i64_in _ (by omega)
        have k3 : IntKind.i64.wrap (n * b + (c - 48)) = n * b + (c - 48) := IntWalk.i64_in _ (by omega)
        by_cases hbd : b ≤ (c - 48)
        · have s1 : decide (b ≤ (c - 48)) = true := decide_eq_true hbd
          have R : Hid (numG b m 0 (numsOf s) = -1) := Lib.hid (by rw [G2.out, if_pos (.inl hbd)])
          clear G2 hbd
          go_wp2_with fail
          go_ret
          exact ⟨by rw [R.out] <;> rfl, rfl⟩
        have s1 : decide (b ≤ (c - 48)) = false := decide_eq_false hbd
        by_cases hmd : m < n * b + (c - 48)
        · have s2 : decide (m < n * b + (c - 48)) = true := decide_eq_true hmd
          have R : Hid (numG b m 0 (numsOf s) = -1) := Lib.hid (by rw [G2.out, if_pos (.inr hmd)])
          clear G2 hmd
          go_wp2_with fail
          go_ret
          exact ⟨by rw [R.out] <;> rfl, rfl⟩
        have s2 : decide (m < n * b + (c - 48)) = false := decide_eq_false hmd
        have R : Hid (numG b m 0 (numsOf s) = numG b m (n * b + (c - 48)) ((numsOf s).drop (k + 1))) := Lib.hid (by rw [G2.out, if_neg (by omega)])
        clear G2
        go_wp2_with fail
        go_roundg g
        case measure => omega
        case rel => exact ⟨k + 1, _, by omega, by go_num, rfl, by omega, by omega, rfl, R.out⟩
      by_cases hk2 : c < 97
      · have DV : digV c = 99 := by unfold digV; rw [if_neg (by omega), if_neg (by omega)]
        have t1 : decide (48 ≤ c) = true := by simp; omega
        have t2 : decide (c ≤ 57) = false := by simp; omega
        have t3 : decide (97 ≤ c) = false := by simp; omega
        rw [DV] at G2 hd
        clear DV
        have k3 : IntKind.i64.wrap (n * b + 99) = n * b + 99 := IntWalk.i64_in _ (by omega)
        by_cases hbd : b ≤ 99
        · have s1 : decide (b ≤ 99) = true := decide_eq_true hbd
          have R : Hid (numG b m 0 (numsOf s) = -1) := Lib.hid (by rw [G2.out, if_pos (.inl hbd)])
          clear G2 hbd
          go_wp2_with fail
          go_ret
          exact ⟨by rw [R.out] <;> rfl, rfl⟩
        have s1 : decide (b ≤ 99) = false := decide_eq_false hbd
        by_cases hmd : m < n * b + 99
        · have s2 : decide (m < n * b + 99) = true := decide_eq_true hmd
          have R : Hid (numG b m 0 (numsOf s) = -1) := Lib.hid (by rw [G2.out, if_pos (.inr hmd)])
          clear G2 hmd
          go_wp2_with fail
          go_ret
          exact ⟨by rw [R.out] <;> rfl, rfl⟩
        have s2 : decide (m < n * b + 99) = false := decide_eq_false hmd
        have R : Hid (numG b m 0 (numsOf s) = numG b m (n * b + 99) ((numsOf s).drop (k + 1))) := Lib.hid (by rw [G2.out, if_neg (by omega)])
        clear G2
        go_wp2_with fail
        go_roundg g
        case measure => omega
        case rel => exact ⟨k + 1, _, by omega, by go_num, rfl, by omega, by omega, rfl, R.out⟩
      by_cases hk3 : c ≤ 102
      · have DV : digV c = c - 87 := by unfold digV; rw [if_pos (by omega)]
        have t1 : decide (48 ≤ c) = true := by simp; omega
        have t2 : decide (c ≤ 57) = false := by simp; omega
        have t3 : decide (97 ≤ c) = true := by simp; omega
        have t4 : decide (c ≤ 102) = true := by simp; omega
        rw [DV] at G2 hd
        clear DV
        have u1 : IntKind.u8.wrap (c - 97) = c - 97 := IntWalk.u8_in _ (by omega)
        have u2 : IntKind.i64.wrap (c - 97) = c - 97 := IntWalk.i64_in _ (by omega)
        have u3 : IntKind.i64.wrap (c - 97 + 10) = c - 97 + 10 := IntWalk.i64_in _ (by omega)
        have ud : c - 87 = c - 97 + 10 := by omega
        rw [ud] at G2 hd
        clear ud
        have k3 : IntKind.i64.wrap (n * b + (c - 97 + 10)) = n * b + (c - 97 + 10) := IntWalk.i64_in _ (by omega)
        by_cases hbd : b ≤ (c - 97 + 10)
        · have s1 : decide (b ≤ (c - 97 + 10)) = true := decide_eq_true hbd
          have R : Hid (numG b m 0 (numsOf s) = -1) := Lib.hid (by rw [G2.out, if_pos (.inl hbd)])
          clear G2 hbd
          go_wp2_with fail
          go_ret
          exact ⟨by rw [R.out] <;> rfl, rfl⟩
        have s1 : decide (b ≤ (c - 97 + 10)) = false := decide_eq_false hbd
        by_cases hmd : m < n * b + (c - 97 + 10)
        · have s2 : decide (m < n * b + (c - 97 + 10)) = true := decide_eq_true hmd
          have R : Hid (numG b m 0 (numsOf s) = -1) := Lib.hid (by rw [G2.out, if_pos (.inr hmd)])
          clear G2 hmd
          go_wp2_with fail
          go_ret
          exact ⟨by rw [R.out] <;> rfl, rfl⟩
        have s2 : decide (m < n * b + (c - 97 + 10)) = false := decide_eq_false hmd
        have R : Hid (numG b m 0 (numsOf s) = numG b m (n * b + (c - 97 + 10)) ((numsOf s).drop (k + 1))) := Lib.hid (by rw [G2.out, if_neg (by omega)])
        clear G2
        go_wp2_with fail
        go_roundg g
        case measure => omega
        case rel => exact ⟨k + 1, _, by omega, by go_num, rfl, by omega, by omega, rfl, R.out⟩
      have DV : digV c = 99 := by unfold digV; rw [if_neg (by omega), if_neg (by omega)]
      have t1 : decide (48 ≤ c) = true := by simp; omega
      have t2 : decide (c ≤ 57) = false := by simp; omega
      have t3 : decide (97 ≤ c) = true := by simp; omega
      have t4 : decide (c ≤ 102) = false := by simp; omega
      rw [DV] at G2 hd
      clear DV
      have k3 : IntKind.i64.wrap (n * b + 99) = n * b + 99 := IntWalk.i64_in _ (by omega)
      by_cases hbd : b ≤ 99
      · have s1 : decide (b ≤ 99) = true := decide_eq_true hbd
        have R : Hid (numG b m 0 (numsOf s) = -1) := Lib.hid (by rw [G2.out, if_pos (.inl hbd)])
        clear G2 hbd
        go_wp2_with fail
        go_ret
        exact ⟨by rw [R.out] <;> rfl, rfl⟩
      have s1 : decide (b ≤ 99) = false := decide_eq_false hbd
      by_cases hmd : m < n * b + 99
      · have s2 : decide (m < n * b + 99) = true := decide_eq_true hmd
        have R : Hid (numG b m 0 (numsOf s) = -1) := Lib.hid (by rw [G2.out, if_pos (.inr hmd)])
        clear G2 hmd
        go_wp2_with fail
        go_ret
        exact ⟨by rw [R.out] <;> rfl, rfl⟩
      have s2 : decide (m < n * b + 99) = false := decide_eq_false hmd
      have R : Hid (numG b m 0 (numsOf s) = numG b m (n * b + 99) ((numsOf s).drop (k + 1))) := Lib.hid (by rw [G2.out, if_neg (by omega)])
      clear G2
      go_wp2_with fail
      go_roundg g
      case measure => omega
      case rel => exact ⟨k + 1, _, by omega, by go_num, rfl, by omega, by omega, rfl, R.out⟩
    · have t0 : decide (k < s.size) = false := decide_eq_false hlt
      have t0' : decide ((k : Int) < (s.size : Int)) = false := decide_eq_false (by omega)
      have R : Hid (numG b m 0 (numsOf s) = n) := Lib.hid (by rw [G.out, List.drop_eq_nil_of_le (by rw [numsOf_length]; omega), numG])
      clear G
      go_wp2_with fail
      go_ret
      exact ⟨by rw [R.out] <;> rfl, rfl⟩

end Go.Proofs.YtpekpgmdjpcpiaaDoor

namespace Go.Proofs.YtpekpgmdjpcpiaaDoor
open Go.RowKit
set_option linter.unusedVariables false

/-- A slice value with n elements reads as these texts; where there is an element, it lies in a block of this world. -/
def SRow (w : World) (a : Option Addr) (n : Nat) (ss : List ByteArray) : Prop :=
  ss.length = n ∧ (0 < n → ∃ b off, a = some ⟨b, off, none⟩ ∧ b < w.heap.size ∧ ∀ i, i < n → w.cell? ⟨b, off + i, none⟩ = some (.string (ss[i]?.getD ByteArray.empty)))
theorem SRow.below {w w' : World} {a : Option Addr} {n : Nat} {ss : List ByteArray} (h : SRow w a n ss) (hb : Below w.heap.size w w') : SRow w' a n ss := by
  refine ⟨h.1, fun hn => ?_⟩
  obtain ⟨b, off, e, hlt, hc⟩ := h.2 hn
  exact ⟨b, off, e, Nat.lt_of_lt_of_le hlt hb.size, fun i hi => (hb.cell (p := ⟨b, off + i, none⟩) hlt).trans (hc i hi)⟩
theorem SRow.first {w : World} {a : Option Addr} {n : Nat} {ss : List ByteArray} (h : SRow w a n ss) (k : Nat) (hk : k ≤ n) : SRow w a k (ss.take k) := by
  have hl := h.1
  refine ⟨by rw [List.length_take]; omega, fun h0 => ?_⟩
  obtain ⟨b, off, e, hb, hc⟩ := h.2 (by omega)
  exact ⟨b, off, e, hb, fun i hi => by rw [hc i (by omega), List.getElem?_take, if_pos hi]⟩

theorem Tryd.infoStr : (Tryd.prog.info? 9).map (fun i => (i.zero, i.size, i.bytes)) = some (some (.string ByteArray.empty), 1, 16) := by kernel_rfl

/-- The slice V is the call's own, in memory newer than W0, and reads as these texts. -/
def SOut (W0 wr : World) (V : Value) (L : List ByteArray) : Prop := wr.ownsRow W0.heap.size 9 1 V L.length (L.map Value.string) ∧ Below W0.heap.size W0 wr
theorem SOut.below {W0 wr w' : World} {V : Value} {L : List ByteArray} (h : SOut W0 wr V L) (hb : Below wr.heap.size wr w') : SOut W0 w' V L := by
  refine ⟨⟨h.1.1, ?_⟩, h.2.trans (hb.mono h.2.size)⟩
  rcases h.1.2 with h' | ⟨g, cap, cur, e, h1, h2, h3⟩
  · exact .inl h'
  · exact .inr ⟨g, cap, cur, e, h1, (hb.block g (Array.getElem?_eq_some_iff.1 h2).1).trans h2, h3⟩
theorem SOut.alloc {W0 wr : World} {V : Value} {L : List ByteArray} (h : SOut W0 wr V L) (o : Obj) : SOut W0 (wr.alloc o) V L := h.below ((Below.refl _ _).alloc (Nat.le_refl _) o)
theorem SOut.start (w : World) : SOut w w (.slice none 0 0) [] := ⟨World.ownsRow_nil _ _ _ _, Below.refl _ _⟩
theorem SOut.row {W0 wr : World} {V : Value} {L : List ByteArray} (h : SOut W0 wr V L) : ∃ a c, V = .slice a L.length c ∧ SRow wr a L.length L := by
  rcases h.1.2 with ⟨rfl, h0⟩ | ⟨g, cap, cur, rfl, h1, h2, h3⟩
  · have : L = [] := List.eq_nil_of_length_eq_zero h0
    subst this
    exact ⟨none, 0, rfl, rfl, fun h => absurd h (by simp)⟩
  · refine ⟨_, cap, rfl, rfl, fun hn => ⟨g, 0, rfl, (h.1.lt g rfl).2, fun i hi => ?_⟩⟩
    rw [Nat.zero_add, h.1.cellAt i (by omega), List.getElem?_map, List.getElem?_eq_getElem hi]
    rfl

/-- One text is appended: it was laid in a new block of one cell. -/
theorem sout_append {ops : Array Oper} {rest : List Oper} {o : Oper} {a : Act} {Q : Exit → Act → World → Prop} {W0 wr : World} {V : Value} {L : List ByteArray} {s : ByteArray} (hgd : o.guard = none) (x y : Operand)
    (hop : o.op = .call { callee := .builtin .append, args := #[x, y], argTypes := #[43, 43] }) (hs : a.eval x = V) (hout : SOut W0 wr V L) (hx : a.eval y = .slice (some ⟨wr.heap.size, 0, none⟩) 1 1) (hl : L.length + 1 ≤ 1000000)
    (h : ∀ V' w', SOut W0 w' V' (L ++ [s]) → wpList Tryd.prog ops Q rest (a.put o.dst V') w') : wpList Tryd.prog ops Q (o :: rest) a (wr.alloc (.cells #[.string s] 9 (0, 0))) := by
  obtain ⟨i0, hi5, hz0, hz1, hz2⟩ := info_parts Tryd.infoStr
  refine wpList_append_own _ hgd x y 43 hop W0.heap.size 9 i0 (.string ByteArray.empty) 1 16 Tryd.underlying43 hi5 hz0 hz1 hz2 rfl (by decide) V L.length (L.map Value.string) hs (hout.alloc _).1 ⟨wr.heap.size, 0, none⟩ 1 1 [.string s] hx rfl ?_ ?_ (by unfold maxLen; omega) (by omega) (hout.alloc (.cells #[.string s] 9 (0, 0))).2.size ?_
  · intro j u hu
    cases j with
    | zero =>
      obtain rfl : Value.string s = u := by simpa using hu
      have e := heap_alloc_new wr (.cells #[.string s] 9 (0, 0))
      simp only [Addr.add_lit, World.cell?, e]
      rfl
    | succ j => simp at hu
  · intro u hu
    obtain rfl : u = Value.string s := by simpa using hu
    rfl
  · intro V' w' hown hg _
    refine h V' w' ⟨?_, (hout.alloc (.cells #[.string s] 9 (0, 0))).2.grown hg (hout.alloc (.cells #[.string s] 9 (0, 0))).2.size (fun k hk => ((hout.alloc (.cells #[.string s] 9 (0, 0))).1.lt k hk).1)⟩
    rw [List.length_append, List.map_append]
    exact hown


/-- A text's parts: cur is the one at hand. -/
def partsZ (c : Int) : List Int → List Int → List (List Int)
  | cur, [] => [cur]
  | cur, x :: xs => if x = c then cur :: partsZ c [] xs else partsZ c (cur ++ [x]) xs
def cutZ (l : List Int) (a k : Nat) : List Int := (l.drop a).take (k - a)
def PartsAt (s : ByteArray) (c : Int) (k a : Nat) (D : List (List Int)) : Prop :=
  a ≤ k ∧ D.length ≤ k ∧ ((k ≤ s.size ∧ partsZ c [] (numsOf s) = D ++ partsZ c (cutZ (numsOf s) a k) ((numsOf s).drop k)) ∨ (k = s.size + 1 ∧ partsZ c [] (numsOf s) = D))
theorem pa_start (s : ByteArray) (c : Int) : PartsAt s c 0 0 [] := ⟨Nat.le_refl _, Nat.le_refl _, .inl ⟨Nat.zero_le _, rfl⟩⟩
theorem drop_nth (s : ByteArray) {k : Nat} (h : k < s.size) : (numsOf s).drop k = nth s k :: (numsOf s).drop (k + 1) := by
  rw [List.drop_eq_getElem_cons (by rw [numsOf_length]; exact h)]
  unfold nth
  rw [List.getElem?_eq_getElem (by rw [numsOf_length]; exact h)]
  rfl
theorem cut_more (s : ByteArray) {a k : Nat} (ha : a ≤ k) (h : k < s.size) : cutZ (numsOf s) a (k + 1) = cutZ (numsOf s) a k ++ [nth s k] := by
  unfold cutZ nth
  rw [show k + 1 - a = (k - a) + 1 by omega, List.take_add_one, List.getElem?_drop, show a + (k - a) = k by omega, List.getElem?_eq_getElem (by rw [numsOf_length]; exact h)]
  rfl
theorem ext_cut (s : ByteArray) (a k : Nat) : s.extract a k = strOfNums (cutZ (numsOf s) a k) := by
  rw [cutZ, ← nums_extract, str_nums]
theorem pa_step {s : ByteArray} {c : Int} {k a : Nat} {D : List (List Int)} (h : PartsAt s c k a D) (hk : k < s.size) (hc : nth s k ≠ c) : PartsAt s c (k + 1) a D := by
  obtain ⟨h1, h2, ⟨_, h3⟩ | ⟨h3, _⟩⟩ := h
  · refine ⟨by omega, by omega, .inl ⟨by omega, ?_⟩⟩
    rw [h3, drop_nth s hk, partsZ, if_neg hc, cut_more s h1 hk]
  · omega
theorem pa_at {s : ByteArray} {c : Int} {k a : Nat} {D : List (List Int)} (h : PartsAt s c k a D) (hk : k < s.size) (hc : nth s k = c) : PartsAt s c (k + 1) (k + 1) (D ++ [cutZ (numsOf s) a k]) := by
  obtain ⟨h1, h2, ⟨_, h3⟩ | ⟨h3, _⟩⟩ := h
  · refine ⟨by omega, by rw [List.length_append, List.length_singleton]; omega, .inl ⟨by omega, ?_⟩⟩
    have e : cutZ (numsOf s) (k + 1) (k + 1) = [] := by unfold cutZ; rw [Nat.sub_self, List.take_zero]
    rw [h3, drop_nth s hk, partsZ, if_pos hc, e, List.append_assoc]
    rfl
  · omega
theorem pa_end {s : ByteArray} {c : Int} {a : Nat} {D : List (List Int)} (h : PartsAt s c s.size a D) : PartsAt s c (s.size + 1) (s.size + 1) (D ++ [cutZ (numsOf s) a s.size]) := by
  obtain ⟨h1, h2, ⟨_, h3⟩ | ⟨h3, _⟩⟩ := h
  · refine ⟨by omega, by rw [List.length_append, List.length_singleton]; omega, .inr ⟨rfl, ?_⟩⟩
    rw [h3, List.drop_eq_nil_of_le (by rw [numsOf_length]; omega), partsZ]
  · omega
theorem pa_done {s : ByteArray} {c : Int} {k a : Nat} {D : List (List Int)} (h : PartsAt s c k a D) (hk : s.size < k) : partsZ c [] (numsOf s) = D := by
  obtain ⟨h1, h2, ⟨h3, _⟩ | ⟨_, h3⟩⟩ := h
  · omega
  · exact h3

/-- A row of texts. -/
def SB (D : List (List Int)) : List ByteArray := D.map strOfNums
theorem sb_more (s : ByteArray) (D : List (List Int)) (a k : Nat) : SB D ++ [s.extract a k] = SB (D ++ [cutZ (numsOf s) a k]) := by
  rw [ext_cut]
  unfold SB
  rw [List.map_append]
  rfl
theorem sb_len (D : List (List Int)) : (SB D).length = D.length := List.length_map _
theorem SOut.lo {W0 wr : World} {b off n c : Nat} {L : List ByteArray} (h : SOut W0 wr (.slice (some ⟨b, off, none⟩) n c) L) : W0.heap.size ≤ b := by
  rcases h.1.2 with ⟨e, _⟩ | ⟨g, cap, cur, e, h1, _⟩
  · cases e
  · injection e with e1
    injection e1 with e2
    injection e2 with e3
    omega
def GivesParts (s : ByteArray) (c : Int) (w : World) (e : Ending) (w' : World) : Prop :=
  ∃ a n, e = .returned (.slice a (partsZ c [] (numsOf s)).length n) ∧ SRow w' a (partsZ c [] (numsOf s)).length (SB (partsZ c [] (numsOf s))) ∧ (∀ b off, a = some ⟨b, off, none⟩ → w.heap.size ≤ b) ∧ Below w.heap.size w w'
theorem gives_parts {s : ByteArray} {c : Int} {w wr : World} {V : Value} (h : SOut w wr V (SB (partsZ c [] (numsOf s)))) : GivesParts s c w (.returned V) wr := by
  obtain ⟨a, n, rfl, hr⟩ := h.row
  rw [sb_len] at hr ⊢
  exact ⟨a, n, rfl, hr, fun b off e => by subst e; exact h.lo, h.2⟩

set_option maxHeartbeats 2000000 in
set_option maxRecDepth 10000 in
theorem rparts_any (s : ByteArray) (c : Int) (w : World) (hs : s.size ≤ 6000) (hc0 : 0 ≤ c) (hc1 : c ≤ 255) : Calls Tryd.prog 27 #[.string s, .int .u8 c] w (GivesParts s c w) := by
  go_enter Tryd.func27, Tryd.ntmps27
  go_wp2_with fail
  go_loopg [5, 6, 7] (s.size + 1) (fun gk V f i wr => ∃ (k a : Nat) (D : List (List Int)), gk + k = s.size + 1 ∧ i = .int .i64 (k : Int) ∧ f = .int .i64 (a : Int) ∧ SOut w wr V (SB D) ∧ PartsAt s c k a D)
  case atStart => exact ⟨0, 0, [], by omega, rfl, rfl, SOut.start w, pa_start s c⟩
  case round =>
    obtain ⟨k, a, D, hgk, rfl, rfl, hout, hpa⟩ := hrel
    have HO := Lib.hid hout
    have PA := Lib.hid hpa
    have ha := hpa.1
    have HL : (SB D).length + 1 ≤ 1000000 := by rw [sb_len]; have := hpa.2.1; omega
    clear hout hpa
    rcases Nat.lt_trichotomy k s.size with hlt | hlt | hlt
    · obtain ⟨g, rfl⟩ : ∃ g, gk = g + 1 := ⟨gk - 1, by omega⟩
      have hi := str_at s k hlt (k : Int) rfl
      have hb := nth_range s k
      have C := Lib.hid (rfl : nth s k = nth s k)
      by_cases hc : nth s k = c
      · have C10 := Lib.hid hc
        rw [hc] at hi
        clear hb hc
        go_wp2_with (at_builtin; refine sout_append (W0 := w) (L := SB D) rfl _ _ rfl rfl HO.out rfl (by omega) ?_; intro V2 w2 ho2; have HO2 := Lib.hid ho2; clear ho2)
        go_roundg g
        case measure => omega
        case rel => exact ⟨k + 1, k + 1, _, by omega, by go_num, by go_num, sb_more s D a k ▸ HO2.out, pa_at PA.out hlt C10.out⟩
      · have C10 := Lib.hid hc
        generalize nth s k = d at hi hb hc
        have hne : (d == c) = false := by simpa using hc
        clear hc
        go_wp2_with fail
        go_roundg g
        case measure => omega
        case rel => exact ⟨k + 1, a, _, by omega, by go_num, rfl, HO.out, pa_step PA.out hlt C10.out⟩
    · subst hlt
      obtain ⟨g, rfl⟩ : ∃ g, gk = g + 1 := ⟨gk - 1, by omega⟩
      go_wp2_with (at_builtin; refine sout_append (W0 := w) (L := SB D) rfl _ _ rfl rfl HO.out rfl (by omega) ?_; intro V2 w2 ho2; have HO2 := Lib.hid ho2; clear ho2)
      go_roundg g
      case measure => omega
      case rel => exact ⟨s.size + 1, s.size + 1, _, by omega, by go_num, by go_num, sb_more s D a s.size ▸ HO2.out, pa_end PA.out⟩
    · have E := Lib.hid (pa_done PA.out hlt)
      clear PA
      go_wp2_with fail
      go_ret
      exact gives_parts (by rw [E.out]; exact HO.out)

end Go.Proofs.YtpekpgmdjpcpiaaDoor

namespace Go.Proofs.YtpekpgmdjpcpiaaDoor
open Go.RowKit

def B56 : Int := 72057594037927936

/-- Num's answer, from a number on. -/
def numZ : Int → List Int → Int × Bool
  | n, [] => (n, true)
  | n, x :: xs => if B56 ≤ n then (0, false) else numZ (n * 256 + x) xs

theorem numZ_drop {zs : List Int} {k : Nat} (s : Int) (h : k < zs.length) : numZ s (zs.drop k) = if B56 ≤ s then (0, false) else numZ (s * 256 + zs[k]?.getD 0) (zs.drop (k + 1)) := by
  rw [List.drop_eq_getElem_cons h, numZ]
  simp [List.getElem?_eq_getElem h]

theorem num_step {zs : List Int} {k : Nat} {s x : Int} (h : k < zs.length) (hx : x = zs[k]?.getD 0) (he : numZ s (zs.drop k) = numZ 0 zs) :
    (B56 ≤ s → numZ 0 zs = (0, false)) ∧ (s < B56 → numZ (s * 256 + x) (zs.drop (k + 1)) = numZ 0 zs) := by
  rw [numZ_drop s h, ← hx] at he
  refine ⟨fun hs => ?_, fun hs => ?_⟩
  · rw [← he, if_pos hs]
  · rw [if_neg (by omega)] at he
    exact he

theorem num_end {zs : List Int} {k : Nat} {s : Int} (h : zs.length ≤ k) (he : numZ s (zs.drop k) = numZ 0 zs) : numZ 0 zs = (s, true) := by
  rw [← he, List.drop_of_length_le h, numZ]

theorem top_set {s : Int} (h : (s / 72057594037927936 != 0) = true) (h0 : 0 ≤ s) : B56 ≤ s := by
  simp at h
  unfold B56
  omega
theorem top_clear {s : Int} (h : (s / 72057594037927936 != 0) = false) : s < B56 := by
  simp at h
  unfold B56
  omega

theorem or8 {s x : Int} (h0 : 0 ≤ s) (h : s < B56) (x0 : 0 ≤ x) (x1 : x ≤ 255) : bits .or .u64 (IntKind.u64.wrap (s * 256)) x = s * 256 + x := by
  unfold B56 at h
  have hw : ∀ n : Int, 0 ≤ n → n < 2 ^ 64 → IntKind.u64.wrap n = n := by
    intro n h0 h1
    rw [IntKind.wrap_u64]
    omega
  rw [hw _ (by omega) (by omega)]
  exact bits_join .u64 64 (by decide) hw 8 _ _ (by omega) (by omega) (by omega) x0 (by omega) (by omega)

theorem ret_num {zs : List Int} {n : Int} {b : Bool} (h : numZ 0 zs = (n, b)) : Ending.returned (.tuple #[.int .u64 n, .bool b]) = .returned (.tuple #[.int .u64 (numZ 0 zs).1, .bool (numZ 0 zs).2]) := by rw [h]

set_option maxHeartbeats 400000 in
theorem num_any (a : Option Addr) (n ca : Nat) (zs : List Int) (w : World) (hx : Row w a n zs) (hn : n ≤ 1000000) :
    Calls Tryd.prog 50 #[.slice a n ca] w fun e w' => e = .returned (.tuple #[.int .u64 (numZ 0 zs).1, .bool (numZ 0 zs).2]) ∧ w' = w := by
  have HX := Lib.hid hx
  clear hx
  go_enter Tryd.func50, Tryd.ntmps50
  go_wp2
  go_loop [4, 8] (fun t i => ∃ k : Nat, ∃ s : Int, k ≤ n ∧ 0 ≤ s ∧ s ≤ 18446744073709551615 ∧ i = .int .i64 k ∧ t = .int .u64 s ∧ numZ s (zs.drop k) = numZ 0 zs) (fun _ i => n - (intOf i).toNat)
  case atStart => exact ⟨0, 0, Nat.zero_le _, by omega, by omega, rfl, rfl, rfl⟩
  case round =>
    obtain ⟨k, s, hk, hs0, hs1, rfl, rfl, he⟩ := hrel
    have HE := Lib.hid he
    clear he
    by_cases hlt : k < n
    · obtain ⟨b1, o1, rfl, hb1, hc1⟩ := HX.out.2.2 (by omega)
      have c1 := hc1 k hlt
      clear hc1
      have bx := HX.out.byte k
      have ST := Lib.hid (num_step (by rw [HX.out.1]; exact hlt) rfl HE.out)
      generalize zs[k]?.getD 0 = x at c1 bx ST
      go_wp2
      · go_ret2
        exact ⟨ret_num (ST.out.1 (top_set (by assumption) hs0)), rfl⟩
      · have ht : s < B56 := top_clear (by assumption)
        go_round
        case rel => exact ⟨k + 1, _, by omega, by omega, by unfold B56 at ht; omega, by go_num, by rw [or8 hs0 ht bx.1 bx.2], ST.out.2 ht⟩
        case measure => simp [intOf]; omega
    · go_wp2
      go_ret2
      exact ⟨ret_num (num_end (by rw [HX.out.1]; omega) HE.out), rfl⟩

end Go.Proofs.YtpekpgmdjpcpiaaDoor

namespace Go.Proofs.YtpekpgmdjpcpiaaDoor
open Go.RowKit
set_option linter.unusedVariables false

/-- A group's number, its text; how many groups there are. -/
def numF (v : Bool) (A : List Int) (i : Nat) : Int := if v then grpZ A i else A[i]?.getD 0
def textG (v : Bool) (A : List Int) (i : Nat) : List Int := digZ (famB v) (numF v A i).toNat
def famK (v : Bool) : Nat := if v then 8 else 4
def groupsT (v : Bool) (A : List Int) (k : Nat) : List (List Int) := (List.range k).map (textG v A)
theorem textG_true (A : List Int) (i : Nat) : textG true A i = hexG A i := rfl
theorem textG_false (A : List Int) (i : Nat) : textG false A i = decZ A i := rfl
theorem groupsT_len (v : Bool) (A : List Int) (k : Nat) : (groupsT v A k).length = k := by simp [groupsT]
theorem groupsT_more (v : Bool) (A : List Int) (k : Nat) : groupsT v A (k + 1) = groupsT v A k ++ [textG v A k] := by
  unfold groupsT
  rw [List.range_succ, List.map_append]
  rfl
theorem numF_range {v : Bool} {A : List Int} (hA : Sixteen A) (i : Nat) : 0 ≤ numF v A i ∧ numF v A i ≤ 65535 ∧ (v = false → numF v A i ≤ 255) := by
  unfold numF
  cases v with
  | true =>
    have := grp_range hA i
    exact ⟨this.1, this.2, fun h => by cases h⟩
  | false =>
    have := sixteen_at hA i
    exact ⟨this.1, by show A[i]?.getD 0 ≤ 65535; omega, fun _ => this.2⟩
theorem fam_is (v : Bool) : famN v = famG v * famK v ∧ 1 ≤ famG v ∧ famG v ≤ 2 ∧ famN v ≤ 16 ∧ famK v ≤ 8 ∧ 1 ≤ famK v := by cases v <;> decide
/-- The bytes of a group. -/
def partG (v : Bool) (A : List Int) (k : Nat) : List Int := (A.drop (famG v * k)).take (famG v)
theorem part_num {v : Bool} {A : List Int} (hA : Sixteen A) {k : Nat} (hk : k < famK v) : (numZ 0 (partG v A k)).1 = numF v A k := by
  have h16 := hA.1
  cases v with
  | true =>
    have k8 : k < 8 := hk
    have e : partG true A k = [A[2 * k]?.getD 0, A[2 * k + 1]?.getD 0] := by
      show (A.drop (2 * k)).take 2 = _
      rw [List.drop_eq_getElem_cons (by omega), List.drop_eq_getElem_cons (by omega), List.getElem?_eq_getElem (by omega), List.getElem?_eq_getElem (by omega)]
      rfl
    have x0 := sixteen_at hA (2 * k)
    rw [e]
    unfold numZ numZ numZ B56
    rw [if_neg (by omega), if_neg (by omega)]
    show (0 * 256 + A[2 * k]?.getD 0) * 256 + A[2 * k + 1]?.getD 0 = A[2 * k]?.getD 0 * 256 + A[2 * k + 1]?.getD 0
    omega
  | false =>
    have k4 : k < 4 := hk
    have e : partG false A k = [A[k]?.getD 0] := by
      show (A.drop (1 * k)).take 1 = _
      rw [Nat.one_mul, List.drop_eq_getElem_cons (by omega), List.getElem?_eq_getElem (by omega)]
      rfl
    rw [e]
    unfold numZ numZ B56
    rw [if_neg (by omega)]
    show 0 * 256 + A[k]?.getD 0 = A[k]?.getD 0
    omega
theorem part_len {v : Bool} {A : List Int} (hA : Sixteen A) {k : Nat} (hk : k < famK v) : (partG v A k).length = famG v := by
  have h16 := hA.1
  have hf := fam_is v
  have hm : famG v * (k + 1) ≤ famG v * famK v := Nat.mul_le_mul_left _ (by omega)
  rw [Nat.mul_add, Nat.mul_one] at hm
  unfold partG
  rw [List.length_take, List.length_drop]
  omega
theorem part_row {v : Bool} {A : List Int} {w : World} {g : Nat} (hA : Sixteen A) (h : Blk w g 22 (acells A).toArray) {k : Nat} (hk : k < famK v) : Row w (some ⟨g, famG v * k, none⟩) (famG v) (partG v A k) := by
  have h16 := hA.1
  have hf := fam_is v
  have hm : famG v * (k + 1) ≤ famG v * famK v := Nat.mul_le_mul_left _ (by omega)
  rw [Nat.mul_add, Nat.mul_one] at hm
  refine ⟨part_len hA hk, fun x hx => hA.2 x (List.mem_of_mem_drop (List.mem_of_mem_take hx)), fun _ => ⟨g, famG v * k, rfl, h.lt, fun i hi => ?_⟩⟩
  rw [h.cell, List.getElem?_toArray, acells_at h16 _ (by omega)]
  unfold partG
  rw [List.getElem?_take, if_pos hi, List.getElem?_drop]
theorem fmt_fam {v : Bool} {A : List Int} (hA : Sixteen A) (k : Nat) (w : World) (hs : Std w) :
    Calls Tryd.prog 51 #[.int .u64 (numF v A k), .int .i64 (famB v : Int)] w fun e w' => e = .returned (.string (strOfNums (textG v A k))) ∧ Below w.heap.size w w' := by
  have hr := numF_range (v := v) hA k
  have h := fmt_any v (numF v A k).toNat (by omega) (fun h => by have := hr.2.2 h; omega) w hs
  rw [show (((numF v A k).toNat : Nat) : Int) = numF v A k by omega] at h
  unfold textG
  cases v <;> exact h

theorem SOut.wider {w W0 wr : World} {V : Value} {L : List ByteArray} (h : SOut W0 wr V L) (hb : Below w.heap.size w W0) : SOut w wr V L := by
  refine ⟨⟨h.1.1, ?_⟩, Below.step hb h.2⟩
  rcases h.1.2 with h' | ⟨g, cap, cur, e, h1, h2⟩
  · exact .inl h'
  · exact .inr ⟨g, cap, cur, e, Nat.le_trans hb.size h1, h2⟩
/-- A row of texts of the call's own. -/
def GivesTexts (D : List (List Int)) (w : World) (e : Ending) (w' : World) : Prop := ∃ V, e = .returned V ∧ SOut w w' V (SB D)

set_option maxHeartbeats 2000000 in
set_option maxRecDepth 10000 in
theorem texts_any (v : Bool) (A : List Int) (w : World) (hA : Sixteen A) (hs : Std w) :
    Calls Tryd.prog 38 #[.agg (famC v), .agg (acells A).toArray] w (GivesTexts (groupsT v A (famK v)) w) := by
  have BF := Lib.hid (Blk.alloc (Blk.new w 56 (famC v)) (.cells (acells A).toArray 22))
  have ba := Blk.new (w.alloc (.cells (famC v) 56)) 22 (acells A).toArray
  rw [show (w.alloc (.cells (famC v) 56)).heap.size = w.heap.size + 1 by simp] at ba
  have BA := Lib.hid ba
  have BW := Lib.hid (Below.step (box_below w (.cells (famC v) 56)) (box_below _ (.cells (acells A).toArray 22)))
  have HA := Lib.hid hA
  have HS := Lib.hid hs
  have FI := Lib.hid (fam_is v)
  have c0 : (famC v)[0]? = some (.int .i64 (famN v : Int)) := rfl
  have c1 : (famC v)[1]? = some (.int .i64 (famG v : Int)) := rfl
  have c2 : (famC v)[2]? = some (.int .i64 (famB v : Int)) := rfl
  have C0 := Lib.hid c0
  have C1 := Lib.hid c1
  have C2 := Lib.hid c2
  clear hA hs ba c0 c1 c2
  go_enter Tryd.func38, Tryd.ntmps38
  generalize hfc : famC v = fc at *
  generalize hac : (acells A).toArray = ac at *
  generalize hw2 : (w.alloc (.cells fc 56)).alloc (.cells ac 22) = w2 at *
  have HAC := Lib.hid hac
  go_wp2_with fail
  clear hw2 hfc hac
  have HS2 := Lib.hid (HS.out.later BW.out)
  go_loopw [5, 6] (fun V iV wr => ∃ (k : Nat), iV = .int .i64 ((famG v * k : Nat) : Int) ∧ k ≤ famK v ∧ SOut w2 wr V (SB (groupsT v A k))) (fun _ iV _ => (20 - intOf iV).toNat)
  case atStart => exact ⟨0, by simp, Nat.zero_le _, World.ownsRow_nil _ _ _ _, Below.refl _ _⟩
  case round =>
    obtain ⟨k, rfl, hk, ho⟩ := hrel
    have HO := Lib.hid ho
    have HF := Lib.hid (BF.out.below ho.2 BF.out.lt)
    have HB := Lib.hid (BA.out.below ho.2 BA.out.lt)
    have D0 := Lib.hid ((HF.out.cell 0).trans C0.out)
    have D1 := Lib.hid ((HF.out.cell 1).trans C1.out)
    have D2 := Lib.hid ((HF.out.cell 2).trans C2.out)
    have d0 := D0.out
    have HSr := Lib.hid (HS2.out.later ho.2)
    clear ho
    by_cases hlt : k < famK v
    · obtain ⟨f1, f2, f3, f4, f5, f6⟩ := FI.out
      have hm : famG v * (k + 1) ≤ famG v * famK v := Nat.mul_le_mul_left _ (by omega)
      rw [Nat.mul_add, Nat.mul_one, ← f1] at hm
      clear f1
      have NX := Lib.hid (show famG v * (k + 1) = famG v * k + famG v by rw [Nat.mul_add, Nat.mul_one])
      have CN : Hid (∀ (cap : Nat), Calls Tryd.prog 50 #[.slice (some ⟨w.heap.size + 1, famG v * k, none⟩) (famG v) cap] wr fun e w' => e = .returned (.tuple #[.int .u64 (numF v A k), .bool (numZ 0 (partG v A k)).2]) ∧ w' = wr) := Lib.hid (fun cap => by
        have h := num_any (some ⟨w.heap.size + 1, famG v * k, none⟩) (famG v) cap (partG v A k) wr (part_row HA.out (by rw [HAC.out]; exact HB.out) hlt) (by omega)
        rwa [part_num HA.out hlt] at h)
      have CF := Lib.hid (fmt_fam (v := v) HA.out k wr HSr.out)
      have NF := numF_range (v := v) HA.out k
      have GM : Hid (SB (groupsT v A k) ++ [strOfNums (textG v A k)] = SB (groupsT v A (k + 1))) := Lib.hid (by rw [groupsT_more]; unfold SB; rw [List.map_append]; rfl)
      have HL : (SB (groupsT v A k)).length + 1 ≤ 1000000 := by rw [sb_len, groupsT_len]; omega
      obtain ⟨s, hss⟩ : ∃ s, famG v * k = s := ⟨_, rfl⟩
      rw [hss] at hm NX CN
      have t0 : decide ((s : Int) < (famN v : Int)) = true := decide_eq_true (by omega)
      have hsl : ∀ W, (Instr.sliceAt 22 (.pointer (some ⟨w.heap.size + 1, 0, none⟩)) (some (.int .i64 (s : Int))) (some (.int .i64 ((s : Int) + (famG v : Int)))) none).run Tryd.prog W = .ok (.slice (some ⟨w.heap.size + 1, s, none⟩) (famG v) (16 - s)) W := fun W => by
        have hal : Tryd.prog.arrayLen 22 = 16 := by kernel_rfl
        rw [run_sliceAt_array_lh W 22 ⟨w.heap.size + 1, 0, none⟩ Tryd.underlying22 .i64 .i64 (s : Int) ((s : Int) + (famG v : Int)) (by omega) (by omega) (by rw [hal]; omega), hal]
        go_simp
        omega
      have w1 : IntKind.i64.wrap ((s : Int) + (famG v : Int)) = (s : Int) + (famG v : Int) := IntWalk.i64_in _ (by omega)
      have d1 := D1.out
      have d2 := D2.out
      generalize (numZ 0 (partG v A k)).2 = ok at *
      generalize numF v A k = num at *
      generalize strOfNums (textG v A k) = TX at *
      generalize hLL : SB (groupsT v A k) = LL at *
      generalize hNN : famN v = N at *
      generalize hGG : famG v = G at *
      generalize hBB : famB v = B at *
      have HLL := Lib.hid hLL
      clear FI hLL hNN
      rw [hss]
      have HSS := Lib.hid hss
      clear hss
      go_wp2_with (first
        | (go_at_call 50; refine (CN.out _).mono ?_; rintro e w' ⟨rfl, rfl⟩)
        | (go_at_call 51; refine CF.out.mono ?_; rintro e w5 ⟨rfl, hb5⟩; have O5 := Lib.hid (HO.out.below hb5); have d1' := ((HF.out.below hb5 HF.out.lt).cell 1).trans C1.out; clear hb5 CF CN d0 d1 d2)
        | (at_builtin; refine sout_append (W0 := w2) (L := LL) (s := TX) rfl _ _ rfl rfl O5.out rfl HL ?_; intro V2 w6 ho6; have O6 := Lib.hid ho6; have d1 := ((BF.out.below ho6.2 BF.out.lt).cell 1).trans C1.out; clear ho6 d1'))
      go_roundw
      case rel => exact ⟨k + 1, by rw [NX.out]; go_num, by omega, by rw [← GM.out]; exact O6.out⟩
      case measure => simp only [intOf]; omega
    · obtain rfl : k = famK v := by omega
      have f1 := FI.out.1
      have t0 : decide (famG v * famK v < famN v) = false := decide_eq_false (by omega)
      have HW : Hid (∀ V, SOut w2 wr V (SB (groupsT v A (famK v))) → SOut w wr V (SB (groupsT v A (famK v)))) := Lib.hid (fun V h => h.wider BW.out)
      clear f1 FI
      generalize famG v * famK v = s0 at *
      generalize famN v = n0 at *
      go_wp2_with fail
      go_ret
      exact ⟨_, rfl, HW.out _ HO.out⟩

end Go.Proofs.YtpekpgmdjpcpiaaDoor

namespace Go.Proofs.YtpekpgmdjpcpiaaDoor
open Go.RowKit
set_option linter.unusedVariables false

/-- The state behind k groups: where the best run begins, where it ends, where the one at hand begins. -/
def lrStep (z : Bool) (k x y f : Nat) : Nat × Nat × Nat := if z = true then (if y - x < k + 1 - f then (f, k + 1, f) else (x, y, f)) else (x, y, k + 1)
def lrZ (z : Nat → Bool) : Nat → Nat × Nat × Nat
  | 0 => (0, 0, 0)
  | k + 1 => lrStep (z k) k (lrZ z k).1 (lrZ z k).2.1 (lrZ z k).2.2
theorem lr_le (z : Nat → Bool) : ∀ k, (lrZ z k).1 ≤ (lrZ z k).2.1 ∧ (lrZ z k).2.1 ≤ k ∧ (lrZ z k).2.2 ≤ k
  | 0 => by simp [lrZ]
  | k + 1 => by
    have h := lr_le z k
    rw [lrZ]
    generalize (lrZ z k).1 = x at *
    generalize (lrZ z k).2.1 = y at *
    generalize (lrZ z k).2.2 = f at *
    unfold lrStep
    split
    · split
      · exact ⟨show f ≤ k + 1 by omega, Nat.le_refl _, show f ≤ k + 1 by omega⟩
      · exact ⟨h.1, show y ≤ k + 1 by omega, show f ≤ k + 1 by omega⟩
    · exact ⟨h.1, show y ≤ k + 1 by omega, Nat.le_refl _⟩
def zeroB (ss : List ByteArray) (k : Nat) : Bool := (ss[k]?.getD ByteArray.empty).toList == [48]

set_option maxHeartbeats 1000000 in
theorem longest_any (a : Option Addr) (n c : Nat) (ss : List ByteArray) (w : World) (hr : SRow w a n ss) (hn : n ≤ 8) :
    Calls Tryd.prog 39 #[.slice a n c] w fun e w' => e = .returned (.tuple #[.int .i64 ((lrZ (zeroB ss) n).1 : Int), .int .i64 ((lrZ (zeroB ss) n).2.1 : Int)]) ∧ w' = w := by
  have HR := Lib.hid hr
  clear hr
  go_enter Tryd.func39, Tryd.ntmps39
  go_wp2_with fail
  go_loop [2, 3, 4, 9] (fun sV eV fV iV => ∃ (k : Nat), iV = .int .i64 (k : Int) ∧ k ≤ n ∧ sV = .int .i64 ((lrZ (zeroB ss) k).1 : Int) ∧ eV = .int .i64 ((lrZ (zeroB ss) k).2.1 : Int) ∧ fV = .int .i64 ((lrZ (zeroB ss) k).2.2 : Int)) (fun _ _ _ iV => (20 - intOf iV).toNat)
  case atStart => exact ⟨0, rfl, Nat.zero_le _, rfl, rfl, rfl⟩
  case round =>
    obtain ⟨k, rfl, hk, rfl, rfl, rfl⟩ := hrel
    have LE := lr_le (zeroB ss) k
    by_cases hlt : k < n
    · obtain ⟨b1, o1, rfl, hb1, hc1⟩ := HR.out.2 (by omega)
      have c1 := hc1 k hlt
      clear hc1
      have LS : Hid (lrZ (zeroB ss) (k + 1) = lrStep (zeroB ss k) k (lrZ (zeroB ss) k).1 (lrZ (zeroB ss) k).2.1 (lrZ (zeroB ss) k).2.2) := Lib.hid rfl
      have ZB : Hid (zeroB ss k = ((ss[k]?.getD ByteArray.empty).toList == [48])) := Lib.hid rfl
      generalize ss[k]?.getD ByteArray.empty = s at *
      generalize (lrZ (zeroB ss) k).1 = x at *
      generalize (lrZ (zeroB ss) k).2.1 = y at *
      generalize (lrZ (zeroB ss) k).2.2 = f at *
      have k1 : IntKind.i64.wrap ((k : Int) + 1) = (k : Int) + 1 := IntWalk.i64_in _ (by omega)
      have k2 : IntKind.i64.wrap ((k : Int) + 1 - (f : Int)) = (k : Int) + 1 - (f : Int) := IntWalk.i64_in _ (by omega)
      have k3 : IntKind.i64.wrap ((y : Int) - (x : Int)) = (y : Int) - (x : Int) := IntWalk.i64_in _ (by omega)
      cases hz : (s.toList == [48]) with
      | true =>
        have L2 := Lib.hid (LS.out.trans (by rw [ZB.out, hz]))
        by_cases hb : y - x < k + 1 - f
        · have t2 : decide ((y : Int) - (x : Int) < (k : Int) + 1 - (f : Int)) = true := decide_eq_true (by omega)
          have L3 : Hid (lrZ (zeroB ss) (k + 1) = (f, k + 1, f)) := Lib.hid (L2.out.trans (by unfold lrStep; rw [if_pos rfl, if_pos hb]))
          clear hb LS ZB L2
          go_wp2_with fail
          go_round
          case rel => exact ⟨k + 1, by go_num, by omega, by rw [L3.out], by rw [L3.out]; go_num, by rw [L3.out]⟩
          case measure => simp only [intOf]; omega
        · have t2 : decide ((y : Int) - (x : Int) < (k : Int) + 1 - (f : Int)) = false := decide_eq_false (by omega)
          have L3 : Hid (lrZ (zeroB ss) (k + 1) = (x, y, f)) := Lib.hid (L2.out.trans (by unfold lrStep; rw [if_pos rfl, if_neg hb]))
          clear hb LS ZB L2
          go_wp2_with fail
          go_round
          case rel => exact ⟨k + 1, by go_num, by omega, by rw [L3.out], by rw [L3.out], by rw [L3.out]⟩
          case measure => simp only [intOf]; omega
      | false =>
        have L3 : Hid (lrZ (zeroB ss) (k + 1) = (x, y, k + 1)) := Lib.hid (LS.out.trans (by rw [ZB.out, hz]; unfold lrStep; rw [if_neg (by decide)]))
        clear LS ZB
        go_wp2_with fail
        go_round
        case rel => exact ⟨k + 1, by go_num, by omega, by rw [L3.out], by rw [L3.out], by rw [L3.out]; go_num⟩
        case measure => simp only [intOf]; omega
    · obtain rfl : k = n := by omega
      generalize hx : (lrZ (zeroB ss) k).1 = x at *
      generalize hy : (lrZ (zeroB ss) k).2.1 = y at *
      generalize (lrZ (zeroB ss) k).2.2 = f at *
      have HX := Lib.hid hx
      have HY := Lib.hid hy
      clear hx hy
      go_wp2_with fail
      go_ret2
      exact ⟨by rw [HX.out, HY.out]; rfl, rfl⟩

end Go.Proofs.YtpekpgmdjpcpiaaDoor

namespace Go.Proofs.YtpekpgmdjpcpiaaDoor
open Go.RowKit
set_option linter.unusedVariables false

/-- A slice value with n elements reads as these numbers; where there is an element, it lies in a block of this world. -/
def IRow (w : World) (a : Option Addr) (n : Nat) (ss : List Int) : Prop :=
  ss.length = n ∧ (0 < n → ∃ b off, a = some ⟨b, off, none⟩ ∧ b < w.heap.size ∧ ∀ i, i < n → w.cell? ⟨b, off + i, none⟩ = some (.int .i64 (ss[i]?.getD 0)))
theorem IRow.below {w w' : World} {a : Option Addr} {n : Nat} {ss : List Int} (h : IRow w a n ss) (hb : Below w.heap.size w w') : IRow w' a n ss := by
  refine ⟨h.1, fun hn => ?_⟩
  obtain ⟨b, off, e, hlt, hc⟩ := h.2 hn
  exact ⟨b, off, e, Nat.lt_of_lt_of_le hlt hb.size, fun i hi => (hb.cell (p := ⟨b, off + i, none⟩) hlt).trans (hc i hi)⟩
theorem IRow.first {w : World} {a : Option Addr} {n : Nat} {ss : List Int} (h : IRow w a n ss) (k : Nat) (hk : k ≤ n) : IRow w a k (ss.take k) := by
  have hl := h.1
  refine ⟨by rw [List.length_take]; omega, fun h0 => ?_⟩
  obtain ⟨b, off, e, hb, hc⟩ := h.2 (by omega)
  exact ⟨b, off, e, hb, fun i hi => by rw [hc i (by omega), List.getElem?_take, if_pos hi]⟩

theorem Tryd.infoInt : (Tryd.prog.info? 3).map (fun i => (i.zero, i.size, i.bytes)) = some (some (.int .i64 0), 1, 8) := by kernel_rfl

/-- The slice V is the call's own, in memory newer than W0, and reads as these numbers. -/
def IOut (W0 wr : World) (V : Value) (L : List Int) : Prop := wr.ownsRow W0.heap.size 3 1 V L.length (L.map (Value.int .i64)) ∧ Below W0.heap.size W0 wr
theorem IOut.below {W0 wr w' : World} {V : Value} {L : List Int} (h : IOut W0 wr V L) (hb : Below wr.heap.size wr w') : IOut W0 w' V L := by
  refine ⟨⟨h.1.1, ?_⟩, h.2.trans (hb.mono h.2.size)⟩
  rcases h.1.2 with h' | ⟨g, cap, cur, e, h1, h2, h3⟩
  · exact .inl h'
  · exact .inr ⟨g, cap, cur, e, h1, (hb.block g (Array.getElem?_eq_some_iff.1 h2).1).trans h2, h3⟩
theorem IOut.alloc {W0 wr : World} {V : Value} {L : List Int} (h : IOut W0 wr V L) (o : Obj) : IOut W0 (wr.alloc o) V L := h.below ((Below.refl _ _).alloc (Nat.le_refl _) o)
theorem IOut.start (w : World) : IOut w w (.slice none 0 0) [] := ⟨World.ownsRow_nil _ _ _ _, Below.refl _ _⟩
theorem IOut.row {W0 wr : World} {V : Value} {L : List Int} (h : IOut W0 wr V L) : ∃ a c, V = .slice a L.length c ∧ IRow wr a L.length L := by
  rcases h.1.2 with ⟨rfl, h0⟩ | ⟨g, cap, cur, rfl, h1, h2, h3⟩
  · have : L = [] := List.eq_nil_of_length_eq_zero h0
    subst this
    exact ⟨none, 0, rfl, rfl, fun h => absurd h (by simp)⟩
  · refine ⟨_, cap, rfl, rfl, fun hn => ⟨g, 0, rfl, (h.1.lt g rfl).2, fun i hi => ?_⟩⟩
    rw [Nat.zero_add, h.1.cellAt i (by omega), List.getElem?_map, List.getElem?_eq_getElem hi]
    rfl

/-- One number is appended: it was laid in a new block of one cell. -/
theorem iout_append {ops : Array Oper} {rest : List Oper} {o : Oper} {a : Act} {Q : Exit → Act → World → Prop} {W0 wr : World} {V : Value} {L : List Int} {s : Int} (hgd : o.guard = none) (x y : Operand)
    (hop : o.op = .call { callee := .builtin .append, args := #[x, y], argTypes := #[72, 72] }) (hs : a.eval x = V) (hout : IOut W0 wr V L) (hx : a.eval y = .slice (some ⟨wr.heap.size, 0, none⟩) 1 1) (hl : L.length + 1 ≤ 1000000)
    (h : ∀ V' w', IOut W0 w' V' (L ++ [s]) → wpList Tryd.prog ops Q rest (a.put o.dst V') w') : wpList Tryd.prog ops Q (o :: rest) a (wr.alloc (.cells #[.int .i64 s] 3 (0, 0))) := by
  obtain ⟨i0, hi5, hz0, hz1, hz2⟩ := info_parts Tryd.infoInt
  refine wpList_append_own _ hgd x y 72 hop W0.heap.size 3 i0 (.int .i64 0) 1 8 Tryd.underlying72 hi5 hz0 hz1 hz2 rfl (by decide) V L.length (L.map (Value.int .i64)) hs (hout.alloc _).1 ⟨wr.heap.size, 0, none⟩ 1 1 [.int .i64 s] hx rfl ?_ ?_ (by unfold maxLen; omega) (by omega) (hout.alloc (.cells #[.int .i64 s] 3 (0, 0))).2.size ?_
  · intro j u hu
    cases j with
    | zero =>
      obtain rfl : Value.int .i64 s = u := by simpa using hu
      have e := heap_alloc_new wr (.cells #[.int .i64 s] 3 (0, 0))
      simp only [Addr.add_lit, World.cell?, e]
      rfl
    | succ j => simp at hu
  · intro u hu
    obtain rfl : u = Value.int .i64 s := by simpa using hu
    rfl
  · intro V' w' hown hg _
    refine h V' w' ⟨?_, (hout.alloc (.cells #[.int .i64 s] 3 (0, 0))).2.grown hg (hout.alloc (.cells #[.int .i64 s] 3 (0, 0))).2.size (fun k hk => ((hout.alloc (.cells #[.int .i64 s] 3 (0, 0))).1.lt k hk).1)⟩
    rw [List.length_append, List.map_append]
    exact hown



theorem numG_rng {b m : Int} (hb : 0 ≤ b) (hm : 0 ≤ m) : ∀ (l : List Int) (n : Int), 0 ≤ n → n ≤ m → -1 ≤ numG b m n l ∧ numG b m n l ≤ m
  | [], n, h0, h1 => by rw [numG]; omega
  | c :: cs, n, h0, h1 => by
    have hd := digV_rng c
    have hn := Int.mul_nonneg h0 hb
    rw [numG]
    split
    · omega
    · exact numG_rng hb hm cs _ (by omega) (by omega)
/-- A part's number; an empty one's is -1. -/
def numV (s : ByteArray) : Int := numG 16 65535 0 (numsOf s)
def partV (s : ByteArray) : Int := if s.size = 0 then -1 else numV s
theorem numV_rng (s : ByteArray) : -1 ≤ numV s ∧ numV s ≤ 65535 := numG_rng (by omega) (by omega) _ _ (by omega) (by omega)
theorem partV_rng (s : ByteArray) : -1 ≤ partV s ∧ partV s ≤ 65535 := by
  have := numV_rng s
  unfold partV
  split <;> omega
/-- How many are not below 0. -/
def cntN : List Int → Nat
  | [] => 0
  | x :: xs => (if 0 ≤ x then 1 else 0) + cntN xs
theorem cntN_le : ∀ l, cntN l ≤ l.length
  | [] => Nat.le_refl _
  | x :: xs => by
    have := cntN_le xs
    rw [cntN, List.length_cons]
    split <;> omega
/-- The groups laid. -/
def fillZ : List Int → Nat → Bool → List Int → Option (List Int)
  | [], _, _, A => some A
  | x :: xs, k, f, A => if 0 ≤ x then (if 7 < k then none else fillZ xs (k + 1) f ((A.set (2 * k) (x / 256)).set (2 * k + 1) (x % 256))) else if f then fillZ xs k f A else fillZ xs (max (8 - cntN (x :: xs)) k) true A
def zeroA : List Int := List.replicate 16 0
theorem zeroA_ok : Sixteen zeroA := ⟨rfl, fun x hx => by rw [List.eq_of_mem_replicate hx]; omega⟩
def groupsZ (ss : List ByteArray) : Option (List Int) := if ∀ s ∈ ss, 0 ≤ numV s then fillZ (ss.map partV) 0 false zeroA else none
theorem sixteen_set {A : List Int} (h : Sixteen A) (q : Nat) (x : Int) (h0 : 0 ≤ x) (h1 : x ≤ 255) : Sixteen (A.set q x) := by
  refine ⟨by rw [List.length_set]; exact h.1, fun y hy => ?_⟩
  rcases List.mem_or_eq_of_mem_set hy with hy | rfl
  · exact h.2 y hy
  · exact ⟨h0, h1⟩
def GivesGroups (ss : List ByteArray) (w : World) (e : Ending) (w' : World) : Prop :=
  ∃ A, Sixteen A ∧ e = .returned (.tuple #[.agg (acells A).toArray, .bool (groupsZ ss).isSome]) ∧ (∀ B, groupsZ ss = some B → A = B) ∧ Below w.heap.size w w'
/-- A number of the row at hand. -/
theorem IRow.byteless {w : World} {a : Option Addr} {n : Nat} {L : List Int} (h : IRow w a n L) (k : Nat) (hk : k < n) : L.drop k = L[k]?.getD 0 :: L.drop (k + 1) := by
  rw [List.drop_eq_getElem_cons (by rw [h.1]; exact hk), List.getElem?_eq_getElem (by rw [h.1]; exact hk)]
  rfl

end Go.Proofs.YtpekpgmdjpcpiaaDoor
