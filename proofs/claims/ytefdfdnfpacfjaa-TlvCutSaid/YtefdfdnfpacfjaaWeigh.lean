/-
  What the reference's weigh and Light answer, for stage 4 (tlv).
-/
import Derived.Test.YtefdfdnfpacfjaaTree
import Derived.Deep.LoopGhost
namespace Go.Proofs.Ytefdfdnfpacfjaa
open Go.RowKit

mutual
def weighT : T → Nat → Int
  | .node _ body kids, deep => if 60 < deep then 30000 else weighAll kids deep (1 + (if (body.length : Int) < 30000 then (body.length : Int) else 30000))
def weighAll : List T → Nat → Int → Int
  | [], _, a => a
  | t :: r, deep, a => if a < 30000 then weighAll r deep (a + weighT t (deep + 1)) else a
end
theorem weighT_eq (t : T) (deep : Nat) : weighT t deep = if 60 < deep then 30000 else weighAll t.kids deep (1 + (if (t.body.length : Int) < 30000 then (t.body.length : Int) else 30000)) := by
  obtain ⟨tag, body, kids⟩ := t
  rw [weighT]
  rfl
theorem weigh_ge (t : T) : ∀ deep, 0 ≤ weighT t deep := by
  refine T.all (p := fun t => ∀ deep, 0 ≤ weighT t deep) ?_ t
  intro tag body kids ih deep
  have key : ∀ (ks : List T), (∀ k ∈ ks, ∀ deep, 0 ≤ weighT k deep) → ∀ a : Int, 0 ≤ a → 0 ≤ weighAll ks deep a := by
    intro ks
    induction ks with
    | nil => intro _ a ha; rw [weighAll]; exact ha
    | cons k r ihr =>
      intro hk a ha
      rw [weighAll]
      split
      · exact ihr (fun x hx => hk x (by simp [hx])) _ (by have := hk k (by simp) (deep + 1); omega)
      · exact ha
  rw [weighT]
  split
  · omega
  · exact key kids ih _ (by split <;> omega)
theorem weigh_le (t : T) : ∀ deep, deep ≤ 61 → weighT t deep ≤ 30001 * (62 - deep) := by
  refine T.all (p := fun t => ∀ deep, deep ≤ 61 → weighT t deep ≤ 30001 * (62 - deep)) ?_ t
  intro tag body kids ih deep hd
  rw [weighT]
  by_cases h : 60 < deep
  · rw [if_pos h]
    omega
  rw [if_neg h]
  have key : ∀ (ks : List T), (∀ k ∈ ks, ∀ deep : Nat, deep ≤ 61 → weighT k deep ≤ 30001 * (62 - deep)) → ∀ a : Int, a ≤ 30001 * (62 - deep) → weighAll ks deep a ≤ 30001 * (62 - deep) := by
    intro ks
    induction ks with
    | nil => intro _ a ha; rw [weighAll]; exact ha
    | cons k r ihr =>
      intro hk a ha
      rw [weighAll]
      split
      · refine ihr (fun x hx => hk x (by simp [hx])) _ ?_
        have := hk k (by simp) (deep + 1) (by omega)
        omega
      · exact ha
  exact key kids ih _ (by split <;> omega)

theorem weigh_kid {ks : List T} {i : Nat} {k : T} (h : ks[i]? = some k) (deep : Nat) (a : Int) : weighAll (ks.drop i) deep a = if a < 30000 then weighAll (ks.drop (i + 1)) deep (a + weighT k (deep + 1)) else a := by
  obtain ⟨hi, rfl⟩ := List.getElem?_eq_some_iff.1 h
  rw [List.drop_eq_getElem_cons hi, weighAll]
theorem weigh_end {ks : List T} {i : Nat} (h : ks.length ≤ i) (deep : Nat) (a : Int) : weighAll (ks.drop i) deep a = a := by
  rw [List.drop_of_length_le h, weighAll]
theorem weigh_stop (ks : List T) (deep : Nat) (a : Int) (h : ¬ a < 30000) : weighAll ks deep a = a := by
  cases ks with
  | nil => rw [weighAll]
  | cons k r => rw [weighAll, if_neg h]

theorem ret_int {k : IntKind} {a b : Int} (h : a = b) : Ending.returned (.int k a) = .returned (.int k b) := by rw [h]
theorem ret_bool {a b : Bool} (h : a = b) : Ending.returned (.bool a) = .returned (.bool b) := by rw [h]

theorem weigh_start {t : T} {deep n : Nat} (hn : t.body.length = n) (h : ¬ 60 < deep) (X : Int) (hX : (X = 1 + n ∧ (n : Int) ≤ 30000) ∨ (X = 30001 ∧ 30000 ≤ (n : Int))) : weighAll (t.kids.drop 0) deep X = weighT t deep := by
  have e : X = 1 + (if (t.body.length : Int) < 30000 then (t.body.length : Int) else 30000) := by
    rw [hn]
    split <;> omega
  rw [weighT_eq, if_neg h, List.drop_zero, ← e]
theorem weigh_bound (t : T) (deep : Nat) (h : deep ≤ 61) : 0 ≤ weighT t deep ∧ weighT t deep ≤ 30001 * (62 - deep) := ⟨weigh_ge t deep, weigh_le t deep h⟩

set_option maxHeartbeats 2000000 in
theorem weigh_any (t : T) : ∀ (v : Value) (deep : Nat) (w : World), t.In w v → deep ≤ 61 →
    Calls Try.prog 20 #[v, .int .i64 (deep : Int)] w fun e w' => e = .returned (.int .i64 (weighT t deep)) ∧ Below w.heap.size w w' := by
  refine T.each (p := fun t => ∀ (v : Value) (deep : Nat) (w : World), t.In w v → deep ≤ 61 → Calls Try.prog 20 #[v, .int .i64 (deep : Int)] w fun e w' => e = .returned (.int .i64 (weighT t deep)) ∧ Below w.heap.size w w') ?_ t
  clear t
  intro t ih v deep w hin hd
  obtain ⟨A, n, c, K, m, d, rfl, hw, hr, hn, hc, hm, hm', hks⟩ := hin.open
  have BX := Lib.hid (Box.start hin)
  have IH := Lib.hid ih
  have WT := Lib.hid (weighT_eq t deep)
  have HM := Lib.hid hm
  have BL := Lib.hid hr.1
  clear hin ih hw hr hc hm hks
  unfold maxLen at hn hm'
  by_cases h60 : 60 < deep
  · go_enter Try.func20, Try.ntmps20
    go_wp2_with fail
    go_ret
    exact ⟨ret_int (by rw [WT.out, if_pos h60]), (Below.refl _ _).alloc (Nat.le_refl _) _⟩
  go_enter Try.func20, Try.ntmps20
  go_wp2_with fail
  all_goals
    go_loopw [5, 6] (fun a i wr => ∃ (k : Nat) (z : Int), k ≤ m ∧ i = .int .i64 (k : Int) ∧ a = .int .i64 z ∧ 0 ≤ z ∧ z ≤ 30001 * (62 - deep) ∧ weighAll (t.kids.drop k) deep z = weighT t deep ∧ Box w wr w.heap.size t A n c K m d) (fun _ i _ => m - (intOf i).toNat)
    case atStart =>
      exact ⟨0, _, by omega, rfl, rfl, by omega, by omega, weigh_start BL.out h60 _ (by omega), BX.out⟩
    case round =>
      obtain ⟨k, z, hk, rfl, rfl, hz0, hz1, hw, hbox⟩ := hrel
      have HW := Lib.hid hw
      have HB := Lib.hid hbox
      obtain ⟨g0, g1, g2⟩ := hbox.cells
      clear hw hbox
      by_cases hlt : k < m
      · by_cases hzz : z < 30000
        · obtain ⟨x, b, off, zz, A', n', c', K', m', d', hx, rfl, c0, c1, c2, hxin⟩ := HB.out.kid k hlt
          have ST := Lib.hid ((weigh_kid hx deep z).symm.trans HW.out)
          have hbd := weigh_bound x (deep + 1) (by omega)
          have CI := Lib.hid (IH.out x (List.mem_of_getElem? hx) _ (deep + 1) wr hxin (by omega))
          clear hx hxin
          go_wp2_with (go_at_call 20; refine (CI.out).mono ?_; rintro e w2 ⟨rfl, hb2⟩; have HB2 := Lib.hid (HB.out.go hb2); clear hb2)
          go_roundw
          case rel => exact ⟨k + 1, _, by omega, by go_num, rfl, by omega, by omega, by rw [if_pos hzz] at ST; exact ST.out, HB2.out⟩
          case measure => simp [intOf]; omega
        · have E := Lib.hid ((weigh_stop _ deep z hzz).symm.trans HW.out)
          clear HW
          go_wp2_with fail
          go_ret
          exact ⟨ret_int E.out, HB.out.below⟩
      · have E := Lib.hid ((weigh_end (ks := t.kids) (i := k) (by rw [HM.out]; omega) deep z).symm.trans HW.out)
        clear HW
        go_wp2_with fail
        go_ret
        exact ⟨ret_int E.out, HB.out.below⟩

def lightT (t : T) : Bool := decide (weighT t 0 < 30000)
set_option maxHeartbeats 1000000 in
theorem light_any (t : T) (v : Value) (w : World) (hin : t.In w v) : Calls Try.prog 13 #[v] w fun e w' => e = .returned (.bool (lightT t)) ∧ Below w.heap.size w w' := by
  obtain ⟨A, n, c, K, m, d, rfl, _⟩ := hin.open
  have BX := Lib.hid (Box.start hin)
  clear hin
  go_enter Try.func13, Try.ntmps13
  go_wp2_with fail
  refine (weigh_any t _ 0 _ BX.out.has (by omega)).mono ?_
  rintro e w2 ⟨rfl, hb2⟩
  have B2 := Lib.hid (Below.step BX.out.below hb2)
  clear hb2 BX
  go_wp2_with fail
  go_ret
  exact ⟨rfl, B2.out⟩

end Go.Proofs.Ytefdfdnfpacfjaa
