/-
  What the document's Unhex answers, for stage 1 (octet): the same as octet.Unhex.
-/
import Derived.Test.YtloilhcpkffihaaUnhex
import Derived.Test.YtloilhcpkffihaaOrd
import Derived.Deep.AppendLies
namespace Go.Proofs.Ytloilhcpkffihaa
open Go.RowKit

set_option maxHeartbeats 400000 in
theorem worth_yes (c v : Int) (w : World) (h : dv c = some v) (h0 : 0 ≤ c) (h1 : c ≤ 255) : Calls Try.prog 22 #[.int .u8 c] w fun e w' => e = .returned (.int .u8 v) ∧ w' = w := by
  by_cases ha : 48 ≤ c ∧ c ≤ 57
  · have e : c - 48 = v := by rw [dv, if_pos ha] at h; injection h
    obtain ⟨a1, a2⟩ := ha
    have E := Lib.hid e
    clear h e
    go_enter Try.func22, Try.ntmps22
    go_wp2
    go_ret
    rw [← E.out]
    exact ⟨rfl, rfl⟩
  · by_cases hb : 97 ≤ c ∧ c ≤ 102
    · have e : c - 87 = v := by rw [dv, if_neg ha, if_pos hb] at h; injection h
      obtain ⟨a1, a2⟩ := hb
      have t : (57 : Int) < c := by omega
      have E := Lib.hid e
      clear h e ha
      go_enter Try.func22, Try.ntmps22
      go_wp2
      go_ret
      rw [← E.out, show c - 87 = c - 97 + 10 by omega]
      exact ⟨rfl, rfl⟩
    · rw [dv, if_neg ha, if_neg hb] at h
      cases h

set_option maxHeartbeats 400000 in
theorem worth_no (c : Int) (w : World) (h : dv c = none) : Calls Try.prog 22 #[.int .u8 c] w fun e w' => e = .returned (.int .u8 16) ∧ w' = w := by
  have ha : ¬ (48 ≤ c ∧ c ≤ 57) := fun ha => by rw [dv, if_pos ha] at h; cases h
  have hb : ¬ (97 ≤ c ∧ c ≤ 102) := fun hb => by rw [dv, if_neg ha, if_pos hb] at h; cases h
  clear h
  rcases (show c < 48 ∨ (57 < c ∧ c < 97) ∨ 102 < c by omega) with h | ⟨h, h'⟩ | h
  all_goals
    clear ha hb
    go_enter Try.func22, Try.ntmps22
    go_wp2
    go_ret
    exact ⟨rfl, rfl⟩

/-- The world in a round of the document's Unhex: the slice owns what the first k pairs have come to. -/
def AppU (w : World) (l : List Int) (k : Nat) (V : Value) (wr : World) : Prop :=
  ∃ pre, Upto l k pre ∧ wr.ownsRow w.heap.size 5 1 V k (pre.map (Value.int .u8)) ∧ Below w.heap.size w wr

theorem AppU.shape {w wr : World} {l : List Int} {k : Nat} {V : Value} (h : AppU w l k V wr) : ∃ A C, V = .slice A k C ∧ (A = none ∧ k = 0 ∧ C = 0 ∨ ∃ g, A = some ⟨g, 0, none⟩) := by
  obtain ⟨pre, hu, ho, hb⟩ := h
  rcases ho.2 with ⟨rfl, rfl⟩ | ⟨g, cap, _, rfl, _⟩
  · exact ⟨none, 0, rfl, .inl ⟨rfl, rfl, rfl⟩⟩
  · exact ⟨some ⟨g, 0, none⟩, cap, rfl, .inr ⟨g, rfl⟩⟩

theorem AppU.bad {w wr : World} {l : List Int} {k : Nat} {V : Value} (h : AppU w l k V wr) (hk : 2 * k + 1 < l.length) (hx : dv (l[2 * k]?.getD 0) = none ∨ dv (l[2 * k + 1]?.getD 0) = none) :
    GivesBytes w (unhexR l).1 (unhexR l).2 (.returned (.tuple #[.slice none 0 0, .bool false])) wr := by
  obtain ⟨pre, hu, _, hb⟩ := h
  rw [hu.bad hk hx]
  exact ⟨none, 0, rfl, Row.nil _ _, hb⟩

theorem AppU.odd {w wr : World} {l : List Int} {k : Nat} {V : Value} (h : AppU w l k V wr) (hk : 2 * k + 1 = l.length) :
    GivesBytes w (unhexR l).1 (unhexR l).2 (.returned (.tuple #[.slice none 0 0, .bool false])) wr := by
  obtain ⟨pre, hu, _, hb⟩ := h
  rw [unhexR_odd (by omega)]
  exact ⟨none, 0, rfl, Row.nil _ _, hb⟩

theorem AppU.done {w wr : World} {l : List Int} {k C : Nat} {A : Option Addr} (h : AppU w l k (.slice A k C) wr) (hk : l.length = 2 * k) :
    GivesBytes w (unhexR l).1 (unhexR l).2 (.returned (.tuple #[.slice A k C, .bool true])) wr := by
  have hsh := h.shape
  obtain ⟨pre, hu, ho, hb⟩ := h
  rw [hu.done hk]
  refine ⟨A, C, by rw [hu.1], ?_, hb⟩
  rw [hu.1]
  obtain ⟨A', C', e, hA⟩ := hsh
  injection e with e1 _ e2
  subst e1 e2
  rcases hA with ⟨rfl, rfl, rfl⟩ | ⟨g, rfl⟩
  · have : pre = [] := List.eq_nil_of_length_eq_zero hu.1
    subst this
    exact Row.nil _ _
  · exact Row.of_own ho hu.2.1

end Go.Proofs.Ytloilhcpkffihaa
