/-
  The walk of octet.Unhex, for stage 1 (octet).
-/
import Derived.Test.YtgldoppcillljaaDoorUnhexC
import Derived.Laws.BitsLemmas
namespace Go.Proofs.YtgldoppcillljaaDoor
open Go.RowKit

/-- The world in a round of Unhex: the row that was made bears what the first k pairs have come to. -/
def LaidU (w : World) (m : Nat) (l : List Int) (k : Nat) (wr : World) : Prop :=
  ∃ pre, Upto l k pre ∧ wr.ownsRow w.heap.size 5 1 (.slice (some ⟨w.heap.size, 0, none⟩) m m) m ((pre ++ List.replicate (m - k) 0).map (Value.int .u8)) ∧ Below w.heap.size w wr

theorem laidU_start {w w1 : World} {m : Nat} {l : List Int} (hown : w1.ownsRow w.heap.size 5 1 (.slice (some ⟨w.heap.size, 0, none⟩) m m) m (madeCells #[Value.int .u8 0] m).toList) (hg : w.grownBy w1 none) : LaidU w m l 0 w1 := by
  refine ⟨[], Upto.start l, ?_, (Below.refl _ _).grown hg (Nat.le_refl _) (fun k h => by cases h)⟩
  rw [toList_madeCells_one] at hown
  simpa using hown

theorem set_pre {pre : List Int} {m k : Nat} {u : Int} (hp : pre.length = k) (hk : k < m) : ((pre ++ List.replicate (m - k) 0).map (Value.int .u8)).set k (.int .u8 u) = ((pre ++ [u]) ++ List.replicate (m - (k + 1)) 0).map (Value.int .u8) := by
  have e1 : m - k = (m - (k + 1)) + 1 := by omega
  rw [e1, List.replicate_succ, ← List.map_set, List.set_append_right _ _ (by omega), hp]
  simp

theorem LaidU.step {w wr : World} {m k : Nat} {l : List Int} (h : LaidU w m l k wr) (hk : k < m) (hl : l.length = 2 * m) :
    (∃ v, wr.cell? ⟨w.heap.size, k, none⟩ = some v) ∧ wr.frozen? ⟨w.heap.size, k, none⟩ = false ∧
    ∀ x y, dv (l[2 * k]?.getD 0) = some x → dv (l[2 * k + 1]?.getD 0) = some y → LaidU w m l (k + 1) (wr.setCell ⟨w.heap.size, k, none⟩ (.int .u8 (x * 16 + y))) := by
  obtain ⟨pre, hu, ho, hb⟩ := h
  refine ⟨⟨_, (ho.cellAt k (by omega)).trans (List.getElem?_eq_getElem (by simp [hu.1]; omega))⟩, ho.frozenAt _, fun x y hx hy => ⟨pre ++ [x * 16 + y], hu.more (by omega) hx hy, ?_, hb.setCell (Nat.le_refl _) _⟩⟩
  have := (ho.stored k (.int .u8 (x * 16 + y))).1
  rw [set_pre hu.1 hk] at this
  exact this

theorem LaidU.bad {w wr : World} {m k : Nat} {l : List Int} (h : LaidU w m l k wr) (hk : k < m) (hl : l.length = 2 * m) (hx : dv (l[2 * k]?.getD 0) = none ∨ dv (l[2 * k + 1]?.getD 0) = none) :
    GivesBytes w (unhexR l).1 (unhexR l).2 (.returned (.tuple #[.slice none 0 0, .bool false])) wr := by
  obtain ⟨pre, hu, _, hb⟩ := h
  rw [hu.bad (by omega) hx]
  exact ⟨none, 0, rfl, Row.nil _ _, hb, Nat.le_refl _⟩

theorem LaidU.done {w wr : World} {m k : Nat} {l : List Int} (h : LaidU w m l k wr) (hk : k = m) (hl : l.length = 2 * m) :
    GivesBytes w (unhexR l).1 (unhexR l).2 (.returned (.tuple #[.slice (some ⟨w.heap.size, 0, none⟩) m m, .bool true])) wr := by
  subst hk
  obtain ⟨pre, hu, ho, hb⟩ := h
  rw [hu.done hl]
  have e : pre ++ List.replicate (k - k) 0 = pre := by simp
  rw [e] at ho
  refine ⟨some ⟨w.heap.size, 0, none⟩, k, ?_, ?_, hb, Nat.le_of_eq hu.1⟩
  · rw [hu.1]
  · rw [hu.1]
    exact Row.of_own ho hu.2.1

theorem or4 {x y : Int} (x0 : 0 ≤ x) (x1 : x ≤ 15) (y0 : 0 ≤ y) (y1 : y ≤ 15) : bits .or .u8 (x * 16) y = x * 16 + y :=
  bits_join .u8 8 (by decide) wraps_u8 4 _ _ (by omega) (by omega) (by omega) y0 (by omega) (by omega)

set_option maxHeartbeats 1000000 in
theorem unhex_even (s : ByteArray) (m : Nat) (w : World) (hs : s.size = 2 * m) (hm : m ≤ 10000) :
    Calls Tryd.prog 15 #[.string s] w (GivesBytes w (unhexR (numsOf s)).1 (unhexR (numsOf s)).2) := by
  obtain ⟨i0, hi, hz0, hz1, hz2⟩ := info_parts Tryd.info5
  have HS := Lib.hid hs
  have hq : (s.size : Int) / 2 = (m : Int) := by omega
  have hr : ((s.size : Int) % 2 != 0) = false := by simp; omega
  have hb : s.size ≤ 20000 := by omega
  clear hs
  go_enter Tryd.func15, Tryd.ntmps15
  go_wp2_with (at_make; refine wpList_make_full _ rfl _ _ 22 rfl w.heap.size 5 i0 (.int .u8 0) 1 Tryd.underlying22 hi hz0 hz1 _ _ _ _ m rfl rfl ?b0 ?b00 ?b1 ?b2 ?b3 ?_)
  case b0 => first | rfl | omega
  case b00 => first | rfl | omega
  case b1 => rw [hz2]; omega
  case b2 => unfold maxLen; omega
  case b3 => exact Nat.le_refl _
  intro w1 hown0 hgrow
  have HB := Lib.hid (laidU_start (l := numsOf s) hown0 hgrow)
  clear hown0 hgrow hz2 hz1 hz0 hi hq hr
  go_wp2
  go_loopw [20] (fun i wr => ∃ k : Nat, k ≤ m ∧ i = .int .i64 k ∧ LaidU w m (numsOf s) k wr) (fun i _ => m - (intOf i).toNat)
  case atStart => exact ⟨0, Nat.zero_le _, rfl, HB.out⟩
  case round =>
    obtain ⟨k, hk, rfl, hl⟩ := hrel
    have HL := Lib.hid hl
    clear hl HB
    have hlen : Hid ((numsOf s).length = 2 * m) := by rw [numsOf_length]; exact HS.out
    by_cases hlt : k < m
    · have i1 := str_at s (2 * k) (by have := HS.out; omega) (2 * (k : Int)) (by omega)
      have i2 := str_at s (2 * k + 1) (by have := HS.out; omega) (2 * (k : Int) + 1) (by omega)
      have r1 := nth_range s (2 * k)
      have r2 := nth_range s (2 * k + 1)
      obtain ⟨⟨v, hc⟩, hf, hnext⟩ := HL.out.step hlt hlen.out
      have HN := Lib.hid hnext
      clear hnext
      have HBad := Lib.hid (HL.out.bad hlt hlen.out)
      change Hid (∀ x y, dv (nth s (2 * k)) = some x → dv (nth s (2 * k + 1)) = some y → _) at HN
      change Hid (dv (nth s (2 * k)) = none ∨ dv (nth s (2 * k + 1)) = none → _) at HBad
      generalize nth s (2 * k) = c at i1 r1 HN HBad
      generalize nth s (2 * k + 1) = d at i2 r2 HN HBad
      cases hx : dv c with
      | none =>
        have X := Lib.hid hx
        have B := Lib.hid (HBad.out (Or.inl hx))
        clear hx HN HBad
        cases hy : dv d with
        | none =>
          have Y := Lib.hid hy
          clear hy
          go_wp2_with fail
          refine (dv_no c _ X.out).mono ?_
          rintro e w' ⟨rfl, rfl⟩
          go_wp2_with fail
          refine (dv_no d _ Y.out).mono ?_
          rintro e w' ⟨rfl, rfl⟩
          go_wp2
          go_ret2
          exact B.out
        | some y =>
          have Y := Lib.hid hy
          clear hy
          go_wp2_with fail
          refine (dv_no c _ X.out).mono ?_
          rintro e w' ⟨rfl, rfl⟩
          go_wp2_with fail
          refine (dv_yes d y _ Y.out r2.1 r2.2).mono ?_
          rintro e w' ⟨rfl, rfl⟩
          go_wp2
          go_ret2
          exact B.out
      | some x =>
        have X := Lib.hid hx
        have bx := dv_range hx
        cases hy : dv d with
        | none =>
          have Y := Lib.hid hy
          have B := Lib.hid (HBad.out (Or.inr hy))
          clear hx hy HN HBad
          go_wp2_with fail
          refine (dv_yes c x _ X.out r1.1 r1.2).mono ?_
          rintro e w' ⟨rfl, rfl⟩
          go_wp2_with fail
          refine (dv_no d _ Y.out).mono ?_
          rintro e w' ⟨rfl, rfl⟩
          go_wp2
          go_ret2
          exact B.out
        | some y =>
          have Y := Lib.hid hy
          have b_y := dv_range hy
          have N := Lib.hid (HN.out x y hx hy)
          have ho := or4 bx.1 bx.2 b_y.1 b_y.2
          clear hx hy HN HBad
          go_wp2_with fail
          refine (dv_yes c x _ X.out r1.1 r1.2).mono ?_
          rintro e w' ⟨rfl, rfl⟩
          go_wp2_with fail
          refine (dv_yes d y _ Y.out r2.1 r2.2).mono ?_
          rintro e w' ⟨rfl, rfl⟩
          go_wp2
          go_roundw
          case rel => exact ⟨k + 1, by omega, by go_num, N.out⟩
          case measure => simp [intOf]; omega
    · go_wp2
      go_ret2
      exact HL.out.done (by omega) hlen.out

set_option maxHeartbeats 400000 in
theorem unhex_odd (s : ByteArray) (w : World) (hs : s.size % 2 = 1) (hm : s.size ≤ 20000) :
    Calls Tryd.prog 15 #[.string s] w (GivesBytes w (unhexR (numsOf s)).1 (unhexR (numsOf s)).2) := by
  have hr : ((s.size : Int) % 2 != 0) = true := by simp; omega
  have B : Hid (GivesBytes w (unhexR (numsOf s)).1 (unhexR (numsOf s)).2 (.returned (.tuple #[.slice none 0 0, .bool false])) w) := by
    rw [unhexR_odd (by rw [numsOf_length]; exact hs)]
    exact ⟨none, 0, rfl, Row.nil _ _, Below.refl _ _, Nat.le_refl _⟩
  clear hs
  go_enter Tryd.func15, Tryd.ntmps15
  go_wp2
  go_ret2
  exact B.out

theorem unhex_any (s : ByteArray) (w : World) (hm : s.size ≤ 20000) : Calls Tryd.prog 15 #[.string s] w (GivesBytes w (unhexR (numsOf s)).1 (unhexR (numsOf s)).2) := by
  by_cases h : s.size % 2 = 1
  · exact unhex_odd s w h hm
  · exact unhex_even s (s.size / 2) w (by omega) (by omega)

end Go.Proofs.YtgldoppcillljaaDoor
