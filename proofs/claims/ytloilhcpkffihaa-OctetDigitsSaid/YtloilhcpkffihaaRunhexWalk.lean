/-
  The walk of the document's Unhex, for stage 1 (octet).
-/
import Derived.Test.YtloilhcpkffihaaRunhex
import Derived.Laws.BitsLemmas
namespace Go.Proofs.Ytloilhcpkffihaa
open Go.RowKit
set_option linter.unusedSimpArgs false

theorem AppU.next {w wr w1 : World} {l pre : List Int} {k g cap : Nat} {x y u : Int} {V : Value} {o : Obj} (hu : Upto l k pre) (hk : 2 * k + 1 < l.length) (hx : dv (l[2 * k]?.getD 0) = some x) (hy : dv (l[2 * k + 1]?.getD 0) = some y) (he : u = x * 16 + y)
    (ho : wr.ownsRow w.heap.size 5 1 V k (pre.map (Value.int .u8))) (hb : Below w.heap.size w wr)
    (ho1 : w1.ownsRow w.heap.size 5 1 (.slice (some ⟨g, 0, none⟩) (k + 1) cap) (k + 1) (pre.map (Value.int .u8) ++ [.int .u8 u])) (hg : (wr.alloc o).drew.grownBy w1 V.ownBlock) :
    AppU w l (k + 1) (.slice (some ⟨g, 0, none⟩) (k + 1) cap) w1 := by
  subst he
  refine ⟨pre ++ [x * 16 + y], hu.more hk hx hy, by rw [List.map_append]; exact ho1, ?_⟩
  exact ((hb.alloc hb.size o).drew).grown hg (by show w.heap.size ≤ (wr.alloc o).heap.size; have := hb.size; simp; omega) (fun j hj => (ho.lt j hj).1)

theorem below_new {B : Nat} {w : World} (h : B ≤ w.heap.size) (o : Obj) : Below B w.drew (w.alloc o).drew :=
  have k := (Below.refl B w).alloc h o
  ⟨k.os, k.tape, k.output, k.size, k.block⟩
theorem below_grown {B : Nat} {w w1 : World} {o : Obj} {row : Option Nat} (h : B ≤ w.heap.size) (hg : (w.alloc o).drew.grownBy w1 row) (hr : ∀ k, row = some k → B ≤ k) : Below B (w.alloc o).drew w1 :=
  (Below.refl _ _).grown hg (by show B ≤ (w.alloc o).heap.size; simp; omega) hr

set_option maxHeartbeats 1000000 in
theorem runhex_any (s : ByteArray) (w : World) (hb : s.size ≤ 20000) :
    Calls Try.prog 10 #[.string s] w (GivesBytes w (unhexR (numsOf s)).1 (unhexR (numsOf s)).2) := by
  obtain ⟨i0, hi5, hz0, hz1, hz2⟩ := info_parts Try.infoByte
  have I5 := Lib.hid hi5
  have Z0 := Lib.hid hz0
  have Z1 := Lib.hid hz1
  have Z2 := Lib.hid hz2
  clear hi5 hz0 hz1 hz2
  have hlen : Hid ((numsOf s).length = s.size) := numsOf_length s
  go_enter Try.func10, Try.ntmps10
  go_wp2
  go_loopw [4, 5] (fun V i wr => ∃ k : Nat, 2 * k ≤ s.size ∧ i = .int .i64 (2 * (k : Int)) ∧ AppU w (numsOf s) k V wr) (fun _ i _ => s.size - (intOf i).toNat)
  case atStart => exact ⟨0, Nat.zero_le _, rfl, [], Upto.start _, World.ownsRow_nil _ _ _ _, Below.refl _ _⟩
  case round =>
    obtain ⟨k, hk, rfl, hl⟩ := hrel
    obtain ⟨A, C, rfl, _⟩ := hl.shape
    have HL := Lib.hid hl
    clear hl
    by_cases hlt : 2 * k < s.size
    · by_cases hodd : 2 * k + 1 = s.size
      · have ht : ((2 * (k : Int) + 1) == (s.size : Int)) = true := by simp; omega
        have B := Lib.hid (HL.out.odd (by rw [hlen.out]; exact hodd))
        clear hodd
        go_wp2
        go_ret2
        exact B.out
      · have ht : ((2 * (k : Int) + 1) == (s.size : Int)) = false := by simp; omega
        have hk1 : 2 * k + 1 < s.size := by omega
        clear hodd
        have i1 := str_at s (2 * k) hlt (2 * (k : Int)) (by omega)
        have i2 := str_at s (2 * k + 1) hk1 (2 * (k : Int) + 1) (by omega)
        have r1 := nth_range s (2 * k)
        have r2 := nth_range s (2 * k + 1)
        have HBad := Lib.hid (HL.out.bad (by rw [hlen.out]; exact hk1))
        change Hid (dv (nth s (2 * k)) = none ∨ dv (nth s (2 * k + 1)) = none → _) at HBad
        cases hx : dv (nth s (2 * k)) with
        | none =>
          have X := Lib.hid hx
          have B := Lib.hid (HBad.out (Or.inl hx))
          clear hx HBad
          go_wp2_with fail
          refine (worth_no _ _ X.out).mono ?_
          rintro e w' ⟨rfl, rfl⟩
          go_wp2
          go_ret2
          exact B.out
        | some x =>
          have X := Lib.hid hx
          have bx := dv_range hx
          have tx : (x == 16) = false := by simp; omega
          cases hy : dv (nth s (2 * k + 1)) with
          | none =>
            have Y := Lib.hid hy
            have B := Lib.hid (HBad.out (Or.inr hy))
            clear hx hy HBad
            go_wp2_with fail
            refine (worth_yes _ x _ X.out r1.1 r1.2).mono ?_
            rintro e w' ⟨rfl, rfl⟩
            go_wp2_with fail
            refine (worth_no _ _ Y.out).mono ?_
            rintro e w' ⟨rfl, rfl⟩
            go_wp2
            go_ret2
            exact B.out
          | some y =>
            have Y := Lib.hid hy
            have b_y := dv_range hy
            have ty : (y == 16) = false := by simp; omega
            clear hx hy HBad
            go_wp2_with fail
            refine (worth_yes _ x _ X.out r1.1 r1.2).mono ?_
            rintro e w' ⟨rfl, rfl⟩
            go_wp2_with fail
            refine (worth_yes _ y _ Y.out r2.1 r2.2).mono ?_
            rintro e w' ⟨rfl, rfl⟩
            go_wp2_with fail
            obtain ⟨pre, hu, hown, hbel⟩ := HL.out
            have hwk : IntKind.i64.wrap (2 * (k : Int) + 1) = 2 * (k : Int) + 1 := IntWalk.i64_in _ (by omega)
            have hwx : IntKind.u8.wrap (x * 16) = x * 16 := wraps_u8 _ (by omega) (by omega)
            have hwy : IntKind.u8.wrap (x * 16 + y) = x * 16 + y := wraps_u8 _ (by omega) (by omega)
            refine wp_region_ord (Below w.heap.size) (Below.refl _) (fun _ _ _ => Below.trans) ((0, false) :: (1, false) :: (2, false) :: (3, false) :: (6, false) :: (7, false) :: (8, false) :: (9, false) :: (4, true) :: (5, false) :: (10, true) :: (11, false) :: (12, true) :: (13, true) :: (14, false) :: []) (by kernel_rfl) (by kernel_rfl) rfl (by kernel_rfl) (fun _ _ _ _ _ h => h) ?_
            repeat (first | (refine ord_move _ rfl rfl (by rfl) ?_; simp only [Act.put, Act.eval, List.setIfInBounds_toArray, List.set_cons_zero, List.set_cons_succ, Array.getD_eq_getD_getElem?, List.getElem?_toArray, List.getElem?_cons_succ, List.getElem?_cons_zero, Option.getD_some]) | (refine ord_assign _ rfl rfl (by rfl) ?_; simp only [Act.put, Act.eval, List.setIfInBounds_toArray, List.set_cons_zero, List.set_cons_succ, Array.getD_eq_getD_getElem?, List.getElem?_toArray, List.getElem?_cons_succ, List.getElem?_cons_zero, Option.getD_some]) | (refine ord_take _ rfl (by rfl) (fun W hW => by go_simp; first | done | rfl) ?_; simp only [Act.put, Act.eval, List.setIfInBounds_toArray, List.set_cons_zero, List.set_cons_succ, Array.getD_eq_getD_getElem?, List.getElem?_toArray, List.getElem?_cons_succ, List.getElem?_cons_zero, Option.getD_some]))
            refine ord_sole rfl (by rfl) (fun K hK => ?_)
            go_simp
            refine (worth_yes _ x _ X.out r1.1 r1.2).mono ?_
            rintro e w1 ⟨rfl, rfl⟩
            refine hK _ _ (Below.refl _ _) ?_
            clear hK K
            repeat (first | (refine ord_move _ rfl rfl (by rfl) ?_; simp only [Act.put, Act.eval, List.setIfInBounds_toArray, List.set_cons_zero, List.set_cons_succ, Array.getD_eq_getD_getElem?, List.getElem?_toArray, List.getElem?_cons_succ, List.getElem?_cons_zero, Option.getD_some]) | (refine ord_assign _ rfl rfl (by rfl) ?_; simp only [Act.put, Act.eval, List.setIfInBounds_toArray, List.set_cons_zero, List.set_cons_succ, Array.getD_eq_getD_getElem?, List.getElem?_toArray, List.getElem?_cons_succ, List.getElem?_cons_zero, Option.getD_some]) | (refine ord_take _ rfl (by rfl) (fun W hW => by go_simp; first | done | rfl) ?_; simp only [Act.put, Act.eval, List.setIfInBounds_toArray, List.set_cons_zero, List.set_cons_succ, Array.getD_eq_getD_getElem?, List.getElem?_toArray, List.getElem?_cons_succ, List.getElem?_cons_zero, Option.getD_some]))
            refine ord_sole rfl (by rfl) (fun K hK => ?_)
            go_simp
            refine (worth_yes _ y _ Y.out r2.1 r2.2).mono ?_
            rintro e w1 ⟨rfl, rfl⟩
            refine hK _ _ (Below.refl _ _) ?_
            clear hK K
            repeat (first | (refine ord_move _ rfl rfl (by rfl) ?_; simp only [Act.put, Act.eval, List.setIfInBounds_toArray, List.set_cons_zero, List.set_cons_succ, Array.getD_eq_getD_getElem?, List.getElem?_toArray, List.getElem?_cons_succ, List.getElem?_cons_zero, Option.getD_some]) | (refine ord_assign _ rfl rfl (by rfl) ?_; simp only [Act.put, Act.eval, List.setIfInBounds_toArray, List.set_cons_zero, List.set_cons_succ, Array.getD_eq_getD_getElem?, List.getElem?_toArray, List.getElem?_cons_succ, List.getElem?_cons_zero, Option.getD_some]) | (refine ord_take _ rfl (by rfl) (fun W hW => by go_simp; first | done | rfl) ?_; simp only [Act.put, Act.eval, List.setIfInBounds_toArray, List.set_cons_zero, List.set_cons_succ, Array.getD_eq_getD_getElem?, List.getElem?_toArray, List.getElem?_cons_succ, List.getElem?_cons_zero, Option.getD_some]))
            refine ord_sole rfl (by rfl) (fun K hK => ?_)
            go_simp
            refine hK _ _ (below_new (by have := hbel.size; omega) _) ?_
            clear hK K
            refine ord_sole rfl (by rfl) (fun K hK => ?_)
            refine wp_append_lies _ _ _ 22 rfl w.heap.size 5 i0 (.int .u8 0) 1 1 Try.underlying22 I5.out Z0.out Z1.out Z2.out rfl (by decide) _ k (pre.map (Value.int .u8)) rfl (hown.alloc _) ⟨w'.heap.size, 0, none⟩ 1 1 [.int .u8 (x * 16 + y)] rfl rfl (cell_one_new _ _ _) (by simp [Value.oneCell']) (by decide) (by unfold maxLen; omega) (by omega) (by have := hbel.size; simp; omega) (w'.heap.size + 1) (by simp) ?_
            intro g cap w1 hown1 hgrow1 _ _
            have N := Lib.hid (AppU.next hu (by rw [hlen.out]; exact hk1) X.out Y.out rfl hown hbel hown1 hgrow1)
            refine hK _ _ (below_grown (by have := hbel.size; omega) hgrow1 (fun j hj => (hown.lt j hj).1)) ?_
            clear hK K hwk hwx hwy hown hown1 hgrow1
            simp only [Act.put, Act.eval, List.setIfInBounds_toArray, List.set_cons_zero, List.set_cons_succ, Array.getD_eq_getD_getElem?, List.getElem?_toArray, List.getElem?_cons_succ, List.getElem?_cons_zero, Option.getD_some]
            repeat (first | (refine ord_move _ rfl rfl (by rfl) ?_; simp only [Act.put, Act.eval, List.setIfInBounds_toArray, List.set_cons_zero, List.set_cons_succ, Array.getD_eq_getD_getElem?, List.getElem?_toArray, List.getElem?_cons_succ, List.getElem?_cons_zero, Option.getD_some]) | (refine ord_assign _ rfl rfl (by rfl) ?_; simp only [Act.put, Act.eval, List.setIfInBounds_toArray, List.set_cons_zero, List.set_cons_succ, Array.getD_eq_getD_getElem?, List.getElem?_toArray, List.getElem?_cons_succ, List.getElem?_cons_zero, Option.getD_some]) | (refine ord_take _ rfl (by rfl) (fun W hW => by go_simp; first | done | rfl) ?_; simp only [Act.put, Act.eval, List.setIfInBounds_toArray, List.set_cons_zero, List.set_cons_succ, Array.getD_eq_getD_getElem?, List.getElem?_toArray, List.getElem?_cons_succ, List.getElem?_cons_zero, Option.getD_some]))
            refine ord_end ?_
            go_wp2
            go_roundw
            case rel => exact ⟨k + 1, by omega, by go_num, N.out⟩
            case measure => simp [intOf]; omega
    · have B : Hid (GivesBytes w (unhexR (numsOf s)).1 (unhexR (numsOf s)).2 (.returned (.tuple #[.slice A k C, .bool true])) wr) := HL.out.done (by rw [hlen.out]; omega)
      go_wp2
      go_ret2
      exact B.out

end Go.Proofs.Ytloilhcpkffihaa
