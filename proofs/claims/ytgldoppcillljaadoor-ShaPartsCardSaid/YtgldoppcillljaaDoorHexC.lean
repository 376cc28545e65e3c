/-
  What octet.Hex and the document's Hex answer, for stage 1 (octet): both give the same digits of a row of bytes, and change nothing that was there.
-/
import Derived.Test.YtgldoppcillljaaDoorRows
import Derived.Test.YtgldoppcillljaaDoorMath
import Derived.WalkKit
import Derived.WalkSpells
import Derived.WalkLawsBesides
import Derived.Deep.QuietTactic
import Derived.BigQuiet
import Derived.Lib.Hide
import Derived.Deep.AppendLies
import Derived.Deep.RegionLaw
import Derived.OneCell
import Derived.Test.YtgldoppcillljaaDoorOut
namespace Go.Proofs.YtgldoppcillljaaDoor
open Go.RowKit

/-- The digit of a half byte. -/
def hd (v : Int) : Int := if v < 10 then 48 + v else 87 + v

/-- Hex' answer, as the numbers of its letters. -/
def hexZ : List Int → List Int
  | [] => []
  | x :: xs => hd (x / 16) :: hd (x % 16) :: hexZ xs

theorem hexZ_append (xs ys : List Int) : hexZ (xs ++ ys) = hexZ xs ++ hexZ ys := by
  induction xs with
  | nil => rfl
  | cons x xs ih => simp [hexZ, ih]

theorem hexZ_length (xs : List Int) : (hexZ xs).length = 2 * xs.length := by
  induction xs with
  | nil => rfl
  | cons x xs ih => simp [hexZ, ih]; omega

theorem take_snoc {zs : List Int} {k : Nat} (h : k < zs.length) : zs.take (k + 1) = zs.take k ++ [zs[k]?.getD 0] := by
  rw [List.take_succ_eq_append_getElem h]
  simp [List.getElem?_eq_getElem h]

theorem hexZ_take {zs : List Int} {k : Nat} (h : k < zs.length) : hexZ (zs.take (k + 1)) = hexZ (zs.take k) ++ [hd (zs[k]?.getD 0 / 16)] ++ [hd (zs[k]?.getD 0 % 16)] := by
  rw [take_snoc h, hexZ_append]
  simp [hexZ]

/-- The world in a call of Hex: the variable 'text' lies in the second new block and owns the letters L. -/
def Inv (w wr : World) (L : List Int) : Prop :=
  ∃ g cap, wr.heap[w.heap.size + 1]? = some (.cells #[.slice (some ⟨g, 0, none⟩) L.length cap] 22 (0, 0)) ∧
    wr.ownsRow w.heap.size 5 1 (.slice (some ⟨g, 0, none⟩) L.length cap) L.length (L.map (Value.int .u8)) ∧ Below w.heap.size w wr

theorem digit_at (v : Int) (h0 : 0 ≤ v) (h1 : v ≤ 15) (W : World) :
    (Instr.index 9 (.string ⟨#[48, 49, 50, 51, 52, 53, 54, 55, 56, 57, 97, 98, 99, 100, 101, 102]⟩) (.int .u8 v)).run Tryd.prog W = .ok (.int .u8 (hd v)) W := by
  obtain ⟨k, rfl⟩ := Int.eq_ofNat_of_zero_le h0
  have hk : k ≤ 15 := by omega
  clear h0 h1
  rw [run_index_string W 9 _ .u8 _ Tryd.underlying9, dif_pos ⟨by omega, by simp only [ByteArray.size_mk']; simp; omega⟩]
  congr 2
  rcases k with _ | _ | _ | _ | _ | _ | _ | _ | _ | _ | _ | _ | _ | _ | _ | _ | k
  all_goals first | rfl | (exfalso; omega)

/-- A row of bytes that is owned does not lie in the block of the variable. -/
theorem own_ne {w : World} {base B g n cap : Nat} {xs : List Value} {V : Value} (hv : w.heap[B]? = some (.cells #[V] 22 (0, 0))) (hown : w.ownsRow base 5 1 (.slice (some ⟨g, 0, none⟩) n cap) n xs) : g ≠ B := by
  rintro rfl
  rcases hown.2 with ⟨h, _⟩ | ⟨g', cap', cur, h, _, hg, _⟩
  · cases h
  · simp only [Value.slice.injEq, Option.some.injEq, Addr.mk.injEq, and_true, true_and] at h
    obtain ⟨rfl, rfl⟩ := h
    rw [hv] at hg
    injection hg with hg
    injection hg with _ ht
    cases ht

theorem put_kept {wr w1 : World} {base B g n cap : Nat} {xs : List Value} {V : Value} {o : Obj} (hv : wr.heap[B]? = some (.cells #[V] 22 (0, 0))) (hown : wr.ownsRow base 5 1 (.slice (some ⟨g, 0, none⟩) n cap) n xs)
    (hg : (wr.alloc o).drew.grownBy w1 (Value.slice (some ⟨g, 0, none⟩) n cap).ownBlock) : w1.heap[B]? = some (.cells #[V] 22 (0, 0)) := by
  have hlt := lt_of_block hv
  have hne := own_ne hv hown
  rw [hg.block B (by show B < (wr.alloc o).heap.size; simp; omega) (by simp [Value.ownBlock]; omega)]
  exact (Below.heap_alloc wr o B hlt).trans hv

theorem put_end {w wr w1 : World} {L : List Int} {g cap g1 cap1 : Nat} {v : Int} {o : Obj} {V : Value} (hv : wr.heap[w.heap.size + 1]? = some (.cells #[V] 22 (0, 0)))
    (hown : wr.ownsRow w.heap.size 5 1 (.slice (some ⟨g, 0, none⟩) L.length cap) L.length (L.map (Value.int .u8))) (hb : Below w.heap.size w wr)
    (hown1 : w1.ownsRow w.heap.size 5 1 (.slice (some ⟨g1, 0, none⟩) (L.length + 1) cap1) (L.length + 1) (L.map (Value.int .u8) ++ [Value.int .u8 (hd v)]))
    (hg : (wr.alloc o).drew.grownBy w1 (Value.slice (some ⟨g, 0, none⟩) L.length cap).ownBlock) :
    Inv w (w1.setCell ⟨w.heap.size + 1, 0, none⟩ (.slice (some ⟨g1, 0, none⟩) (L.length + 1) cap1)) (L ++ [hd v]) := by
  have hv1 := put_kept hv hown hg
  have hne := own_ne hv1 hown1
  have e : (L ++ [hd v]).length = L.length + 1 := by simp
  refine ⟨g1, cap1, ?_, ?_, ?_⟩
  · rw [e]
    exact one_setCell hv1
  · rw [e, List.map_append]
    exact ownsRow_setCell_other hown1 (by simp [Value.ownBlock]; omega) _
  · refine Below.setCell ?_ (Nat.le_succ _) _
    exact ((hb.alloc hb.size o).drew).grown hg (by show w.heap.size ≤ (wr.alloc o).heap.size; have := hb.size; simp; omega) (fun k hk => by simp [Value.ownBlock] at hk; subst hk; exact (hown.lt _ rfl).1)

set_option maxHeartbeats 400000 in
theorem put_any (w wr : World) (L : List Int) (v : Int) (h0 : 0 ≤ v) (h1 : v ≤ 15) (hi : Inv w wr L) (hl : L.length ≤ 1000000) :
    Calls Tryd.prog 28 #[.int .u8 v, .pointer (some ⟨w.heap.size + 1, 0, none⟩)] wr fun e w' => e = .returned (.tuple #[]) ∧ Inv w w' (L ++ [hd v]) := by
  obtain ⟨i0, hi5, hz0, hz1, hz2⟩ := info_parts Tryd.infoByte
  obtain ⟨g, cap, hv, hown, hb⟩ := hi
  have hc := cell_of_one hv
  have hf := free_of_one hv
  have hca : ∀ o, (wr.alloc o).cell? ⟨w.heap.size + 1, 0, none⟩ = some (.slice (some ⟨g, 0, none⟩) L.length cap) := fun o => (World.cell?_alloc_lt wr o _ (lt_of_block hv)).trans hc
  have HV := Lib.hid hv
  clear hv
  have hdig := digit_at v h0 h1
  have hlt := hb.size
  go_enter Tryd.func28, Tryd.ntmps28
  go_region_law (refine step_append_lies _ rfl _ _ 22 rfl w.heap.size 5 i0 (.int .u8 0) 1 1 Tryd.underlying22 hi5 hz0 hz1 hz2 rfl (by decide) _ L.length (L.map (Value.int .u8)) rfl (hown.alloc _) ⟨wr.heap.size, 0, none⟩ 1 1 [.int .u8 (hd v)] rfl rfl (cell_one_new _ _ _) (by simp [Value.oneCell']) (by decide) (by unfold maxLen; omega) (by omega) (by simp; omega) (wr.heap.size + 1) (by simp) ?_; intro g1 cap1 w1 hown1 hgrow1 _ _; have hc1 := cell_of_one (put_kept HV.out hown hgrow1); have hf1 := free_of_one (put_kept HV.out hown hgrow1))
  all_goals go_end0
  all_goals exact ⟨rfl, put_end HV.out hown hb (by assumption) (by assumption)⟩

/-- Hex' first two new blocks. -/
theorem hex_start (w : World) (c : Nat) (hc : c ≤ 1000000) :
    Inv w ((w.alloc (.cells (madeCells #[.int .u8 0] c) 5)).alloc (.cells #[.slice (some ⟨w.heap.size, 0, none⟩) 0 c] 22)) [] := by
  refine ⟨w.heap.size, c, ?_, ?_, ((Below.refl _ _).alloc (Nat.le_refl _) _).alloc (by simp) _⟩
  · have := heap_alloc_new (w.alloc (.cells (madeCells #[.int .u8 0] c) 5)) (.cells #[.slice (some ⟨w.heap.size, 0, none⟩) 0 c] 22)
    simpa using this
  · exact World.ownsRow.alloc (World.ownsRow_made w _ c (Nat.le_refl _) (by unfold maxLen; omega) (by rw [size_madeCells]; omega)) _

theorem and15 {x : Int} (h0 : 0 ≤ x) (h1 : x ≤ 255) : bits .and .u8 x 15 = x % 16 := u8_and15 x h0 (by omega)

theorem Inv.read {w wr : World} {L : List Int} (h : Inv w wr L) (hL : ∀ x ∈ L, 0 ≤ x ∧ x ≤ 255) :
    ∃ g cap, wr.cell? ⟨w.heap.size + 1, 0, none⟩ = some (.slice (some ⟨g, 0, none⟩) L.length cap) ∧
      (convert 22 9 (.slice (some ⟨g, 0, none⟩) L.length cap)).run Tryd.prog wr = .ok (.string (strOfNums L)) wr := by
  obtain ⟨g, cap, hv, hown, _⟩ := h
  exact ⟨g, cap, cell_of_one hv, (Row.of_own hown hL).conv 22 9 5 Tryd.underlying22 Tryd.underlying5 Tryd.underlying9⟩

theorem Inv.below {w wr : World} {L : List Int} (h : Inv w wr L) : Below w.heap.size w wr := by
  obtain ⟨_, _, _, _, h⟩ := h
  exact h
theorem Inv.cell_old {w wr : World} {L : List Int} (h : Inv w wr L) {b o : Nat} (hb : b < w.heap.size) : wr.cell? ⟨b, o, none⟩ = w.cell? ⟨b, o, none⟩ := h.below.cell (p := ⟨b, o, none⟩) hb

theorem hd_byte {v : Int} (h0 : 0 ≤ v) (h1 : v ≤ 15) : 0 ≤ hd v ∧ hd v ≤ 255 := by
  unfold hd
  split <;> omega

theorem hexZ_byte : ∀ zs : List Int, (∀ x ∈ zs, 0 ≤ x ∧ x ≤ 255) → ∀ x ∈ hexZ zs, 0 ≤ x ∧ x ≤ 255
  | [], _, x, hx => by simp [hexZ] at hx
  | y :: ys, h, x, hx => by
    have hy := h y (by simp)
    simp only [hexZ, List.mem_cons] at hx
    rcases hx with rfl | rfl | hx
    · exact hd_byte (by omega) (by omega)
    · exact hd_byte (by omega) (by omega)
    · exact hexZ_byte ys (fun z hz => h z (by simp [hz])) x hx

set_option maxHeartbeats 400000 in
theorem hex_any (a : Option Addr) (n ca : Nat) (zs : List Int) (w : World) (hx : Row w a n zs) (hn : n ≤ 10000) :
    Calls Tryd.prog 18 #[.slice a n ca] w fun e w' => e = .returned (.string (strOfNums (hexZ zs))) ∧ Below w.heap.size w w' := by
  have HX := Lib.hid hx
  clear hx
  have hmk := make_bytes (2 * n) (by omega)
  have e2 : ((2 * n : Nat) : Int) = 2 * (n : Int) := by omega
  rw [e2] at hmk
  clear e2
  have HS := Lib.hid (hex_start w (2 * n) (by omega))
  go_enter Tryd.func18, Tryd.ntmps18
  go_wp2
  clear hmk
  go_loopw [13] (fun i wr => ∃ k : Nat, k ≤ n ∧ i = .int .i64 k ∧ Inv w wr (hexZ (zs.take k))) (fun i _ => n - (intOf i).toNat)
  case atStart => exact ⟨0, Nat.zero_le _, rfl, by simpa [hexZ] using HS.out⟩
  case round =>
    obtain ⟨k, hk, rfl, hinv⟩ := hrel
    have HI := Lib.hid hinv
    clear hinv HS
    have hll : (hexZ (zs.take k)).length ≤ 2 * n := by rw [hexZ_length, List.length_take]; omega
    by_cases hlt : k < n
    · obtain ⟨b1, o1, rfl, hb1, hc1⟩ := HX.out.2.2 (by omega)
      have c0 := hc1 k hlt
      clear hc1
      have bx := HX.out.byte k
      have ST := Lib.hid (hexZ_take (zs := zs) (k := k) (by rw [HX.out.1]; exact hlt))
      generalize zs[k]?.getD 0 = x at c0 bx ST
      generalize hexZ (zs.take k) = L at HI hll ST
      have c1 := (HI.out.cell_old (o := o1 + k) hb1).trans c0
      have ha := and15 bx.1 bx.2
      go_wp2_with fail
      refine (put_any w _ L _ (by omega) (by omega) HI.out (by omega)).mono ?_
      rintro e w2 ⟨rfl, hinv2⟩
      have c2 := (hinv2.cell_old (o := o1 + k) hb1).trans c0
      have HI2 := Lib.hid hinv2
      clear hinv2
      go_wp2_with fail
      refine (put_any w _ _ _ (by omega) (by omega) HI2.out (by simp; omega)).mono ?_
      rintro e w3 ⟨rfl, hinv3⟩
      have HI3 := Lib.hid hinv3
      clear hinv3 ha
      go_wp2
      go_roundw
      case rel => exact ⟨k + 1, by omega, by go_num, by rw [ST.out]; exact HI3.out⟩
      case measure => simp [intOf]; omega
    · have hall : zs.take k = zs := List.take_of_length_le (by rw [HX.out.1]; omega)
      rw [hall] at HI
      clear hll hall
      obtain ⟨g, cap, hc, hconv⟩ := HI.out.read (hexZ_byte zs HX.out.2.1)
      have hbel := HI.out.below
      go_wp2
      go_ret
      exact ⟨rfl, hbel⟩

end Go.Proofs.YtgldoppcillljaaDoor
