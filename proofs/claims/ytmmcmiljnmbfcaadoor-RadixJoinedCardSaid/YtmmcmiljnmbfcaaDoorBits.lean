/-
  What radix.bitsOfBytes answers, for stage 2 (radix): the 24 bits of at most three bytes; it changes nothing that was there.
-/
import Derived.Test.YtmmcmiljnmbfcaaDoorAlpha
import Derived.Laws.CopyOwn
import Derived.Laws.BitsLemmas
import Derived.Lib.EndianBits
import Derived.Deep.QuietTactic
import Derived.BigQuiet
namespace Go.Proofs.YtmmcmiljnmbfcaaDoor
open Go.RowKit

def bitsN (zs : List Int) : Int := zs[0]?.getD 0 * 65536 + zs[1]?.getD 0 * 256 + zs[2]?.getD 0

theorem Tryd.size5 : (Tryd.prog.info? 5).map (·.size) = some 1 := by kernel_rfl
theorem Tryd.info44 : (Tryd.prog.info? 44).map (fun i => (i.zero, i.size)) = some (some (.agg (zeroCells 3)), 3) := by kernel_rfl

theorem splice_at {zs : List Int} (h : zs.length ≤ 3) (i : Nat) (hi : i < 3) :
    (splice (List.replicate 3 (Value.int .u8 0)) 0 (zs.map (Value.int .u8)))[i]? = some (.int .u8 (zs[i]?.getD 0)) := by
  simp only [splice, List.take_zero, List.nil_append, Nat.zero_add, List.length_map]
  rcases Nat.lt_or_ge i zs.length with hl | hl
  · rw [List.getElem?_append_left (by simpa using hl), List.getElem?_map, List.getElem?_eq_getElem hl]
    rfl
  · rw [List.getElem?_append_right (by simpa using hl), List.getElem?_eq_none hl, List.drop_replicate, List.length_map, List.getElem?_replicate, if_pos (by omega)]
    rfl

theorem cell_of_splice {w : World} {g : Nat} {zs : List Int} (h : w.heap[g]? = some (.cells (splice (List.replicate 3 (Value.int .u8 0)) 0 (zs.map (Value.int .u8))).toArray 44 (0, 0))) (hz : zs.length ≤ 3) (i : Nat) (hi : i < 3) :
    w.cell? ⟨g, i, none⟩ = some (.int .u8 (zs[i]?.getD 0)) := by
  have := splice_at hz i hi
  simp only [World.cell?, h]
  simpa using this

theorem bits_pos {w : World} {a : Option Addr} {m : Nat} {zs : List Int} (hx : Row w a m zs) (g : Nat) :
    0 < (zs.map (Value.int .u8)).length → (some ⟨g, 0, none⟩ : Option Addr) = some ⟨g, 0, none⟩ ∧ ∃ ad, a = some ad ∧ ∀ j v, (zs.map (Value.int .u8))[j]? = some v → w.cell? (ad.add j) = some v := by
  intro h
  rw [List.length_map, hx.1] at h
  obtain ⟨b, off, rfl, _, hc⟩ := hx.2.2 h
  refine ⟨rfl, _, rfl, fun j v hv => ?_⟩
  rw [List.getElem?_map] at hv
  rcases Nat.lt_or_ge j zs.length with hl | hl
  · have := hc j (by rw [← hx.1]; exact hl)
    rw [Addr.add_lit, this]
    rw [List.getElem?_eq_getElem hl] at hv ⊢
    simpa using hv
  · rw [List.getElem?_eq_none hl] at hv
    cases hv

theorem or1 {x y : Int} (x0 : 0 ≤ x) (x1 : x ≤ 255) (y0 : 0 ≤ y) (y1 : y ≤ 255) : bits .or .u32 (x * 65536) (y * 256) = x * 65536 + y * 256 :=
  bits_join .u32 32 (by decide) wraps_u32 16 _ _ (by omega) (by omega) (by omega) (by omega) (by omega) (by omega)
theorem or2 {x y z : Int} (x0 : 0 ≤ x) (x1 : x ≤ 255) (y0 : 0 ≤ y) (y1 : y ≤ 255) (z0 : 0 ≤ z) (z1 : z ≤ 255) : bits .or .u32 (x * 65536 + y * 256) z = x * 65536 + y * 256 + z :=
  bits_join .u32 32 (by decide) wraps_u32 8 _ _ (by omega) (by omega) (by omega) (by omega) (by omega) (by omega)

set_option maxHeartbeats 400000 in
theorem bits_any (a : Option Addr) (m ca : Nat) (zs : List Int) (w : World) (hx : Row w a m zs) (hm : m ≤ 3) :
    Calls Tryd.prog 19 #[.slice a m ca] w fun e w' => e = .returned (.int .u32 (bitsN zs)) ∧ Below w.heap.size w w' := by
  have hz := (zero_of_info Tryd.info44).1
  have bal := (Below.refl w.heap.size w).alloc (Nat.le_refl _) (.cells (List.replicate 3 (.int .u8 0)).toArray 44)
  have HX := Lib.hid (hx.below bal)
  have b0 := hx.byte 0
  have b1 := hx.byte 1
  have b2 := hx.byte 2
  clear hx
  have BAL := Lib.hid bal
  clear bal
  go_enter Tryd.func19, Tryd.ntmps19
  go_wp2_with (refine wpList_copy_splice rfl (.tmp 4) (.tmp 5) 29 29 rfl 5 Tryd.underlying29 Tryd.size5 _ _ _ _ _ _ rfl rfl w.heap.size 0 (List.replicate 3 (.int .u8 0)) 44 (heap_alloc_new _ _) (zs.map (Value.int .u8)) ?n (bits_pos HX.out _) ?fit ?one w.heap.size w BAL.out (Nat.le_refl _) ?_)
  case n => rw [List.length_map, HX.out.1]; exact (Nat.min_eq_left hm).symm
  case fit => rw [List.length_map, HX.out.1]; simpa using hm
  case one => intro v hv; obtain ⟨x, _, rfl⟩ := List.mem_map.1 hv; rfl
  intro w' hg hb
  have c0 := cell_of_splice hg.out (by rw [HX.out.1]; exact hm) 0 (by omega)
  have c1 := cell_of_splice hg.out (by rw [HX.out.1]; exact hm) 1 (by omega)
  have c2 := cell_of_splice hg.out (by rw [HX.out.1]; exact hm) 2 (by omega)
  have ST : Hid (bitsN zs = zs[0]?.getD 0 * 65536 + zs[1]?.getD 0 * 256 + zs[2]?.getD 0) := rfl
  clear hg HX BAL
  generalize zs[0]?.getD 0 = x at c0 b0 ST
  generalize zs[1]?.getD 0 = y at c1 b1 ST
  generalize zs[2]?.getD 0 = z at c2 b2 ST
  have o1 := or1 b0.1 b0.2 b1.1 b1.2
  have o2 := or2 b0.1 b0.2 b1.1 b1.2 b2.1 b2.2
  go_wp2
  go_ret
  exact ⟨by rw [ST.out]; rfl, hb⟩

end Go.Proofs.YtmmcmiljnmbfcaaDoor
