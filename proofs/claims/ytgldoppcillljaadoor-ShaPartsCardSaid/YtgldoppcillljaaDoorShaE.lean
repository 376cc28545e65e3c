/-
  What the package's wordAt answers; words and their ranges; the block of 64 words, for stage 6 (sha).
-/
import Derived.Test.YtgldoppcillljaaDoorShaR
import Derived.Test.YtgldoppcillljaaDoorShaC
import Derived.Great.Walk
import Derived.Laws.ResultCell
import Derived.Deep.MidRow
namespace Go.Proofs.YtgldoppcillljaaDoor
open Go.RowKit
set_option linter.unusedVariables false

theorem w32_wrap (x : Int) : W32 (IntKind.u32.wrap x) := by
  rw [IntKind.wrap_u32]
  unfold W32
  omega
theorem w32_and (a b : Int) : W32 (bits .and .u32 a b) := w32_wrap _
theorem w32_or (a b : Int) : W32 (bits .or .u32 a b) := w32_wrap _
theorem w32_xor (a b : Int) : W32 (bits .xor .u32 a b) := w32_wrap _
theorem wrap_m32 (x : Int) : IntKind.u32.wrap x = m32 x := by
  rw [IntKind.wrap_u32]
  rfl
theorem byte_is {w : World} {a : Option Addr} {n : Nat} {zs : List Int} (h : Row w a n zs) (k : Nat) : 0 ≤ zs[k]?.getD 0 ∧ zs[k]?.getD 0 ≤ 255 := h.byte k
theorem word_range {b : List Int} (h : ∀ x ∈ b, 0 ≤ x ∧ x ≤ 255) (i : Nat) : W32 (wordZ b i) := by
  have g : ∀ k : Nat, 0 ≤ b[k]?.getD 0 ∧ b[k]?.getD 0 ≤ 255 := by
    intro k
    rcases Nat.lt_or_ge k b.length with hk | hk
    · rw [List.getElem?_eq_getElem hk]
      exact h _ (List.getElem_mem hk)
    · rw [List.getElem?_eq_none hk]
      simp
  have g0 := g i
  have g1 := g (i + 1)
  have g2 := g (i + 2)
  have g3 := g (i + 3)
  unfold W32 wordZ
  omega
theorem words_range {b : List Int} (h : ∀ x ∈ b, 0 ≤ x ∧ x ≤ 255) (k : Nat) : ∀ x ∈ wordsZ8 b k, 0 ≤ x ∧ x ≤ 4294967295 := by
  induction k with
  | zero => intro x hx; cases hx
  | succ k ih =>
    intro x hx
    rw [wordsZ8, List.mem_append] at hx
    rcases hx with hx | hx
    · exact ih x hx
    · rw [List.mem_singleton] at hx
      subst hx
      split
      · exact word_range h _
      · exact m32_range _

set_option maxHeartbeats 2000000 in
theorem word_any (a : Option Addr) (n ca : Nat) (zs : List Int) (w : World) (hr : Row w a n zs) (hn : 4 ≤ n) : Calls Tryd.prog 33 #[.slice a n ca] w fun e w' => e = .returned (.int .u32 (wordZ zs 0)) ∧ ∃ q, w' = w.drewN q := by
  obtain ⟨b, off, rfl, hb, hc⟩ := hr.2.2 (by omega)
  have c0 := hc 0 (by omega)
  have c1 := hc 1 (by omega)
  have c2 := hc 2 (by omega)
  have c3 := hc 3 (by omega)
  have z0 := hr.byte 0
  have z1 := hr.byte 1
  have z2 := hr.byte 2
  have z3 := hr.byte 3
  have W : wordZ zs 0 = ((zs[0]?.getD 0 * 256 + zs[1]?.getD 0) * 256 + zs[2]?.getD 0) * 256 + zs[3]?.getD 0 := rfl
  rw [W]
  clear hr hc W
  generalize zs[0]?.getD 0 = y0 at *
  generalize zs[1]?.getD 0 = y1 at *
  generalize zs[2]?.getD 0 = y2 at *
  generalize zs[3]?.getD 0 = y3 at *
  have s0 : y0 * 16777216 % 4294967296 = y0 * 16777216 := by omega
  have s1 : y1 * 65536 % 4294967296 = y1 * 65536 := by omega
  have s2 : y2 * 256 % 4294967296 = y2 * 256 := by omega
  have j1 : bits .or .u32 (y0 * 16777216) (y1 * 65536) = y0 * 16777216 + y1 * 65536 := bits_join .u32 32 (by decide) (fun n h0 h1 => IntWalk.u32_in _ (by omega)) 24 _ _ (by omega) (by omega) (by omega) (by omega) (by omega) (by omega)
  have j2 : bits .or .u32 (y0 * 16777216 + y1 * 65536) (y2 * 256) = y0 * 16777216 + y1 * 65536 + y2 * 256 := bits_join .u32 32 (by decide) (fun n h0 h1 => IntWalk.u32_in _ (by omega)) 16 _ _ (by omega) (by omega) (by omega) (by omega) (by omega) (by omega)
  have j3 : bits .or .u32 (y0 * 16777216 + y1 * 65536 + y2 * 256) y3 = y0 * 16777216 + y1 * 65536 + y2 * 256 + y3 := bits_join .u32 32 (by decide) (fun n h0 h1 => IntWalk.u32_in _ (by omega)) 8 _ _ (by omega) (by omega) (by omega) (by omega) (by omega) (by omega)
  have k0 : 0 < n := by omega
  have k1 : 1 < n := by omega
  have k2 : 2 < n := by omega
  have k3 : 3 < n := by omega
  rw [Nat.add_zero] at c0
  go_enter Tryd.func33, Tryd.ntmps33
  go_wp2_with fail
  go_quiet (fail)
  go_wp2
  go_ret
  exact ⟨same_int (by omega), _, rfl⟩

/-- The block of 64 words, as far as they are laid. -/
def wcells (l : List Int) : Array Value := ((l ++ List.replicate (64 - l.length) 0).map (Value.int .u32)).toArray
def Z64 : Array Value := (List.replicate 64 (Value.int .u32 0)).toArray
theorem wcells_nil : wcells [] = Z64 := rfl
theorem wcells_size (l : List Int) (h : l.length ≤ 64) : (wcells l).size = 64 := by
  unfold wcells
  simp
  omega
theorem wcells_set (l : List Int) (x : Int) (h : l.length < 64) : (wcells l).setIfInBounds l.length (.int .u32 x) = wcells (l ++ [x]) := by
  unfold wcells
  apply Array.ext'
  rw [Array.toList_setIfInBounds, List.length_append, List.length_singleton]
  show ((l ++ List.replicate (64 - l.length) 0).map (Value.int .u32)).set l.length (.int .u32 x) = (l ++ [x] ++ List.replicate (64 - (l.length + 1)) 0).map (Value.int .u32)
  rw [← List.map_set, List.set_append_right _ _ (Nat.le_refl _), Nat.sub_self, show 64 - l.length = (64 - (l.length + 1)) + 1 by omega, List.replicate_succ, List.set_cons_zero, List.append_assoc]
  rfl
theorem wcells_get (l : List Int) (i : Nat) (h : i < 64) : (wcells l)[i]? = some (.int .u32 (l[i]?.getD 0)) := by
  unfold wcells
  rw [List.getElem?_toArray, List.getElem?_map, List.getElem?_append]
  split
  · rename_i hi
    rw [List.getElem?_eq_getElem hi]
    rfl
  · rename_i hi
    rw [List.getElem?_replicate, if_pos (by omega), List.getElem?_eq_none (by omega)]
    rfl
theorem wcells_one (l : List Int) : (wcells l).all (·.oneCell') = true := by
  unfold wcells
  refine all_oneCell_toArray ?_
  intro v hv
  obtain ⟨x, _, rfl⟩ := List.mem_map.1 hv
  rfl
theorem Tryd.size53 (l : List Int) (h : l.length ≤ 64) : (Tryd.prog.info? 53).map (·.size) = some (wcells l).size := by
  rw [wcells_size l h]
  kernel_rfl

end Go.Proofs.YtgldoppcillljaaDoor
