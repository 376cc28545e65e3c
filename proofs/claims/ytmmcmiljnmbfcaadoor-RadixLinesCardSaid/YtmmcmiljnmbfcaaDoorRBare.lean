/-
  What radix.Bare answers, for stage 2 (radix).
-/
import Derived.Test.YtmmcmiljnmbfcaaDoorBare
import Derived.Test.YtmmcmiljnmbfcaaDoorStrs
import Derived.Deep.LoopGhost
import Derived.Handy
namespace Go.Proofs.YtmmcmiljnmbfcaaDoor
open Go.RowKit

def blanks : Array Value := #[.int .u8 9, .int .u8 10, .int .u8 13, .int .u8 32]
def bareW (w : World) : World := w.alloc (.cells blanks 35)
theorem blank_cells {w wr : World} {V : Value} {L : List Int} (h : Out (bareW w) wr V L) : ∀ j, j < 4 → wr.cell? ⟨w.heap.size, j, none⟩ = blanks[j]? := by
  intro j hj
  have e := heap_alloc_new w (.cells blanks 35)
  have hc : (bareW w).cell? ⟨w.heap.size, j, none⟩ = blanks[j]? := by
    unfold bareW
    simp only [World.cell?, e]
    rfl
  rw [h.2.cell (p := ⟨w.heap.size, j, none⟩) (by simp [bareW]), hc]

theorem bare_made {w : World} (n : Nat) (hn : n ≤ 1000000) : Out (bareW w) ((bareW w).alloc (.cells (madeCells #[.int .u8 0] n) 5)) (.slice (some ⟨w.heap.size + 1, 0, none⟩) 0 n) [] := by
  have h := Out.made (W0 := bareW w) n hn
  rw [show (bareW w).heap.size = w.heap.size + 1 by simp [bareW]] at h
  exact h
theorem blank_at (j : Nat) (x : Int) (h : blanks[j]? = some (.int .u8 x)) (hj : j < 4) (i : Int) (hi : i = j) (W : World) : (Instr.index 35 (.agg #[.int .u8 9, .int .u8 10, .int .u8 13, .int .u8 32]) (.int .i64 i)).run Tryd.prog W = .ok (.int .u8 x) W := by
  subst hi
  rcases j with _ | _ | _ | _ | j
  · obtain rfl : x = 9 := by simpa [blanks] using h.symm
    rfl
  · obtain rfl : x = 10 := by simpa [blanks] using h.symm
    rfl
  · obtain rfl : x = 13 := by simpa [blanks] using h.symm
    rfl
  · obtain rfl : x = 32 := by simpa [blanks] using h.symm
    rfl
  · omega

set_option maxHeartbeats 4000000 in
theorem bare_any (s : ByteArray) (w : World) (hs : s.size ≤ 2000) : Calls Tryd.prog 9 #[.string s] w fun e w' => e = .returned (.string (strOfNums (bareZ (numsOf s)))) ∧ Below w.heap.size w w' := by
  have NL := Lib.hid (numsOf_length s)
  have hmk := make_bytes s.size (by omega)
  have i0 := blank_at 0 9 rfl (by omega) 0 rfl
  have i1 := blank_at 1 10 rfl (by omega) 1 rfl
  have i2 := blank_at 2 13 rfl (by omega) 2 rfl
  have i3 := blank_at 3 32 rfl (by omega) 3 rfl
  go_enter Tryd.func9, Tryd.ntmps9
  go_wp2
  go_step3
  go_wp2
  go_step3
  go_wp2
  clear hmk
  go_loopg [4, 14] s.size (fun g V i wr => ∃ k : Nat, k + g = s.size ∧ i = .int .i64 (k : Int) ∧ Out (bareW w) wr V (bareZ ((numsOf s).take k)))
  case atStart => exact ⟨0, by omega, rfl, bare_made s.size (by omega)⟩
  case round =>
    obtain ⟨k, hk, rfl, hout⟩ := hrel
    have HO := Lib.hid hout
    have hbc := blank_cells hout
    have b0 := hbc 0 (by omega)
    have b1 := hbc 1 (by omega)
    have b2 := hbc 2 (by omega)
    have b3 := hbc 3 (by omega)
    simp only [blanks, List.getElem?_toArray, List.getElem?_cons_zero, List.getElem?_cons_succ] at b0 b1 b2 b3
    clear hout hbc
    by_cases hlt : k < s.size
    · have ST := Lib.hid (bareZ_take (l := numsOf s) (k := k) (by rw [NL.out]; exact hlt))
      have ST' : Hid (bareZ ((numsOf s).take (k + 1)) = bareZ ((numsOf s).take k) ++ (if kept (nth s k) = true then [nth s k] else [])) := ST.out
      clear ST
      have hl : (bareZ ((numsOf s).take k)).length ≤ 2000 := by
        have h1 : (bareZ ((numsOf s).take k)).length ≤ ((numsOf s).take k).length := List.length_filter_le _ _
        have h2 : ((numsOf s).take k).length ≤ k := List.length_take_le _ _
        omega
      have hi := str_at s k hlt (k : Int) rfl
      have hb := nth_range s k
      generalize bareZ ((numsOf s).take k) = L at HO ST' hl
      generalize nth s k = c at hi hb ST'
      have HK : Hid (kept c = ((c != 9) && ((c != 10) && ((c != 13) && (c != 32))))) := rfl
      by_cases c1 : (c == 9) = true
      · have E : Hid (bareZ ((numsOf s).take (k + 1)) = L) := by rw [ST'.out, HK.out, bne, c1]; simp [Hid]
        clear ST' HK
        go_wp2
        refine wp_loop_rounds 1 ?_
        rw [rounds_succ]
        go_wp2
        obtain ⟨j, rfl⟩ : ∃ j, gk = j + 1 := ⟨gk - 1, by omega⟩
        go_roundg j
        case measure => omega
        case rel => exact ⟨k + 1, by omega, by go_num, by rw [E.out]; exact HO.out⟩
      have f1 : (c == 9) = false := Bool.eq_false_iff.2 c1
      clear c1
      by_cases c2 : (c == 10) = true
      · have E : Hid (bareZ ((numsOf s).take (k + 1)) = L) := by rw [ST'.out, HK.out, bne, f1, bne, c2]; simp [Hid]
        clear ST' HK
        go_wp2
        refine wp_loop_rounds 2 ?_
        rw [rounds_succ]
        go_wp2
        rw [rounds_succ]
        go_wp2
        obtain ⟨j, rfl⟩ : ∃ j, gk = j + 1 := ⟨gk - 1, by omega⟩
        go_roundg j
        case measure => omega
        case rel => exact ⟨k + 1, by omega, by go_num, by rw [E.out]; exact HO.out⟩
      have f2 : (c == 10) = false := Bool.eq_false_iff.2 c2
      clear c2
      by_cases c3 : (c == 13) = true
      · have E : Hid (bareZ ((numsOf s).take (k + 1)) = L) := by rw [ST'.out, HK.out, bne, f1, bne, f2, bne, c3]; simp [Hid]
        clear ST' HK
        go_wp2
        refine wp_loop_rounds 3 ?_
        rw [rounds_succ]
        go_wp2
        rw [rounds_succ]
        go_wp2
        rw [rounds_succ]
        go_wp2
        obtain ⟨j, rfl⟩ : ∃ j, gk = j + 1 := ⟨gk - 1, by omega⟩
        go_roundg j
        case measure => omega
        case rel => exact ⟨k + 1, by omega, by go_num, by rw [E.out]; exact HO.out⟩
      have f3 : (c == 13) = false := Bool.eq_false_iff.2 c3
      clear c3
      by_cases c4 : (c == 32) = true
      · have E : Hid (bareZ ((numsOf s).take (k + 1)) = L) := by rw [ST'.out, HK.out, bne, f1, bne, f2, bne, f3, bne, c4]; simp [Hid]
        clear ST' HK
        go_wp2
        refine wp_loop_rounds 4 ?_
        rw [rounds_succ]
        go_wp2
        rw [rounds_succ]
        go_wp2
        rw [rounds_succ]
        go_wp2
        rw [rounds_succ]
        go_wp2
        obtain ⟨j, rfl⟩ : ∃ j, gk = j + 1 := ⟨gk - 1, by omega⟩
        go_roundg j
        case measure => omega
        case rel => exact ⟨k + 1, by omega, by go_num, by rw [E.out]; exact HO.out⟩
      have f4 : (c == 32) = false := Bool.eq_false_iff.2 c4
      clear c4
      have E : Hid (bareZ ((numsOf s).take (k + 1)) = L ++ [c]) := by rw [ST'.out, HK.out, bne, f1, bne, f2, bne, f3, bne, f4]; simp [Hid]
      clear ST' HK
      go_wp2
      refine wp_loop_rounds 5 ?_
      rw [rounds_succ]
      go_wp2
      rw [rounds_succ]
      go_wp2
      rw [rounds_succ]
      go_wp2
      rw [rounds_succ]
      go_wp2
      rw [rounds_succ]
      have RW := Lib.hid (row_const wr [c] (0, 0) (by simp; omega))
      go_wp2_with (at_builtin; refine out_append (W0 := bareW w) (L := L) (zs := [c]) rfl _ _ rfl rfl (HO.out.alloc _) rfl RW.out (fun e => by cases e) (by omega) ?_; intro V2 w2 ho2; have HO2 := Lib.hid ho2; clear ho2)
      obtain ⟨j, rfl⟩ : ∃ j, gk = j + 1 := ⟨gk - 1, by omega⟩
      go_roundg j
      case measure => omega
      case rel => exact ⟨k + 1, by omega, by go_num, by rw [E.out]; exact HO2.out⟩
    · obtain rfl : gk = 0 := by omega
      have hall : (numsOf s).take k = numsOf s := List.take_of_length_le (by rw [NL.out]; omega)
      rw [hall] at HO
      obtain ⟨A, C, rfl, hrow⟩ := HO.out.row (bareZ_byte (nums_byte s))
      have kc := conv_at C hrow
      have HB := Lib.hid (Below.step (show Below w.heap.size w (bareW w) from (Below.refl _ _).alloc (Nat.le_refl _) _) HO.out.2)
      clear hrow HO hall
      go_wp2
      try rw [Exit.noGoto_ret]
      go_ret
      exact ⟨rfl, HB.out⟩

end Go.Proofs.YtmmcmiljnmbfcaaDoor
