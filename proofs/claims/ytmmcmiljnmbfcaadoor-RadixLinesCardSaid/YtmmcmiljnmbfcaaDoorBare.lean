/-
  What the reference's Bare answers, for stage 2 (radix).
-/
import Derived.Test.YtmmcmiljnmbfcaaDoorAwake
import Derived.Test.YtmmcmiljnmbfcaaDoorApp
namespace Go.Proofs.YtmmcmiljnmbfcaaDoor
open Go.RowKit

/-- Is it none of the four blanks? -/
def kept (c : Int) : Bool := (c != 9) && ((c != 10) && ((c != 13) && (c != 32)))
def bareZ (l : List Int) : List Int := l.filter kept
theorem bareZ_take {l : List Int} {k : Nat} (h : k < l.length) : bareZ (l.take (k + 1)) = bareZ (l.take k) ++ (if kept (l[k]?.getD 0) = true then [l[k]?.getD 0] else []) := by
  unfold bareZ
  rw [List.take_succ_eq_append_getElem h, List.filter_append, List.getElem?_eq_getElem h]
  simp only [Option.getD_some, List.filter_cons, List.filter_nil]
theorem bareZ_byte {l : List Int} (h : ∀ x ∈ l, 0 ≤ x ∧ x ≤ 255) : ∀ x ∈ bareZ l, 0 ≤ x ∧ x ≤ 255 := fun x hx => h x (List.mem_filter.1 hx).1

set_option maxHeartbeats 4000000 in
theorem rbare_any (s : ByteArray) (w : World) (hs : s.size ≤ 2000) : Calls Tryd.prog 10 #[.string s] w fun e w' => e = .returned (.string (strOfNums (bareZ (numsOf s)))) ∧ Below w.heap.size w w' := by
  have NL := Lib.hid (numsOf_length s)
  go_enter Tryd.func10, Tryd.ntmps10
  go_wp2
  go_loopw [3, 4] (fun V i wr => ∃ k : Nat, k ≤ s.size ∧ i = .int .i64 (k : Int) ∧ Out w wr V (bareZ ((numsOf s).take k))) (fun _ i _ => s.size - (intOf i).toNat)
  case atStart => exact ⟨0, by omega, rfl, ⟨World.ownsRow_nil _ _ _ _, Below.refl _ _⟩⟩
  case round =>
    obtain ⟨k, hk, rfl, hout⟩ := hrel
    have HO := Lib.hid hout
    clear hout
    by_cases hlt : k < s.size
    · have ST := Lib.hid (bareZ_take (l := numsOf s) (k := k) (by rw [NL.out]; exact hlt))
      have ST' : Hid (bareZ ((numsOf s).take (k + 1)) = bareZ ((numsOf s).take k) ++ (if kept (nth s k) = true then [nth s k] else [])) := ST.out
      clear ST
      have hl : (bareZ ((numsOf s).take k)).length ≤ 2000 := by
        have h1 : (bareZ ((numsOf s).take k)).length ≤ ((numsOf s).take k).length := List.length_filter_le _ _
        have h2 : ((numsOf s).take k).length ≤ k := List.length_take_le _ _
        omega
      have hi := str_at s k hlt (k : Int) rfl
      have hb := nth_range s k
      generalize bareZ ((numsOf s).take k) = L at HO ST' hl
      generalize nth s k = c at hi hb ST'
      have HK : Hid (kept c = ((c != 9) && ((c != 10) && ((c != 13) && (c != 32))))) := rfl
      cases c1 : (c != 9)
      · have E : Hid (bareZ ((numsOf s).take (k + 1)) = L) := by rw [ST'.out, HK.out, c1]; simp [Hid]
        clear ST' HK
        go_wp2
        go_roundw
        case rel => exact ⟨k + 1, by omega, by go_num, by rw [E.out]; exact HO.out⟩
        case measure => simp [intOf]; omega
      cases c2 : (c != 10)
      · have E : Hid (bareZ ((numsOf s).take (k + 1)) = L) := by rw [ST'.out, HK.out, c1, c2]; simp [Hid]
        clear ST' HK
        go_wp2
        go_roundw
        case rel => exact ⟨k + 1, by omega, by go_num, by rw [E.out]; exact HO.out⟩
        case measure => simp [intOf]; omega
      cases c3 : (c != 13)
      · have E : Hid (bareZ ((numsOf s).take (k + 1)) = L) := by rw [ST'.out, HK.out, c1, c2, c3]; simp [Hid]
        clear ST' HK
        go_wp2
        go_roundw
        case rel => exact ⟨k + 1, by omega, by go_num, by rw [E.out]; exact HO.out⟩
        case measure => simp [intOf]; omega
      cases c4 : (c != 32)
      · have E : Hid (bareZ ((numsOf s).take (k + 1)) = L) := by rw [ST'.out, HK.out, c1, c2, c3, c4]; simp [Hid]
        clear ST' HK
        go_wp2
        go_roundw
        case rel => exact ⟨k + 1, by omega, by go_num, by rw [E.out]; exact HO.out⟩
        case measure => simp [intOf]; omega
      · have E : Hid (bareZ ((numsOf s).take (k + 1)) = L ++ [c]) := by rw [ST'.out, HK.out, c1, c2, c3, c4]; simp [Hid]
        have RW := Lib.hid (row_const wr [c] (0, 0) (by simp; omega))
        clear ST' HK
        go_wp2_with (at_builtin; refine out_append (W0 := w) (L := L) (zs := [c]) rfl _ _ rfl rfl (HO.out.alloc _) rfl RW.out (fun e => by cases e) (by omega) ?_; intro V2 w2 ho2; have HO2 := Lib.hid ho2; clear ho2)
        go_roundw
        case rel => exact ⟨k + 1, by omega, by go_num, by rw [E.out]; exact HO2.out⟩
        case measure => simp [intOf]; omega
    · have hall : (numsOf s).take k = numsOf s := List.take_of_length_le (by rw [NL.out]; omega)
      rw [hall] at HO
      obtain ⟨A, C, rfl, hrow⟩ := HO.out.row (bareZ_byte (nums_byte s))
      have kc := conv_at C hrow
      have HB := Lib.hid HO.out.2
      clear hrow HO hall
      go_wp2
      go_ret
      exact ⟨rfl, HB.out⟩

end Go.Proofs.YtmmcmiljnmbfcaaDoor
