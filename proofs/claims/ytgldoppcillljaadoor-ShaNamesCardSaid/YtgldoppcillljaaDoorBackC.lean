/-
  Digits and bytes undo one another: plain facts on lists (of stage 1's text).
-/
import Derived.Test.YtgldoppcillljaaDoorUnhexWalkC
namespace Go.Proofs.YtgldoppcillljaaDoor
open Go.RowKit

theorem dv_hd {v : Int} (h0 : 0 ≤ v) (h1 : v ≤ 15) : dv (hd v) = some v := by
  unfold dv hd
  by_cases h : v < 10
  · rw [if_pos h, if_pos (by omega)]
    congr 1
    omega
  · rw [if_neg h, if_neg (by omega), if_pos (by omega)]
    congr 1
    omega

theorem hd_dv {c v : Int} (h : dv c = some v) : hd v = c := by
  unfold dv at h
  unfold hd
  split at h
  · injection h with h
    rw [if_pos (by omega)]
    omega
  · split at h
    · injection h with h
      rw [if_neg (by omega)]
      omega
    · cases h

theorem unhex_hex : ∀ zs : List Int, (∀ x ∈ zs, 0 ≤ x ∧ x ≤ 255) → unhexZ (hexZ zs) = some zs
  | [], _ => rfl
  | x :: xs, h => by
    have hx := h x (by simp)
    have ih := unhex_hex xs (fun y hy => h y (by simp [hy]))
    rw [hexZ, unhexZ, dv_hd (by omega) (by omega), dv_hd (by omega) (by omega), ih]
    simp only [Option.map_some, Option.some.injEq, List.cons.injEq, and_true]
    omega

theorem unhexR_hex {zs : List Int} (h : ∀ x ∈ zs, 0 ≤ x ∧ x ≤ 255) : unhexR (numsOf (strOfNums (hexZ zs))) = (zs, true) := by
  rw [nums_str _ (hexZ_byte zs h), unhexR, unhex_hex zs h]

end Go.Proofs.YtgldoppcillljaaDoor
