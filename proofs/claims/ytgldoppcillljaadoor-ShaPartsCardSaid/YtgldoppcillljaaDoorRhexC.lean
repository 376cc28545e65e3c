/-
  What the document's Hex answers, for stage 1 (octet): the same digits of a row of bytes as octet.Hex, and it changes nothing.
-/
import Derived.Test.YtgldoppcillljaaDoorHexC
namespace Go.Proofs.YtgldoppcillljaaDoor
open Go.RowKit

theorem strOfNums_append (xs ys : List Int) : strOfNums (xs ++ ys) = strOfNums xs ++ strOfNums ys := by
  unfold strOfNums
  rw [List.map_append, ByteArray.mk_append_mk]

theorem digit_cut (v : Int) (h0 : 0 ≤ v) (h1 : v ≤ 15) (W : World) :
    (Instr.slice 9 (.string ⟨#[48, 49, 50, 51, 52, 53, 54, 55, 56, 57, 97, 98, 99, 100, 101, 102]⟩) (some (.int .u8 v)) (some (.int .u8 (v + 1))) none).run Tryd.prog W = .ok (.string (strOfNums [hd v])) W := by
  obtain ⟨k, rfl⟩ := Int.eq_ofNat_of_zero_le h0
  have hk : k ≤ 15 := by omega
  clear h0 h1
  rcases k with _ | _ | _ | _ | _ | _ | _ | _ | _ | _ | _ | _ | _ | _ | _ | _ | k
  all_goals first | (exfalso; omega) | (rw [run_slice_string W 9 _ .u8 .u8 _ _ Tryd.underlying9 (by decide) (by decide) (by decide)]; rfl)

set_option maxHeartbeats 400000 in
theorem digit_any (v : Int) (w : World) (h0 : 0 ≤ v) (h1 : v ≤ 15) : Calls Tryd.prog 29 #[.int .u8 v] w fun e w' => e = .returned (.string (strOfNums [hd v])) ∧ w' = w := by
  have hc := digit_cut v h0 h1
  go_enter Tryd.func29, Tryd.ntmps29
  go_wp2
  go_ret
  exact ⟨rfl, rfl⟩

theorem hex_str {zs : List Int} {k : Nat} (h : k < zs.length) {x : Int} (hx : x = zs[k]?.getD 0) :
    strOfNums (hexZ (zs.take k)) ++ strOfNums [hd (x / 16)] ++ strOfNums [hd (x % 16)] = strOfNums (hexZ (zs.take (k + 1))) := by
  rw [hexZ_take h, hx, strOfNums_append, strOfNums_append]

set_option maxHeartbeats 400000 in
theorem rhex_any (a : Option Addr) (n ca : Nat) (zs : List Int) (w : World) (hx : Row w a n zs) (hn : n ≤ 10000) :
    Calls Tryd.prog 19 #[.slice a n ca] w fun e w' => e = .returned (.string (strOfNums (hexZ zs))) ∧ ∃ q, w' = w.drewN q := by
  have HX := Lib.hid hx
  clear hx
  go_enter Tryd.func19, Tryd.ntmps19
  go_wp2
  go_loopw [3, 4] (fun t i wr => ∃ k q : Nat, k ≤ n ∧ i = .int .i64 k ∧ t = .string (strOfNums (hexZ (zs.take k))) ∧ wr = w.drewN q) (fun _ i _ => n - (intOf i).toNat)
  case atStart => exact ⟨0, 0, Nat.zero_le _, rfl, rfl, rfl⟩
  case round =>
    obtain ⟨k, q, hk, rfl, rfl, rfl⟩ := hrel
    by_cases hlt : k < n
    · obtain ⟨b1, o1, rfl, hb1, hc1⟩ := HX.out.2.2 (by omega)
      have c1 := hc1 k hlt
      clear hc1
      have bx := HX.out.byte k
      have ST := Lib.hid (hex_str (zs := zs) (k := k) (by rw [HX.out.1]; exact hlt) rfl)
      have hl : (strOfNums (hexZ (zs.take k))).size ≤ 20000 := by rw [strOfNums_size, hexZ_length, List.length_take]; omega
      generalize zs[k]?.getD 0 = x at c1 bx ST
      generalize strOfNums (hexZ (zs.take k)) = S at hl ST ⊢
      have z1 : (strOfNums [hd (x / 16)]).size = 1 := by rw [strOfNums_size]; rfl
      have z2 : (strOfNums [hd (x % 16)]).size = 1 := by rw [strOfNums_size]; rfl
      go_wp2
      go_quiet ((go_at_call 29; exact calm_call (fun W => digit_any _ W (by omega) (by omega))))
      go_wp2
      go_roundw
      case rel => exact ⟨k + 1, _, by omega, by go_num, by rw [← ST.out], rfl⟩
      case measure => simp [intOf]; omega
    · have hall : zs.take k = zs := List.take_of_length_le (by rw [HX.out.1]; omega)
      rw [hall]
      clear hall
      go_wp2
      go_ret
      exact ⟨rfl, _, rfl⟩

end Go.Proofs.YtgldoppcillljaaDoor
