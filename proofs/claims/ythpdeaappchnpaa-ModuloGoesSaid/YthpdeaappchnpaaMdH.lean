/-
  What the package's divideDigit answers, for stage 8 (modulo).
-/
import Derived.Test.YthpdeaappchnpaaMdF
import Derived.Test.YthpdeaappchnpaaMdG
import Derived.ScopeJumps
namespace Go.Proofs.Ythpdeaappchnpaa
open Go.RowKit
set_option linter.unusedVariables false

theorem Out32.part {W0 wr : World} {g cap n : Nat} {L : List Int} (h : Out32 W0 wr (.slice (some ⟨g, 0, none⟩) n cap) L) (hL : Limbs L) {i m : Nat} (hi : i + m ≤ L.length) : Row32 wr (some ⟨g, i, none⟩) m ((L.drop i).take m) := by
  refine ⟨by rw [List.length_take, List.length_drop]; omega, (hL.drop i).take m, fun h0 => ⟨g, i, rfl, ?_, fun j hj => ?_⟩⟩
  · exact cell_block (h.cell i (by omega)).1
  · rw [(h.cell (i + j) (by omega)).1, List.getElem?_take, if_pos hj, List.getElem?_drop]

set_option maxHeartbeats 1000000 in
set_option maxRecDepth 10000 in
theorem digit_any (W0 w : World) (g M cap i k cP cb : Nat) (b : Option Addr) (L ys : List Int) (ho : Out32 W0 w (.slice (some ⟨g, 0, none⟩) M cap) L) (hln : L.length = M) (hg : W0.heap.size ≤ g) (hL : Limbs L) (hi : i + k + 1 ≤ M) (hM : M ≤ 100000) (hr : Row32 W0 b k ys) (h2 : 2 ≤ k) (htop : ys[k - 1]?.getD 0 ≠ 0) (hlt : valZ (L.drop i) < valZ ys * 4294967296) (hz : ∀ j, i + k + 1 ≤ j → L[j]?.getD 0 = 0) :
    Calls Try.prog 37 #[.slice (some ⟨g, i, none⟩) (k + 1) cP, .slice b k cb] w fun e w' => ∃ L', e = .returned (.int .u32 (valZ (L.drop i) / valZ ys)) ∧ Out32 W0 w' (.slice (some ⟨g, 0, none⟩) M cap) L' ∧ Around L L' i k ∧ valZ (L'.drop i) = valZ (L.drop i) % valZ ys ∧ Only g w w' := by
  have dl := drop_lt hL (i := i) (n := k + 1) (by intro j hj; exact hz j (by omega))
  have M0 : 0 < valZ ys := by omega
  have ER := Lib.hid (estimate_any (some ⟨g, i, none⟩) b (k + 1) k cP cb ((L.drop i).take (k + 1)) ys w (ho.part hL (by omega)) (hr.below ho.2) rfl h2 (by omega) htop (by rw [dl.2.2]; exact hlt))
  rw [dl.2.2] at ER
  have DL : Hid (∀ L', Around L L' i k → 0 ≤ valZ (L'.drop i) ∧ valZ (L'.drop i) < 4294967296 ^ (k + 1)) := Lib.hid (fun L' hA => by
    have := drop_lt hA.2.1 (i := i) (n := k + 1) (by intro j hj; rw [hA.2.2.2 j (by omega)]; exact hz j (by omega))
    exact ⟨this.1, this.2.1⟩)
  have HO := Lib.hid ho
  have HLN := Lib.hid hln
  have HLL := Lib.hid hL
  have HR := Lib.hid hr
  have P0 := dl.1
  clear ho hln hL hr hz hlt htop dl
  go_enter Try.func37, Try.ntmps37
  go_wp2_with fail
  refine wp_scope_jumps 0 (fun a' w' => ∃ (d o : Int) (L1 : List Int) (u7 u8 u9 u10 u11 u12 u13 u14 u15 u16 u17 u18 u19 u20 u21 u22 u23 : Value), a' = { tmps := #[.slice (some ⟨g, i, none⟩) (k + 1) cP, .slice b k cb, undef, undef, .int .u32 0, .int .u32 d, .int .u32 o, u7, u8, u9, u10, u11, u12, u13, u14, u15, u16, u17, u18, u19, u20, u21, u22, u23], defers := [] } ∧ 0 ≤ d ∧ d ≤ 4294967295 ∧ 0 ≤ o ∧ o ≤ 1 ∧ Digit (valZ (L.drop i)) (valZ ys) (4294967296 ^ (k + 1)) d o (valZ (L1.drop i)) ∧ Out32 W0 w' (.slice (some ⟨g, 0, none⟩) M cap) L1 ∧ Around L L1 i k ∧ Only g w w') (fun a' _ => (intOf (a'.tmps.getD 5 undef)).toNat) rfl ?_ ?_
  · go_wp2_with fail
    refine ER.out.mono ?_
    rintro e w2 ⟨d, rfl, d0, d1, d2, hb2⟩
    have O2 := Lib.hid (HO.out.below hb2)
    have N2 : Hid (Only g w w2) := Lib.hid (.of_below hb2)
    have SM := Lib.hid (subtract_any W0 w2 g M cap i k cP cb b L ys d O2.out HLN.out hg HLL.out hi hM HR.out (by omega) d2)
    clear hb2 ER
    go_wp2_with fail
    refine SM.out.mono ?_
    rintro e w3 ⟨L1, o, rfl, o0, o1, ho3, hA3, hv3, hon3⟩
    have DG : Hid (Digit (valZ (L.drop i)) (valZ ys) (4294967296 ^ (k + 1)) d o (valZ (L1.drop i))) := Lib.hid ⟨hv3, d0, (DL.out L1 hA3).1, (DL.out L1 hA3).2, M0, P0⟩
    have O3 := Lib.hid ho3
    have A3 := Lib.hid hA3
    have N3 := Lib.hid (N2.out.trans hon3)
    clear SM ho3 hA3 hv3 hon3 O2
    go_wp2_with fail
    go_step3
    by_cases hq : o = 0
    · subst hq
      have t0 : ((0 : Int) == 0) = true := rfl
      have F := Lib.hid DG.out.done
      rw [F.out.1]
      go_wp2_with fail
      go_big_unhide
      simp only [Exit.jump]
      go_ret
      exact ⟨L1, rfl, O3.out, A3.out, F.out.2, N3.out⟩
    · obtain rfl : o = 1 := by omega
      have t0 : ((1 : Int) == 0) = false := rfl
      have ls := DG.out.less
      have k1 : IntKind.u32.wrap (d - 1) = d - 1 := IntWalk.u32_in _ (by omega)
      have AT := Lib.hid (addTo_any W0 w3 g M cap i k cP cb b L1 ys O3.out (A3.out.1.trans HLN.out) hg A3.out.2.1 hi hM HR.out)
      go_wp2_with fail
      refine AT.out.mono ?_
      rintro e w4 ⟨L2, c, rfl, c0, c1, ho4, hA4, hv4, hon4⟩
      have A4 := A3.out.trans hA4
      have DG4 : Hid (Digit (valZ (L.drop i)) (valZ ys) (4294967296 ^ (k + 1)) (d - 1) (1 - c) (valZ (L2.drop i))) := Lib.hid (DG.out.next hv4 (DL.out L2 A4).1 (DL.out L2 A4).2)
      have k2 : IntKind.u32.wrap (1 - c) = 1 - c := IntWalk.u32_in _ (by omega)
      have O4 := Lib.hid ho4
      have AA4 := Lib.hid A4
      have N4 := Lib.hid (N3.out.trans hon4)
      clear AT ho4 hA4 hv4 hon4 A4
      go_wp2_with fail
      go_step3
      exact ⟨rfl, ⟨d - 1, 1 - c, L2, _, _, _, _, _, _, _, _, _, _, _, _, _, _, _, _, _, rfl, by omega, by omega, by omega, by omega, DG4.out, O4.out, AA4.out, N4.out⟩⟩
  · rintro a' w3 ⟨d, o, L1, u7, u8, u9, u10, u11, u12, u13, u14, u15, u16, u17, u18, u19, u20, u21, u22, u23, rfl, d0', d2, o0, o1, hd, ho3, hA3, hon3⟩
    have DG := Lib.hid hd
    have O3 := Lib.hid ho3
    have A3 := Lib.hid hA3
    have N3 := Lib.hid hon3
    clear hd ho3 hA3 hon3 ER HO
    by_cases hq : o = 0
    · subst hq
      have t0 : ((0 : Int) == 0) = true := rfl
      have F := Lib.hid DG.out.done
      rw [F.out.1]
      go_wp2_with fail
      go_big_unhide
      simp only [Exit.jump]
      go_ret
      exact ⟨L1, rfl, O3.out, A3.out, F.out.2, N3.out⟩
    · obtain rfl : o = 1 := by omega
      have t0 : ((1 : Int) == 0) = false := rfl
      have ls := DG.out.less
      have k1 : IntKind.u32.wrap (d - 1) = d - 1 := IntWalk.u32_in _ (by omega)
      have AT := Lib.hid (addTo_any W0 w3 g M cap i k cP cb b L1 ys O3.out (A3.out.1.trans HLN.out) hg A3.out.2.1 hi hM HR.out)
      go_wp2_with fail
      refine AT.out.mono ?_
      rintro e w4 ⟨L2, c, rfl, c0, c1, ho4, hA4, hv4, hon4⟩
      have A4 := A3.out.trans hA4
      have DG4 : Hid (Digit (valZ (L.drop i)) (valZ ys) (4294967296 ^ (k + 1)) (d - 1) (1 - c) (valZ (L2.drop i))) := Lib.hid (DG.out.next hv4 (DL.out L2 A4).1 (DL.out L2 A4).2)
      have k2 : IntKind.u32.wrap (1 - c) = 1 - c := IntWalk.u32_in _ (by omega)
      have O4 := Lib.hid ho4
      have AA4 := Lib.hid A4
      have N4 := Lib.hid (N3.out.trans hon4)
      clear AT ho4 hA4 hv4 hon4 A4
      go_wp2_with fail
      go_step3
      refine ⟨rfl, ⟨d - 1, 1 - c, L2, _, _, _, _, _, _, _, _, _, _, _, _, _, _, _, _, _, rfl, by omega, by omega, by omega, by omega, DG4.out, O4.out, AA4.out, N4.out⟩, ?_⟩
      show (d - 1).toNat < d.toNat
      omega

end Go.Proofs.Ythpdeaappchnpaa
