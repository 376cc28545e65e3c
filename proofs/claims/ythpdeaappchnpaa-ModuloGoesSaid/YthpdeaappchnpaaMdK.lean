/-
  What the package's DivMod and Mul answer, for stage 8 (modulo).
-/
import Derived.Test.YthpdeaappchnpaaMdJ
import Derived.Test.YthpdeaappchnpaaLnN
namespace Go.Proofs.Ythpdeaappchnpaa
open Go.RowKit
set_option linter.unusedVariables false

/-- What is left of x, divided by m; 0 where m is 0. -/
def remZ (x m : Int) : Int := if m = 0 then 0 else x % m
theorem remZ_pos {x m : Int} (h : 0 < m) : remZ x m = x % m := if_neg (by omega)
theorem remZ_nonneg {x m : Int} (h : 0 ≤ m) : 0 ≤ remZ x m := by
  unfold remZ
  split
  · omega
  · exact Int.emod_nonneg _ (by omega)
theorem remZ_lt {x m : Int} (h : 0 < m) : remZ x m < m := by rw [remZ_pos h]; exact Int.emod_lt_of_pos _ h
/-- A quotient, what is left, and whether there are such. -/
def ResQ (x m : Int) (n k : Nat) (w : World) (e : Ending) (w' : World) : Prop :=
  ∃ (a : Option Addr) (n1 c : Nat) (b : Option Addr) (n2 d : Nat), e = .returned (.tuple #[.slice a n1 c, .slice b n2 d, .bool (!decide (m = 0))]) ∧ Norm w' (x / m) a n1 c ∧ Norm w' (remZ x m) b n2 d ∧ n1 ≤ n ∧ n2 ≤ k ∧ Below w.heap.size w w'
/-- What is left, and whether there is such. -/
def ResR (v m : Int) (k : Nat) (w : World) (e : Ending) (w' : World) : Prop :=
  ∃ (a : Option Addr) (n c : Nat), e = .returned (.tuple #[.slice a n c, .bool (!decide (m = 0))]) ∧ Norm w' v a n c ∧ n ≤ k ∧ Below w.heap.size w w'
theorem norm_nil (w : World) : Norm w 0 none 0 0 := ⟨by rw [limZ_zero]; rfl, by rw [limZ_zero]; exact Row32.nil _ _, Nat.le_refl _, fun _ => rfl⟩
theorem quo_len {x m : Int} {n : Nat} (hx : 0 ≤ x ∧ x < 4294967296 ^ n) (hm : 0 ≤ m) : (limZ (x / m)).length ≤ n := by
  refine limZ_le (Int.ediv_nonneg hx.1 hm) ?_
  rcases (show m = 0 ∨ 0 < m by omega) with rfl | h
  · rw [Int.ediv_zero]; exact pow_pos32 n
  · have := Int.ediv_le_self m hx.1
    omega
theorem rem_len {x m : Int} {k : Nat} (hm : 0 ≤ m ∧ m < 4294967296 ^ k) : (limZ (remZ x m)).length ≤ k := by
  refine limZ_le (remZ_nonneg hm.1) ?_
  rcases (show m = 0 ∨ 0 < m by omega) with rfl | h
  · exact pow_pos32 k
  · have := remZ_lt (x := x) h
    omega

set_option maxHeartbeats 1000000 in
set_option maxRecDepth 10000 in
theorem divmod_call {w : World} {x m : Int} {a b : Option Addr} {n k ca cb : Nat} (hx : Num w x a n ca) (hm : Num w m b k cb) (hn : n ≤ 30000) (hk : k ≤ 30000) :
    Calls Try.prog 9 #[.slice a n ca, .slice b k cb] w (ResQ x m n k w) := by
  have m0 := hm.nonneg.1
  have QL := Lib.hid (quo_len hx.nonneg m0)
  have RL := Lib.hid (rem_len (x := x) hm.nonneg)
  have BC := Lib.hid (bare_call hm (by omega))
  have HX := Lib.hid hx
  clear hx hm
  go_enter Try.func9, Try.ntmps9
  go_wp2_with fail
  refine BC.out.mono ?_
  rintro e w2 ⟨b', k', c', rfl, hN, hk', hb2⟩
  have X2 := Lib.hid (HX.out.below hb2)
  have B2 := Lib.hid hb2
  obtain ⟨hkl, hrow, hkc, hnil⟩ := hN
  clear BC HX hb2
  have HK := Lib.hid hkl
  have HW := Lib.hid hrow
  obtain ⟨xs, hxr, hxv, hxc, hxn⟩ := X2.out
  have HXR := Lib.hid hxr
  have HXV := Lib.hid hxv
  have HXN := Lib.hid hxn
  have VM := limZ_val m0
  have HVM := Lib.hid VM
  clear hkl hrow hxr hxv hxc hxn VM
  by_cases h0 : k' = 0
  · have hz := limZ_nil m0 (by rw [← HK.out]; exact h0)
    subst h0
    subst hz
    clear HVM HW HK
    go_wp2_with fail
    go_ret3
    exact ⟨none, 0, 0, none, 0, 0, by simp, by rw [Int.ediv_zero]; exact norm_nil _, norm_nil _, Nat.zero_le _, Nat.zero_le _, B2.out⟩
  · have mp : 0 < m := by
      rcases (show m = 0 ∨ 0 < m by omega) with h | h
      · subst h
        have := HK.out
        rw [limZ_zero] at this
        exact absurd this h0
      · exact h
    by_cases h1 : k' = 1
    · subst h1
      obtain ⟨bb, off, rfl, hbb, hcc⟩ := HW.out.2.2 (by omega)
      have c0 := hcc 0 (by omega)
      have e1 : (limZ m)[0]?.getD 0 = m := by
        have l1 := HK.out
        have v := HVM.out
        generalize limZ m = l at *
        match l, l1 with
        | [y], _ => simp [valZ] at v; simpa using v
      have mr := (limZ_limbs m).at 0
      rw [e1, Nat.add_zero] at c0
      rw [e1] at mr
      have t0 : (((1 : Nat) : Int) == 0) = false := rfl
      have i1 : (0 : Int) < ((1 : Nat) : Int) := by omega
      have PC := Lib.hid (bylimb_any a n ca xs m w2 HXR.out (by omega) mp mr.2)
      rw [HXV.out] at PC
      clear hcc HW HVM HXV HXR HXN
      go_wp2_with fail
      refine PC.out.mono ?_
      rintro e w3 ⟨qa, ra, nq, cq, nr, cr, zs, us, rfl, hrq, hrr, vq, vr, hnq, hnr, nlq, nlr, hcq, hcr, hb3⟩
      have B3 := Below.step B2.out hb3
      have NQ : Num w3 (x / m) qa nq cq := ⟨zs, hrq, vq, hcq, nlq⟩
      have NR : Num w3 (remZ x m) ra nr cr := ⟨us, hrr, by rw [vr, remZ_pos mp], hcr, nlr⟩
      have C1 := Lib.hid (bare_call NQ (by omega))
      have H1 := Lib.hid NR
      have HB3 := Lib.hid B3
      clear hrq hrr vq vr hcq nlq hcr nlr hb3 B3 NQ NR PC X2
      go_wp2_with fail
      refine C1.out.mono ?_
      rintro e w4 ⟨q1, l1, c1, rfl, hN1, hl1, hb4⟩
      have C2 := Lib.hid (bare_call (H1.out.below hb4) (by omega))
      have HN1 := Lib.hid hN1
      have HB4 := Lib.hid hb4
      clear hN1 hb4 C1 H1
      go_wp2_with fail
      refine C2.out.mono ?_
      rintro e w5 ⟨q2, l2, c2, rfl, hN2, hl2, hb5⟩
      have HN2 := Lib.hid hN2
      have HB5 := Lib.hid hb5
      clear hN2 hb5 C2
      go_wp2_with fail
      go_ret3
      exact ⟨q1, l1, c1, q2, l2, c2, by rw [show decide (m = 0) = false from decide_eq_false (by omega)]; rfl, HN1.out.below HB5.out, HN2.out, by rw [HN1.out.1]; exact QL.out, by rw [HN2.out.1]; exact RL.out, Below.step (Below.step HB3.out HB4.out) HB5.out⟩
    · have t0 : ((k' : Int) == 0) = false := by simp; omega
      have t1 : ((k' : Int) == 1) = false := by simp; omega
      have HTOP : (limZ m)[k' - 1]?.getD 0 ≠ 0 := by
        have := limZ_last (n := m) (k := k' - 1) (by rw [← HK.out]; omega)
        exact this
      have PC := Lib.hid (divide_any a b' n ca k' c' xs (limZ m) w2 HXR.out (by omega) HXN.out HW.out (by omega) (by omega) HTOP)
      rw [HXV.out, HVM.out] at PC
      clear HTOP HW HVM HXV HXR HXN
      go_wp2_with fail
      refine PC.out.mono ?_
      rintro e w3 ⟨qa, ra, nq, cq, nr, cr, zs, us, rfl, hrq, hrr, vq, vr, hnq, hnr, nlq, nlr, hcq, hcr, hb3⟩
      have B3 := Below.step B2.out hb3
      have NQ : Num w3 (x / m) qa nq cq := ⟨zs, hrq, vq, hcq, nlq⟩
      have NR : Num w3 (remZ x m) ra nr cr := ⟨us, hrr, by rw [vr, remZ_pos mp], hcr, nlr⟩
      have C1 := Lib.hid (bare_call NQ (by omega))
      have H1 := Lib.hid NR
      have HB3 := Lib.hid B3
      clear hrq hrr vq vr hcq nlq hcr nlr hb3 B3 NQ NR PC X2
      go_wp2_with fail
      refine C1.out.mono ?_
      rintro e w4 ⟨q1, l1, c1, rfl, hN1, hl1, hb4⟩
      have C2 := Lib.hid (bare_call (H1.out.below hb4) (by omega))
      have HN1 := Lib.hid hN1
      have HB4 := Lib.hid hb4
      clear hN1 hb4 C1 H1
      go_wp2_with fail
      refine C2.out.mono ?_
      rintro e w5 ⟨q2, l2, c2, rfl, hN2, hl2, hb5⟩
      have HN2 := Lib.hid hN2
      have HB5 := Lib.hid hb5
      clear hN2 hb5 C2
      go_wp2_with fail
      go_ret3
      exact ⟨q1, l1, c1, q2, l2, c2, by rw [show decide (m = 0) = false from decide_eq_false (by omega)]; rfl, HN1.out.below HB5.out, HN2.out, by rw [HN1.out.1]; exact QL.out, by rw [HN2.out.1]; exact RL.out, Below.step (Below.step HB3.out HB4.out) HB5.out⟩

end Go.Proofs.Ythpdeaappchnpaa
