/-
  The package's Within, for stage 12 (asn).
-/
import Derived.Test.YtppdnejkbdnlcaaApP
import Derived.Test.YtppdnejkbdnlcaaAnU
import Derived.WalkMore
namespace Go.Proofs.Ytppdnejkbdnlcaa
open Go.RowKit
set_option linter.unusedVariables false

theorem gives_form {Y : List (Nat × Nat)} {w w' : World} {e : Ending} (h : GivesRg Y w e w') : ∃ a c, e = .returned (.slice a Y.length c) ∧ RgArg w' a Y.length c Y ∧ Y.length ≤ c ∧ Below w.heap.size w w' := by
  obtain ⟨V, rfl, ho⟩ := h
  obtain ⟨a, c, hV, hr⟩ := ho.arg
  refine ⟨a, c, by rw [hV], hr, ?_, ho.2.1⟩
  rcases ho.form with ⟨e, h0⟩ | ⟨g, cap, e, _, _, hcap⟩
  · subst h0
    exact Nat.zero_le _
  · rw [hV] at e
    injection e with _ _ e3
    rw [e3]
    exact hcap

set_option maxHeartbeats 2000000 in
set_option maxRecDepth 100000 in
theorem pkWithin_of (PJ : PkJoin) : PkWithin := by
  intro a b n m c d L M w ha hn hb hm
  have CJ := Lib.hid (fun W (h : RgArg W a n c L) => PJ a n c L W h hn)
  have CK := Lib.hid (PJ b m d M w hb hm)
  have RA0 := Lib.hid ha
  have XL : Hid ((joinZ L).length ≤ 10000) := Lib.hid (by have := join_len' L; have := ha.1.1; omega)
  have YL : Hid ((joinZ M).length ≤ 10000) := Lib.hid (by have := join_len' M; have := hb.1.1; omega)
  have EY : Hid ((∀ p ∈ joinZ L, heldZ (joinZ M) p = true) → inN L M = true) := Lib.hid (fun h => by unfold inN; exact List.all_eq_true.2 h)
  have EN : Hid (∀ p ∈ joinZ L, heldZ (joinZ M) p = false → inN L M = false) := Lib.hid (fun p hp h => by
    unfold inN
    rw [Bool.eq_false_iff]
    intro h2
    have := List.all_eq_true.1 h2 p hp
    rw [h] at this
    cases this)
  have NX := Lib.hid (norm_join L)
  have NY := Lib.hid (norm_join M)
  clear ha hb hn hm PJ
  generalize inN L M = r0 at *
  generalize joinZ L = X at *
  generalize joinZ M = Y at *
  go_enter Try.func11, Try.ntmps11
  go_wp2_with fail
  go_step3
  go_wp2_with (go_at_call 9
               refine CK.out.mono ?_
               rintro r w1 h1
               obtain ⟨aY, cY, rfl, hr1, hc1, hb1⟩ := gives_form h1
               have RY1 := Lib.hid hr1
               have CY := Lib.hid hc1
               have RA1 := Lib.hid (RA0.out.below hb1)
               have B1 := Lib.hid hb1
               clear h1 hr1 hc1 hb1 CK RA0)
  go_step3
  go_wp2_with (go_at_call 9
               refine (CJ.out _ RA1.out).mono ?_
               rintro r w2 h2
               obtain ⟨aX, cX, rfl, hr2, hc2, hb2⟩ := gives_form h2
               have RX := Lib.hid hr2.1
               have RY := Lib.hid (RY1.out.below hb2).1
               have B2 := Lib.hid (Below.step B1.out hb2)
               clear h2 hr2 hc2 hb2 CJ RY1 RA1 B1)
  obtain ⟨x, hx⟩ : ∃ x, X.length = x := ⟨_, rfl⟩
  have HX := Lib.hid hx
  rw [hx] at RX XL
  rw [hx]
  clear hx
  have S0 := Lib.hid (restY_start X Y)
  go_loopg [5, 15] x (fun gk rV iV wr => ∃ (i z : Nat) (R : List (Nat × Nat)) (aR : Option Addr) (cR : Nat), rV = .slice aR z cR ∧ iV = .int .i64 (i : Int) ∧ i + gk = x ∧ RestY X Y i R ∧ (∀ p ∈ X.take i, heldZ Y p = true) ∧ RgRow w2 aR z R ∧ z ≤ cR ∧ z ≤ 10000 ∧ Below w2.heap.size w2 wr)
  case atStart => exact ⟨0, _, Y, aY, cY, rfl, rfl, by omega, S0.out, fun p hp => by simp at hp, RY.out, CY.out, YL.out, Below.refl _ _⟩
  case round =>
    obtain ⟨i, z, R, aR, cR, rfl, rfl, hi, hat, hal, hrr, hcr, hzr, hb⟩ := hrel
    have B5 := Lib.hid hb
    have AL := Lib.hid hal
    have AT := Lib.hid hat
    have RR := Lib.hid hrr
    have HR := Lib.hid hrr.1
    have CR := Lib.hid hcr
    have ZR := Lib.hid hzr
    clear hb hal hat hrr S0 RY CY YL
    rcases gk with _ | g
    · have t0 : decide ((i : Int) < (x : Int)) = false := decide_eq_false (by omega)
      have t0' : decide (i < x) = false := decide_eq_false (by omega)
      have e := EY.out (by have := AL.out; rwa [List.take_of_length_le (by rw [HX.out]; omega)] at this)
      subst e
      clear hi
      go_wp2_with fail
      go_ret
      exact ⟨rfl, Below.step B2.out B5.out⟩
    · have hlt : i < x := by omega
      have t0 : decide ((i : Int) < (x : Int)) = true := decide_eq_true (by omega)
      have t0' : decide (i < x) = true := decide_eq_true hlt
      obtain ⟨bX, oX, rfl, _⟩ := RX.out.form (by omega)
      have kl : i < X.length := by rw [HX.out]; exact hlt
      have i0 : (0 : Int) ≤ (i : Int) := by omega
      have i1 : (i : Int) < (x : Int) := by omega
      have iI : IntKind.i64.wrap ((i : Int) + 1) = (i : Int) + 1 := IntWalk.i64_in _ (by have := XL.out; omega)
      have RG := Lib.hid ((RX.out.below B5.out).range i kl)
      have HT := Lib.hid (fun k hk => held_take R X[i] k hk)
      have ST := Lib.hid (fun k hk h1 h2 => restY_step (k := k) NX.out NY.out AT.out kl hk h1 h2)
      have AN := Lib.hid (fun h : heldZ Y X[i] = true => (show ∀ p ∈ X.take (i + 1), heldZ Y p = true from by
        intro p hp
        rw [List.take_succ_eq_append_getElem kl] at hp
        rcases List.mem_append.1 hp with hp | hp
        · exact AL.out p hp
        · rw [List.mem_singleton.1 hp]
          exact h))
      have EF := Lib.hid (fun (h : heldZ R X[i] = false) => EN.out X[i] (List.getElem_mem kl) (restY_none AT.out kl h))
      have H0 : Hid (heldZ (R.take 0) X[i] = false) := Lib.hid rfl
      clear AL EN EY AT
      generalize X[i] = p at *
      go_upto_region 5 with (first
        | ((with_reducible refine load_range_at 17 bX (oX + i * 2) p ?_ RG.out ?_); (· rfl))
        | (with_reducible refine allocR_at ?_)
        | ((with_reducible refine storeR_at 7 18 wr p ?_ ?_ ?_ ?_); (· rfl); (· rfl); (· rfl)))
      have XB := Lib.hid (rbox wr p)
      have B6 := Lib.hid (Below.step B5.out (boxR_below wr (.cells (rcells p) 33)))
      clear B5 RG
      obtain ⟨g7, hg7⟩ : ∃ g7, g7 = wr.heap.size := ⟨_, rfl⟩
      rw [← hg7] at XB
      rw [← hg7]
      clear hg7
      generalize wr.alloc (.cells (rcells p) 33) = w6 at *
      go_upto_region 6 with fail
      go_loopg [5, 21] z (fun fk qV kV wx => ∃ k : Nat, qV = .slice aR z cR ∧ kV = .int .i64 (k : Int) ∧ k + fk = z ∧ heldZ (R.take k) p = false ∧ Blk wx g7 33 (rcells p) ∧ Below w2.heap.size w2 wx)
      case atStart => exact ⟨0, rfl, rfl, by omega, H0.out, XB.out, B6.out⟩
      case round =>
        obtain ⟨k, rfl, rfl, hk, hf, hx7, hb⟩ := hrel
        have B7 := Lib.hid hb
        have X7 := Lib.hid hx7
        have F7 := Lib.hid hf
        clear hb hx7 hf B6 XB H0
        rcases gk with _ | f
        · have t1 : decide ((k : Int) < (z : Int)) = false := decide_eq_false (by omega)
          have t1' : decide (k < z) = false := decide_eq_false (by omega)
          have e := EF.out (by have := F7.out; rwa [List.take_of_length_le (l := R) (i := k) (by rw [HR.out]; omega)] at this)
          subst e
          clear hk AN EF ST HT
          go_wp2_with fail
          rw [Exit.noGoto_ret]
          go_ret
          exact ⟨rfl, Below.step B2.out B7.out⟩
        · have hlk : k < z := by omega
          have t1 : decide ((k : Int) < (z : Int)) = true := decide_eq_true (by omega)
          have t1' : decide (k < z) = true := decide_eq_true hlk
          obtain ⟨bY, oY, rfl, _⟩ := RR.out.form (by omega)
          have kk : k < R.length := by rw [HR.out]; exact hlk
          have k0 : (0 : Int) ≤ (k : Int) := by omega
          have k1 : (k : Int) < (z : Int) := by omega
          have k2 : (k : Int) ≤ (z : Int) := by omega
          have k3 : (k : Int) ≤ (cR : Int) := by omega
          have k4 : (z : Int) ≤ (cR : Int) := by omega
          have kI : IntKind.i64.wrap ((k : Int) + 1) = (k : Int) + 1 := IntWalk.i64_in _ (by have := ZR.out; omega)
          have RG := Lib.hid ((RR.out.below B7.out).range k kk)
          have RD := Lib.hid (RR.out.rest k (by omega))
          have HS := Lib.hid (HT.out k kk)
          have SN := Lib.hid (ST.out k kk)
          clear HT ST
          generalize R[k] = q at *
          go_upto_region 8 with (first
            | ((with_reducible refine load_range_at 24 bY (oY + k * 2) q ?_ RG.out ?_); (· rfl))
            | (with_reducible refine allocR_at ?_)
            | ((with_reducible refine storeR_at 9 25 wr q ?_ ?_ ?_ ?_); (· rfl); (· rfl); (· rfl)))
          have YB := Lib.hid (rbox wr q)
          have X8 := Lib.hid (X7.out.alloc (.cells (rcells q) 33))
          have B8 := Lib.hid (Below.step B7.out (boxR_below wr (.cells (rcells q) 33)))
          clear B7 X7 RG
          obtain ⟨g9, hg9⟩ : ∃ g9, g9 = wr.heap.size := ⟨_, rfl⟩
          rw [← hg9] at YB
          rw [← hg9]
          clear hg9
          generalize wr.alloc (.cells (rcells q) 33) = w8 at *
          have c0 : w8.cell? ⟨g7, 0, none⟩ = some (.int .u32 (p.1 : Int)) := Blk.cell X8.out 0
          have c1 : w8.cell? ⟨g7, 1, none⟩ = some (.int .u32 (p.2 : Int)) := Blk.cell X8.out 1
          have d0 : w8.cell? ⟨g9, 0, none⟩ = some (.int .u32 (q.1 : Int)) := Blk.cell YB.out 0
          have d1 : w8.cell? ⟨g9, 1, none⟩ = some (.int .u32 (q.2 : Int)) := Blk.cell YB.out 1
          rw [F7.out, Bool.false_or] at HS
          by_cases h1 : q.1 ≤ p.1
          · have t2 : decide ((q.1 : Int) ≤ (p.1 : Int)) = true := decide_eq_true (by omega)
            have t2' : decide (q.1 ≤ p.1) = true := decide_eq_true h1
            rw [t2', Bool.true_and] at HS
            by_cases h2 : p.2 ≤ q.2
            · have t3 : decide ((p.2 : Int) ≤ (q.2 : Int)) = true := decide_eq_true (by omega)
              have t3' : decide (p.2 ≤ q.2) = true := decide_eq_true h2
              obtain ⟨sn1, sn2⟩ := SN.out h1 h2
              have AO := Lib.hid (AN.out sn2)
              have AS := Lib.hid sn1
              have ZS : Hid (z - k ≤ cR - k ∧ z - k ≤ 10000) := Lib.hid (by have := ZR.out; omega)
              clear HS AN EF SN sn1 sn2
              go_wp2_with fail
              go_roundg g
              case measure => omega
              case rel => exact ⟨i + 1, z - k, R.drop k, _, _, rfl, by go_num, by omega, AS.out, AO.out, RD.out, ZS.out.1, ZS.out.2, B8.out⟩
            · have t3 : decide ((p.2 : Int) ≤ (q.2 : Int)) = false := decide_eq_false (by omega)
              have t3' : decide (p.2 ≤ q.2) = false := decide_eq_false h2
              rw [t3'] at HS
              clear AN EF SN
              go_wp2_with fail
              go_roundg f
              case measure => omega
              case rel => exact ⟨k + 1, rfl, by go_num, by omega, HS.out, X8.out, B8.out⟩
          · have t2 : decide ((q.1 : Int) ≤ (p.1 : Int)) = false := decide_eq_false (by omega)
            have t2' : decide (q.1 ≤ p.1) = false := decide_eq_false h1
            rw [t2', Bool.false_and] at HS
            clear AN EF SN
            go_wp2_with fail
            go_roundg f
            case measure => omega
            case rel => exact ⟨k + 1, rfl, by go_num, by omega, HS.out, X8.out, B8.out⟩

end Go.Proofs.Ytppdnejkbdnlcaa
