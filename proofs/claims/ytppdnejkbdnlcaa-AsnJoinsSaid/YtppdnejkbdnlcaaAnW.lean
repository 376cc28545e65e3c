/-
  The reference's Within, for stage 12 (asn).
-/
import Derived.Test.YtppdnejkbdnlcaaAnM
namespace Go.Proofs.Ytppdnejkbdnlcaa
open Go.RowKit
set_option linter.unusedVariables false

theorem held_take (Y : List (Nat × Nat)) (p : Nat × Nat) (k : Nat) (hk : k < Y.length) : heldZ (Y.take (k + 1)) p = (heldZ (Y.take k) p || (decide ((Y[k]).1 ≤ p.1) && decide (p.2 ≤ (Y[k]).2))) := by
  rw [List.take_succ_eq_append_getElem hk]
  unfold heldZ
  rw [List.any_append]
  simp

set_option maxHeartbeats 4000000 in
set_option maxRecDepth 100000 in
theorem rwithinR_any (a b : Option Addr) (n c m d : Nat) (L M : List (Nat × Nat)) (w : World) (ha : RgArg w a n c L) (hn : n ≤ 10000) (hb : RgArg w b m d M) (hm : m ≤ 10000) :
    Calls Try.prog 12 #[.slice a n c, .slice b m d] w fun e w' => e = .returned (.bool (inN L M)) ∧ Below w.heap.size w w' := by
  have CJ := Lib.hid (rjoinR_any a n c L w ha hn)
  have CK := Lib.hid (fun W (h : RgArg W b m d M) => rjoinR_any b m d M W h hm)
  have RB := Lib.hid hb
  have XL : Hid ((joinZ L).length ≤ 10000) := Lib.hid (by have := join_len' L; have := ha.1.1; omega)
  have YL : Hid ((joinZ M).length ≤ 10000) := Lib.hid (by have := join_len' M; have := hb.1.1; omega)
  have EY : Hid ((∀ p ∈ joinZ L, heldZ (joinZ M) p = true) → inN L M = true) := Lib.hid (fun h => by unfold inN; exact List.all_eq_true.2 h)
  have EN : Hid (∀ p ∈ joinZ L, heldZ (joinZ M) p = false → inN L M = false) := Lib.hid (fun p hp h => by
    unfold inN
    rw [Bool.eq_false_iff]
    intro h2
    have := List.all_eq_true.1 h2 p hp
    rw [h] at this
    cases this)
  clear ha hb hn hm
  generalize inN L M = r0 at *
  generalize joinZ L = X at *
  generalize joinZ M = Y at *
  go_enter Try.func12, Try.ntmps12
  go_wp2_with (first
    | (go_at_call 10
       refine CJ.out.mono ?_
       rintro r w1 ⟨V1, rfl, ho1⟩
       obtain ⟨aX, cX, rfl, hr1⟩ := ho1.arg
       have RX1 := Lib.hid hr1
       have RB1 := Lib.hid (RB.out.below ho1.2.1)
       have B1 := Lib.hid ho1.2.1
       clear ho1 hr1 CJ RB)
    | (go_at_call 10
       refine (CK.out _ RB1.out).mono ?_
       rintro r w2 ⟨V2, rfl, ho2⟩
       obtain ⟨aY, cY, rfl, hr2⟩ := ho2.arg
       have RY := Lib.hid hr2.1
       have RX := Lib.hid (RX1.out.below ho2.2.1).1
       have B2 := Lib.hid (Below.step B1.out ho2.2.1)
       clear ho2 hr2 CK RX1 RB1 B1))
  obtain ⟨x, hx⟩ : ∃ x, X.length = x := ⟨_, rfl⟩
  obtain ⟨y, hy⟩ : ∃ y, Y.length = y := ⟨_, rfl⟩
  have HX := Lib.hid hx
  have HY := Lib.hid hy
  rw [hx] at RX XL
  rw [hy] at RY YL
  rw [hx, hy]
  clear hx hy
  go_loopg [7] x (fun gk iV wr => ∃ i : Nat, iV = .int .i64 (i : Int) ∧ i + gk = x ∧ (∀ p ∈ X.take i, heldZ Y p = true) ∧ Below w2.heap.size w2 wr)
  case atStart => exact ⟨0, rfl, by omega, fun p hp => by simp at hp, Below.refl _ _⟩
  case round =>
    obtain ⟨i, rfl, hi, hal, hb⟩ := hrel
    have B5 := Lib.hid hb
    have AL := Lib.hid hal
    clear hb hal
    rcases gk with _ | g
    · have t0 : decide ((i : Int) < (x : Int)) = false := decide_eq_false (by omega)
      have t0' : decide (i < x) = false := decide_eq_false (by omega)
      have e := EY.out (by have := AL.out; rwa [List.take_of_length_le (by rw [HX.out]; omega)] at this)
      subst e
      clear hi
      go_wp2_with fail
      go_ret
      exact ⟨rfl, Below.step B2.out B5.out⟩
    · have hlt : i < x := by omega
      have t0 : decide ((i : Int) < (x : Int)) = true := decide_eq_true (by omega)
      have t0' : decide (i < x) = true := decide_eq_true hlt
      obtain ⟨bX, oX, rfl, _⟩ := RX.out.form (by omega)
      have kl : i < X.length := by rw [HX.out]; exact hlt
      have i0 : (0 : Int) ≤ (i : Int) := by omega
      have i1 : (i : Int) < (x : Int) := by omega
      have iI : IntKind.i64.wrap ((i : Int) + 1) = (i : Int) + 1 := IntWalk.i64_in _ (by have := XL.out; omega)
      have XLo := Lib.hid (fun W (h : Below w2.heap.size w2 W) => (RX.out.below h).lo i kl)
      have XHi := Lib.hid (fun W (h : Below w2.heap.size w2 W) => (RX.out.below h).hi i kl)
      have HT := Lib.hid (fun k hk => held_take Y X[i] k hk)
      have AN := Lib.hid (fun h : heldZ Y X[i] = true => (show ∀ p ∈ X.take (i + 1), heldZ Y p = true from by
        intro p hp
        rw [List.take_succ_eq_append_getElem kl] at hp
        rcases List.mem_append.1 hp with hp | hp
        · exact AL.out p hp
        · rw [List.mem_singleton.1 hp]
          exact h))
      have EF := Lib.hid (EN.out X[i] (List.getElem_mem kl))
      clear AL EN EY
      generalize X[i] = p at *
      obtain ⟨px, py⟩ := p
      dsimp only at *
      go_upto_region 8 with fail
      go_loopg [8, 9] y (fun fk hV kV wx => ∃ k : Nat, hV = .bool (heldZ (Y.take k) (px, py)) ∧ kV = .int .i64 (k : Int) ∧ k + fk = y ∧ Below w2.heap.size w2 wx)
      case atStart => exact ⟨0, rfl, rfl, by omega, B5.out⟩
      case round =>
        obtain ⟨k, rfl, rfl, hk, hb⟩ := hrel
        have B7 := Lib.hid hb
        clear hb B5
        rcases gk with _ | f
        · have t1 : decide ((k : Int) < (y : Int)) = false := decide_eq_false (by omega)
          have t1' : decide (k < y) = false := decide_eq_false (by omega)
          rw [List.take_of_length_le (l := Y) (i := k) (by rw [HY.out]; omega)]
          clear hk
          generalize heldZ Y (px, py) = hd at *
          cases hd with
          | true =>
            have AO := Lib.hid (AN.out rfl)
            clear AN EF
            go_wp2_with fail
            go_roundg g
            case measure => omega
            case rel => exact ⟨i + 1, by go_num, by omega, AO.out, B7.out⟩
          | false =>
            have e := EF.out rfl
            subst e
            clear AN EF
            go_wp2_with fail
            go_ret
            exact ⟨rfl, Below.step B2.out B7.out⟩
        · have hlk : k < y := by omega
          have t1 : decide ((k : Int) < (y : Int)) = true := decide_eq_true (by omega)
          have t1' : decide (k < y) = true := decide_eq_true hlk
          obtain ⟨bY, oY, rfl, _⟩ := RY.out.form (by omega)
          have kk : k < Y.length := by rw [HY.out]; exact hlk
          have k0 : (0 : Int) ≤ (k : Int) := by omega
          have k1 : (k : Int) < (y : Int) := by omega
          have kI : IntKind.i64.wrap ((k : Int) + 1) = (k : Int) + 1 := IntWalk.i64_in _ (by have := YL.out; omega)
          have YLo := Lib.hid (fun W (h : Below w2.heap.size w2 W) => (RY.out.below h).lo k kk)
          have YHi := Lib.hid (fun W (h : Below w2.heap.size w2 W) => (RY.out.below h).hi k kk)
          have HS := Lib.hid (HT.out k kk)
          clear HT
          generalize (Y[k]).1 = qx at *
          generalize (Y[k]).2 = qy at *
          generalize heldZ (Y.take k) (px, py) = h0 at *
          go_upto_region 10 with fail
          have B9 : Hid (Below w2.heap.size w2 wr.drew) := Lib.hid (Below.step B7.out (drewN_below wr 1))
          clear B7
          refine wp_region_ord Ext Ext.refl (fun _ _ _ => Ext.trans) ((0, false) :: (1, false) :: (2, false) :: (3, false) :: (4, false) :: (5, false) :: (6, false) :: (7, false) :: (8, false) :: (9, false) :: (10, false) :: (11, false) :: (12, false) :: (13, false) :: (14, false) :: (15, false) :: (16, false) :: (17, false) :: (18, false) :: (19, false) :: (20, false) :: (21, false) :: (22, false) :: (23, false) :: (24, false) :: (25, false) :: (26, false) :: (27, false) :: []) (by kernel_rfl) (by kernel_rfl) rfl (by kernel_rfl) (fun _ _ _ _ _ h => h) ?_
          generalize wr.drew = w9 at *
          cases h0 with
          | true =>
            rw [Bool.true_or] at HS
            repeat (first
              | (refine ord_skip rfl (by rfl) ?_; simp only [Act.put, List.setIfInBounds_toArray, List.set_cons_zero, List.set_cons_succ])
              | (refine ord_take _ rfl (by rfl) (fun W hW => yields_u32 (.tmp 31) rfl bY (oY + k * 2) _ rfl (YLo.out W (B9.out.trans (hW.mono B9.out.size)))) ?_; simp only [Act.put, List.setIfInBounds_toArray, List.set_cons_zero, List.set_cons_succ])
              | (refine ord_take _ rfl (by rfl) (fun W hW => yields_u32 (.tmp 36) rfl bX (oX + i * 2) _ rfl (XLo.out W (B9.out.trans (hW.mono B9.out.size)))) ?_; simp only [Act.put, List.setIfInBounds_toArray, List.set_cons_zero, List.set_cons_succ])
              | (refine ord_take _ rfl (by rfl) (fun W hW => yields_u32 (.tmp 43) rfl bX (oX + i * 2 + 1) _ rfl (XHi.out W (B9.out.trans (hW.mono B9.out.size)))) ?_; simp only [Act.put, List.setIfInBounds_toArray, List.set_cons_zero, List.set_cons_succ])
              | (refine ord_take _ rfl (by rfl) (fun W hW => yields_u32 (.tmp 48) rfl bY (oY + k * 2 + 1) _ rfl (YHi.out W (B9.out.trans (hW.mono B9.out.size)))) ?_; simp only [Act.put, List.setIfInBounds_toArray, List.set_cons_zero, List.set_cons_succ])
              | (refine ord_take _ rfl (by rfl) (fun W hW => by go_simp; first | done | rfl) ?_; simp only [Act.put, List.setIfInBounds_toArray, List.set_cons_zero, List.set_cons_succ]))
            refine ord_end ?_
            go_wp2_with fail
            go_roundg f
            case measure => omega
            case rel => exact ⟨k + 1, by first | rw [HS.out] | (rw [HS.out]; rfl), by go_num, by omega, B9.out⟩
          | false =>
            rw [Bool.false_or] at HS
            by_cases h1 : qx ≤ px
            · have t2 : decide ((qx : Int) ≤ (px : Int)) = true := decide_eq_true (by omega)
              have t2' : decide (qx ≤ px) = true := decide_eq_true h1
              rw [t2', Bool.true_and] at HS
              by_cases h2 : py ≤ qy
              · have t3 : decide ((py : Int) ≤ (qy : Int)) = true := decide_eq_true (by omega)
                have t3' : decide (py ≤ qy) = true := decide_eq_true h2
                rw [t3'] at HS
                repeat (first
                  | (refine ord_skip rfl (by rfl) ?_; simp only [Act.put, List.setIfInBounds_toArray, List.set_cons_zero, List.set_cons_succ])
                  | (refine ord_take _ rfl (by rfl) (fun W hW => yields_u32 (.tmp 31) rfl bY (oY + k * 2) _ rfl (YLo.out W (B9.out.trans (hW.mono B9.out.size)))) ?_; simp only [Act.put, List.setIfInBounds_toArray, List.set_cons_zero, List.set_cons_succ])
                  | (refine ord_take _ rfl (by rfl) (fun W hW => yields_u32 (.tmp 36) rfl bX (oX + i * 2) _ rfl (XLo.out W (B9.out.trans (hW.mono B9.out.size)))) ?_; simp only [Act.put, List.setIfInBounds_toArray, List.set_cons_zero, List.set_cons_succ])
                  | (refine ord_take _ rfl (by rfl) (fun W hW => yields_u32 (.tmp 43) rfl bX (oX + i * 2 + 1) _ rfl (XHi.out W (B9.out.trans (hW.mono B9.out.size)))) ?_; simp only [Act.put, List.setIfInBounds_toArray, List.set_cons_zero, List.set_cons_succ])
                  | (refine ord_take _ rfl (by rfl) (fun W hW => yields_u32 (.tmp 48) rfl bY (oY + k * 2 + 1) _ rfl (YHi.out W (B9.out.trans (hW.mono B9.out.size)))) ?_; simp only [Act.put, List.setIfInBounds_toArray, List.set_cons_zero, List.set_cons_succ])
                  | (refine ord_take _ rfl (by rfl) (fun W hW => by go_simp; first | done | rfl) ?_; simp only [Act.put, List.setIfInBounds_toArray, List.set_cons_zero, List.set_cons_succ]))
                refine ord_end ?_
                go_wp2_with fail
                go_roundg f
                case measure => omega
                case rel => exact ⟨k + 1, by first | rw [HS.out] | (rw [HS.out]; rfl), by go_num, by omega, B9.out⟩
              · have t3 : decide ((py : Int) ≤ (qy : Int)) = false := decide_eq_false (by omega)
                have t3' : decide (py ≤ qy) = false := decide_eq_false h2
                rw [t3'] at HS
                repeat (first
                  | (refine ord_skip rfl (by rfl) ?_; simp only [Act.put, List.setIfInBounds_toArray, List.set_cons_zero, List.set_cons_succ])
                  | (refine ord_take _ rfl (by rfl) (fun W hW => yields_u32 (.tmp 31) rfl bY (oY + k * 2) _ rfl (YLo.out W (B9.out.trans (hW.mono B9.out.size)))) ?_; simp only [Act.put, List.setIfInBounds_toArray, List.set_cons_zero, List.set_cons_succ])
                  | (refine ord_take _ rfl (by rfl) (fun W hW => yields_u32 (.tmp 36) rfl bX (oX + i * 2) _ rfl (XLo.out W (B9.out.trans (hW.mono B9.out.size)))) ?_; simp only [Act.put, List.setIfInBounds_toArray, List.set_cons_zero, List.set_cons_succ])
                  | (refine ord_take _ rfl (by rfl) (fun W hW => yields_u32 (.tmp 43) rfl bX (oX + i * 2 + 1) _ rfl (XHi.out W (B9.out.trans (hW.mono B9.out.size)))) ?_; simp only [Act.put, List.setIfInBounds_toArray, List.set_cons_zero, List.set_cons_succ])
                  | (refine ord_take _ rfl (by rfl) (fun W hW => yields_u32 (.tmp 48) rfl bY (oY + k * 2 + 1) _ rfl (YHi.out W (B9.out.trans (hW.mono B9.out.size)))) ?_; simp only [Act.put, List.setIfInBounds_toArray, List.set_cons_zero, List.set_cons_succ])
                  | (refine ord_take _ rfl (by rfl) (fun W hW => by go_simp; first | done | rfl) ?_; simp only [Act.put, List.setIfInBounds_toArray, List.set_cons_zero, List.set_cons_succ]))
                refine ord_end ?_
                go_wp2_with fail
                go_roundg f
                case measure => omega
                case rel => exact ⟨k + 1, by first | rw [HS.out] | (rw [HS.out]; rfl), by go_num, by omega, B9.out⟩
            · have t2 : decide ((qx : Int) ≤ (px : Int)) = false := decide_eq_false (by omega)
              have t2' : decide (qx ≤ px) = false := decide_eq_false h1
              rw [t2', Bool.false_and] at HS
              repeat (first
                | (refine ord_skip rfl (by rfl) ?_; simp only [Act.put, List.setIfInBounds_toArray, List.set_cons_zero, List.set_cons_succ])
                | (refine ord_take _ rfl (by rfl) (fun W hW => yields_u32 (.tmp 31) rfl bY (oY + k * 2) _ rfl (YLo.out W (B9.out.trans (hW.mono B9.out.size)))) ?_; simp only [Act.put, List.setIfInBounds_toArray, List.set_cons_zero, List.set_cons_succ])
                | (refine ord_take _ rfl (by rfl) (fun W hW => yields_u32 (.tmp 36) rfl bX (oX + i * 2) _ rfl (XLo.out W (B9.out.trans (hW.mono B9.out.size)))) ?_; simp only [Act.put, List.setIfInBounds_toArray, List.set_cons_zero, List.set_cons_succ])
                | (refine ord_take _ rfl (by rfl) (fun W hW => yields_u32 (.tmp 43) rfl bX (oX + i * 2 + 1) _ rfl (XHi.out W (B9.out.trans (hW.mono B9.out.size)))) ?_; simp only [Act.put, List.setIfInBounds_toArray, List.set_cons_zero, List.set_cons_succ])
                | (refine ord_take _ rfl (by rfl) (fun W hW => yields_u32 (.tmp 48) rfl bY (oY + k * 2 + 1) _ rfl (YHi.out W (B9.out.trans (hW.mono B9.out.size)))) ?_; simp only [Act.put, List.setIfInBounds_toArray, List.set_cons_zero, List.set_cons_succ])
                | (refine ord_take _ rfl (by rfl) (fun W hW => by go_simp; first | done | rfl) ?_; simp only [Act.put, List.setIfInBounds_toArray, List.set_cons_zero, List.set_cons_succ]))
              refine ord_end ?_
              go_wp2_with fail
              go_roundg f
              case measure => omega
              case rel => exact ⟨k + 1, by first | rw [HS.out] | (rw [HS.out]; rfl), by go_num, by omega, B9.out⟩

end Go.Proofs.Ytppdnejkbdnlcaa
