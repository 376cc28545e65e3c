/-
  The reference's Many, for stage 12 (asn).
-/
import Derived.Test.YtppdnejkbdnlcaaAnJ
namespace Go.Proofs.Ytppdnejkbdnlcaa
open Go.RowKit
set_option linter.unusedVariables false

theorem u64_in {z : Int} (h0 : 0 ≤ z) (h1 : z < 18446744073709551616) : IntKind.u64.wrap z = z := by
  have := u64_same (x := z.toNat) (by omega)
  rwa [Int.toNat_of_nonneg h0] at this

set_option maxHeartbeats 1000000 in
set_option maxRecDepth 10000 in
theorem rmany_any (a : Option Addr) (n c : Nat) (L : List (Nat × Nat)) (w : World) (hr : RgArg w a n c L) (hn : n ≤ 10000) :
    Calls Try.prog 16 #[.slice a n c] w fun e w' => e = .returned (.int .u64 (manyN L : Int)) ∧ Below w.heap.size w w' := by
  have CJ := Lib.hid (rjoinR_any a n c L w hr hn)
  have NV := Lib.hid (norm_valid (norm_join L))
  have ML : Hid (sumZ (joinZ L) ≤ 4294967296) := Lib.hid (many_le hr.under)
  have JL : Hid ((joinZ L).length ≤ 10000) := Lib.hid (by have := join_len' L; have := hr.1.1; omega)
  have ME : Hid (manyN L = sumZ (joinZ L)) := Lib.hid rfl
  rw [ME.out]
  clear hr hn ME
  generalize joinZ L = J at *
  go_enter Try.func16, Try.ntmps16
  go_wp2_with (go_at_call 10
               refine CJ.out.mono ?_
               rintro r w2 ⟨V2, rfl, ho2⟩
               obtain ⟨aJ, cJ, rfl, hr2⟩ := ho2.arg
               have RJ := Lib.hid hr2.1
               have B2 := Lib.hid ho2.2.1
               have OKJ := Lib.hid ho2.2.2
               clear ho2 hr2 CJ)
  obtain ⟨m, hm⟩ : ∃ m, J.length = m := ⟨_, rfl⟩
  have HM := Lib.hid hm
  rw [hm] at RJ JL
  rw [hm]
  clear hm
  go_loopw [4, 5] (fun sV iV wr => ∃ i : Nat, sV = .int .u64 (sumZ (J.take i) : Int) ∧ iV = .int .i64 (i : Int) ∧ i ≤ m ∧ Below w2.heap.size w2 wr) (fun _ iV _ => ((m : Int) - intOf iV).toNat)
  case atStart => exact ⟨0, rfl, rfl, Nat.zero_le _, Below.refl _ _⟩
  case round =>
    obtain ⟨i, rfl, rfl, hi, hb⟩ := hrel
    have B5 := Lib.hid hb
    clear hb
    by_cases hlt : i < m
    · have t0 : decide ((i : Int) < (m : Int)) = true := decide_eq_true (by omega)
      have t0' : decide (i < m) = true := decide_eq_true hlt
      obtain ⟨bJ, oJ, rfl, _⟩ := RJ.out.form (by omega)
      have kl : i < J.length := by rw [HM.out]; exact hlt
      have i0 : (0 : Int) ≤ (i : Int) := by omega
      have i1 : (i : Int) < (m : Int) := by omega
      have iI : IntKind.i64.wrap ((i : Int) + 1) = (i : Int) + 1 := IntWalk.i64_in _ (by have := JL.out; omega)
      have RLo := Lib.hid (fun W (h : Below w2.heap.size w2 W) => (RJ.out.below h).lo i kl)
      have RHi := Lib.hid (fun W (h : Below w2.heap.size w2 W) => (RJ.out.below h).hi i kl)
      have hv := NV.out _ (List.getElem_mem kl)
      have ok := OKJ.out _ (List.getElem_mem kl)
      have st := sum_take i kl
      have sl := sum_le (l := J) i
      have hs : sumZ (J.take i) ≤ 4294967296 := Nat.le_trans sl ML.out
      obtain ⟨ox, oy⟩ := ok
      generalize (J[i]).1 = x at *
      generalize (J[i]).2 = y at *
      generalize sumZ (J.take i) = s at *
      have ST := Lib.hid st
      have wx : IntKind.u64.wrap (x : Int) = (x : Int) := u64_same (by omega)
      have wy : IntKind.u64.wrap (y : Int) = (y : Int) := u64_same (by omega)
      have w1 : IntKind.u64.wrap ((s : Int) + (y : Int)) = (s : Int) + (y : Int) := u64_in (by omega) (by omega)
      have w2' : IntKind.u64.wrap ((s : Int) + (y : Int) - (x : Int)) = (s : Int) + (y : Int) - (x : Int) := u64_in (by omega) (by omega)
      have w3 : IntKind.u64.wrap ((s : Int) + (y : Int) - (x : Int) + 1) = ((s + (y - x + 1) : Nat) : Int) := by rw [u64_in (by omega) (by omega)]; omega
      clear st sl
      go_upto_region 6 with fail
      have B6 : Hid (Below w2.heap.size w2 wr.drew) := Lib.hid (Below.step B5.out (drewN_below wr 1))
      clear B5
      refine wp_region_ord Ext Ext.refl (fun _ _ _ => Ext.trans) ((0, false) :: (1, false) :: (2, false) :: (3, false) :: (4, false) :: (5, false) :: (6, false) :: (7, false) :: (8, false) :: (9, false) :: (10, false) :: (11, false) :: (12, false) :: (13, false) :: (14, false) :: (15, false) :: (16, false) :: []) (by kernel_rfl) (by kernel_rfl) rfl (by kernel_rfl) (fun _ _ _ _ _ h => h) ?_
      generalize wr.drew = w6 at *
      repeat (first
        | (refine ord_skip rfl (by rfl) ?_; simp only [Act.put, List.setIfInBounds_toArray, List.set_cons_zero, List.set_cons_succ])
        | (refine ord_take _ rfl (by rfl) (fun W hW => yields_u32 (.tmp 18) rfl bJ (oJ + i * 2 + 1) _ rfl (RHi.out W (B6.out.trans (hW.mono B6.out.size)))) ?_; simp only [Act.put, List.setIfInBounds_toArray, List.set_cons_zero, List.set_cons_succ])
        | (refine ord_take _ rfl (by rfl) (fun W hW => yields_u32 (.tmp 25) rfl bJ (oJ + i * 2) _ rfl (RLo.out W (B6.out.trans (hW.mono B6.out.size)))) ?_; simp only [Act.put, List.setIfInBounds_toArray, List.set_cons_zero, List.set_cons_succ])
        | (refine ord_take _ rfl (by rfl) (fun W hW => by go_simp; first | done | rfl) ?_; simp only [Act.put, List.setIfInBounds_toArray, List.set_cons_zero, List.set_cons_succ]))
      refine ord_end ?_
      go_wp2_with fail
      go_roundw
      case rel => exact ⟨i + 1, by rw [ST.out]; congr 1, by go_num, by omega, B6.out⟩
      case measure => simp only [intOf]; omega
    · have t0 : decide ((i : Int) < (m : Int)) = false := decide_eq_false (by omega)
      have t0' : decide (i < m) = false := decide_eq_false hlt
      have ET : Hid (J.take i = J) := Lib.hid (List.take_of_length_le (by rw [HM.out]; omega))
      go_wp2_with fail
      go_ret
      exact ⟨by rw [ET.out]; rfl, Below.step B2.out B5.out⟩

end Go.Proofs.Ytppdnejkbdnlcaa
