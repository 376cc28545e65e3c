/-
  The package's Has and Many, for stage 12 (asn).
-/
import Derived.Test.YtppdnejkbdnlcaaApB
namespace Go.Proofs.Ytppdnejkbdnlcaa
open Go.RowKit
set_option linter.unusedVariables false

theorem has_idx (L : List (Nat × Nat)) (q : Nat) : decide (0 ≤ idxQ (outP q) L) = hasZ L q := by
  have key : ∀ M : List (Nat × Nat), (M.takeWhile (outP q)).length = M.length ↔ hasZ M q = false := by
    intro M
    induction M with
    | nil => exact ⟨fun _ => rfl, fun _ => rfl⟩
    | cons s r ih =>
      have e : hasZ (s :: r) q = ((decide (s.1 ≤ q) && decide (q ≤ s.2)) || hasZ r q) := by unfold hasZ; rw [List.any_cons]
      rw [e]
      cases hs : (decide (s.1 ≤ q) && decide (q ≤ s.2)) with
      | true =>
        have : outP q s = false := by unfold outP; rw [hs]; rfl
        simp [List.takeWhile, this]
      | false =>
        have : outP q s = true := by unfold outP; rw [hs]; rfl
        simp only [List.takeWhile, this, List.length_cons, Bool.false_or]
        rw [← ih]
        omega
  unfold idxQ
  have k := key L
  cases hh : hasZ L q with
  | true =>
    rw [hh] at k
    rw [if_neg (by rw [k]; simp)]
    exact decide_eq_true (by omega)
  | false =>
    rw [if_pos (k.2 hh)]
    rfl

set_option maxHeartbeats 500000 in
set_option maxRecDepth 10000 in
theorem containsR_any (a : Option Addr) (n c q g : Nat) (L : List (Nat × Nat)) (w : World) (hr : RgRow w a n L) (hn : n ≤ 90000) (hc : w.cell? ⟨g, 0, none⟩ = some (.int .u32 (q : Int))) (hg : g < w.heap.size) :
    Calls Try.prog 18 #[.slice a n c, .func (.func 19) #[] #[.pointer (some ⟨g, 0, none⟩)]] w fun e w' => e = .returned (.bool (hasZ L q)) ∧ Below w.heap.size w w' := by
  have C1 := Lib.hid (indexHas_any a n c q g L w hr hn hc hg)
  have E := Lib.hid (has_idx L q)
  clear hr hc hg
  generalize idxQ (outP q) L = z at *
  generalize hasZ L q = r0 at *
  go_enter Try.func18, Try.ntmps18
  cases r0 with
  | true =>
    have t0 : decide (0 ≤ z) = true := E.out
    have z0 := of_decide_eq_true t0
    go_wp2_with (go_at_call 26; refine C1.out.mono ?_; rintro r w2 ⟨rfl, hb2⟩; have B2 := Lib.hid hb2; clear hb2)
    go_ret
    exact ⟨rfl, B2.out⟩
  | false =>
    have t0 : decide (0 ≤ z) = false := E.out
    have z0 := of_decide_eq_false t0
    go_wp2_with (go_at_call 26; refine C1.out.mono ?_; rintro r w2 ⟨rfl, hb2⟩; have B2 := Lib.hid hb2; clear hb2)
    go_ret
    exact ⟨rfl, B2.out⟩

set_option maxHeartbeats 500000 in
set_option maxRecDepth 10000 in
theorem pkHas : PkHas := by
  intro a n c q L w h hn hq
  have BX : Blk (w.alloc (.cells #[.int .u32 (q : Int)] 23)) w.heap.size 23 #[.int .u32 (q : Int)] := Blk.new _ _ _
  have C1 := Lib.hid (containsR_any a n c q w.heap.size L (w.alloc (.cells #[.int .u32 (q : Int)] 23)) (h.below (boxR_below w (.cells #[.int .u32 (q : Int)] 23))).1 (by omega) (Blk.cell BX 0) BX.lt)
  have B1 := Lib.hid (boxR_below w (.cells #[.int .u32 (q : Int)] 23))
  clear h BX
  go_enter Try.func13, Try.ntmps13
  go_wp2_with (go_at_call 18; refine C1.out.mono ?_; rintro r w2 ⟨rfl, hb2⟩; have B2 := Lib.hid (Below.step B1.out hb2); clear hb2)
  go_ret
  exact ⟨rfl, B2.out⟩

set_option maxHeartbeats 1000000 in
set_option maxRecDepth 10000 in
theorem pkMany_of (PJ : PkJoin) : PkMany := by
  intro a n0 c L0 w hr hn0
  have CJ := Lib.hid (PJ a n0 c L0 w hr hn0)
  have NV := Lib.hid (norm_valid (norm_join L0))
  have ML : Hid (sumZ (joinZ L0) ≤ 4294967296) := Lib.hid (many_le hr.under)
  have JL : Hid ((joinZ L0).length ≤ 10000) := Lib.hid (by have := join_len' L0; have := hr.1.1; omega)
  have ME : Hid (manyN L0 = sumZ (joinZ L0)) := Lib.hid rfl
  rw [ME.out]
  clear hr hn0 ME PJ
  generalize joinZ L0 = L at *
  go_enter Try.func15, Try.ntmps15
  go_wp2_with (go_at_call 9
               refine CJ.out.mono ?_
               rintro r w2 ⟨V2, rfl, ho2⟩
               obtain ⟨aJ, cJ, rfl, hr2⟩ := ho2.arg
               have RA := Lib.hid hr2.1
               have B2 := Lib.hid ho2.2.1
               have OKJ := Lib.hid ho2.2.2
               clear ho2 hr2 CJ)
  obtain ⟨n, hm⟩ : ∃ n, L.length = n := ⟨_, rfl⟩
  have HL := Lib.hid hm
  rw [hm] at RA JL
  rw [hm]
  clear hm
  have HN := JL
  go_loopw [3, 9] (fun sV iV wr => ∃ i : Nat, sV = .int .u64 (sumZ (L.take i) : Int) ∧ iV = .int .i64 (i : Int) ∧ i ≤ n ∧ Below w2.heap.size w2 wr) (fun _ iV _ => ((n : Int) - intOf iV).toNat)
  case atStart => exact ⟨0, rfl, rfl, Nat.zero_le _, Below.refl _ _⟩
  case round =>
    obtain ⟨i, rfl, rfl, hi, hb⟩ := hrel
    have B5 := Lib.hid hb
    clear hb
    by_cases hlt : i < n
    · have kl : i < L.length := by rw [HL.out]; exact hlt
      obtain ⟨b, o, rfl, _⟩ := RA.out.form (by omega)
      have t0 : decide ((i : Int) < (n : Int)) = true := decide_eq_true (by omega)
      have t0' : decide (i < n) = true := decide_eq_true hlt
      have i0 : (0 : Int) ≤ (i : Int) := by omega
      have i1 : (i : Int) < (n : Int) := by omega
      have iI : IntKind.i64.wrap ((i : Int) + 1) = (i : Int) + 1 := IntWalk.i64_in _ (by have := HN.out; omega)
      have RG := Lib.hid ((RA.out.below B5.out).range i kl)
      have hv := NV.out _ (List.getElem_mem kl)
      have ok := OKJ.out _ (List.getElem_mem kl)
      have st := sum_take i kl
      have sl := sum_le (l := L) i
      have hs : sumZ (L.take i) ≤ 4294967296 := Nat.le_trans sl ML.out
      obtain ⟨ox, oy⟩ := ok
      generalize L[i] = p at *
      generalize sumZ (L.take i) = s at *
      have ST := Lib.hid st
      clear st sl
      go_upto_region 5 with (first
        | ((with_reducible refine load_range_at 11 b (o + i * 2) p ?_ RG.out ?_); (· rfl))
        | (with_reducible refine allocR_at ?_)
        | ((with_reducible refine storeR_at 5 12 wr p ?_ ?_ ?_ ?_); (· rfl); (· rfl); (· rfl)))
      have XB := Lib.hid (rbox wr p)
      have B6 := Lib.hid (Below.step B5.out (boxR_below wr (.cells (rcells p) 33)))
      clear B5 RG
      obtain ⟨g6, hg6⟩ : ∃ g6, g6 = wr.heap.size := ⟨_, rfl⟩
      rw [← hg6] at XB
      rw [← hg6]
      clear hg6
      generalize wr.alloc (.cells (rcells p) 33) = w6 at *
      have c0 : w6.cell? ⟨g6, 0, none⟩ = some (.int .u32 (p.1 : Int)) := Blk.cell XB.out 0
      have c1 : w6.cell? ⟨g6, 1, none⟩ = some (.int .u32 (p.2 : Int)) := Blk.cell XB.out 1
      generalize p.1 = x at *
      generalize p.2 = y at *
      have w0 : IntKind.u32.wrap ((y : Int) - (x : Int)) = (y : Int) - (x : Int) := IntWalk.u32_in _ (by omega)
      have w1 : IntKind.u64.wrap ((y : Int) - (x : Int)) = (y : Int) - (x : Int) := u64_in (by omega) (by omega)
      have w2' : IntKind.u64.wrap ((y : Int) - (x : Int) + 1) = (y : Int) - (x : Int) + 1 := u64_in (by omega) (by omega)
      have w3 : IntKind.u64.wrap ((s : Int) + ((y : Int) - (x : Int) + 1)) = ((s + (y - x + 1) : Nat) : Int) := by rw [u64_in (by omega) (by omega)]; omega
      go_wp2_with fail
      go_roundw
      case rel => exact ⟨i + 1, by rw [ST.out]; congr 1, by go_num, by omega, B6.out⟩
      case measure => simp only [intOf]; omega
    · have t0 : decide ((i : Int) < (n : Int)) = false := decide_eq_false (by omega)
      have t0' : decide (i < n) = false := decide_eq_false hlt
      have ET : Hid (L.take i = L) := Lib.hid (List.take_of_length_le (by rw [HL.out]; omega))
      go_wp2_with fail
      go_ret
      exact ⟨by rw [ET.out]; rfl, Below.step B2.out B5.out⟩

end Go.Proofs.Ytppdnejkbdnlcaa
