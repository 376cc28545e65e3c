/-
  What the package's divide answers, for stage 8 (modulo).
-/
import Derived.Test.YthpdeaappchnpaaMdH
import Derived.ArgAppend
namespace Go.Proofs.Ythpdeaappchnpaa
open Go.RowKit
set_option linter.unusedVariables false

theorem Out32.lt {W0 w : World} {g n cap : Nat} {L : List Int} (h : Out32 W0 w (.slice (some ⟨g, 0, none⟩) n cap) L) : g < w.heap.size := by
  rcases h.1.2 with ⟨e, _⟩ | ⟨b, cap, cur, e, h1, h2, h3⟩
  · cases e
  · injection e with e1 e2 e3
    injection e1 with e1
    injection e1 with e1
    subst e1
    exact (Array.getElem?_eq_some_iff.1 h2).1
/-- Limbs are appended to a row that is full: a new row. -/
theorem full_append32 {ops : Array Oper} {rest : List Oper} {o : Oper} {a : Act} {Q : Exit → Act → World → Prop} {w : World} {zs ns : List Int} {A : Option Addr} {ad : Addr} {n m c : Nat} (hgd : o.guard = none) (s x : Operand)
    (hop : o.op = .call { callee := .builtin .append, args := #[s, x], argTypes := #[22, 22] }) (hs : a.eval s = .slice A n n) (hr : Row32 w A n zs) (hx : a.eval x = .slice (some ad) m c) (hrx : Row32 w (some ad) m ns) (hm : 1 ≤ m) (hl : n + m ≤ 1000000)
    (h : ∀ g cap w', w.heap.size ≤ g → Out32 w w' (.slice (some ⟨g, 0, none⟩) (n + m) cap) (zs ++ ns) → wpList Try.prog ops Q rest (a.put o.dst (.slice (some ⟨g, 0, none⟩) (n + m) cap)) w') : wpList Try.prog ops Q (o :: rest) a w := by
  obtain ⟨i0, hi5, hz0, hz1, hz2⟩ := info_parts Try.info32
  refine wpList_append_grows w hgd s x 22 hop 35 i0 (.int .u32 0) 1 4 Try.underlying22 hi5 hz0 hz1 hz2 rfl (by decide) A n n (zs.map (Value.int .u32)) hs (fun e => by subst e; have := (row32_none hr).1; omega) (by rw [List.length_map, hr.1, Nat.mul_one]) (fun b hb => by subst hb; exact hr.cells) ad m c (ns.map (Value.int .u32)) hx (by rw [List.length_map, hrx.1, Nat.mul_one]) hrx.cells ?_ (by omega) (by unfold maxLen; omega) (by omega) ?_
  · intro u hu
    obtain ⟨_, _, rfl⟩ := List.mem_map.1 hu
    rfl
  · intro V' w' hown hg
    have ho : Out32 w w' V' (zs ++ ns) := by
      refine ⟨?_, (Below.refl _ _).grown hg (Nat.le_refl _) (fun k hk => by cases hk)⟩
      rw [List.length_append, hr.1, hrx.1, List.map_append]
      exact hown
    have hlen : (zs ++ ns).length = n + m := by rw [List.length_append, hr.1, hrx.1]
    obtain ⟨g, cap, rfl, hgg⟩ := ho.form (by omega)
    rw [hlen] at ho ⊢
    exact h g cap w' hgg ho

theorem top_le {ys : List Int} {k : Nat} (hy : Limbs ys) (hl : ys.length = k) (hk : 1 ≤ k) (ht : ys[k - 1]?.getD 0 ≠ 0) : 4294967296 ^ (k - 1) ≤ valZ ys := by
  obtain ⟨j, rfl⟩ : ∃ j, k = j + 1 := ⟨k - 1, by omega⟩
  rw [show j + 1 - 1 = j by omega] at ht ⊢
  have e := valZ_parts ys j
  rw [valZ_drop ys j, show ys.drop (j + 1) = [] from List.drop_of_length_le (by omega), valZ, Int.mul_zero, Int.add_zero] at e
  have t := take_lt hy j
  have r := hy.at j
  have p := pow_pos32 j
  have := Int.mul_le_mul_of_nonneg_left (show (1 : Int) ≤ ys[j]?.getD 0 by omega) (Int.le_of_lt p)
  rw [Int.mul_one] at this
  omega

/-- A quotient and what is left, in two rows. -/
def Parted (q r : Int) (N : Nat) (w : World) (e : Ending) (w' : World) : Prop :=
  ∃ (a b : Option Addr) (n c k d : Nat) (zs us : List Int), e = .returned (.tuple #[.slice a n c, .slice b k d]) ∧ Row32 w' a n zs ∧ Row32 w' b k us ∧ valZ zs = q ∧ valZ us = r ∧ n ≤ N ∧ k ≤ N ∧ (a = none → c = 0) ∧ (b = none → d = 0) ∧ n ≤ c ∧ k ≤ d ∧ Below w.heap.size w w'

set_option maxHeartbeats 1000000 in
set_option maxRecDepth 10000 in
theorem divide_any (a b : Option Addr) (n ca k cb : Nat) (xs ys : List Int) (w : World) (hr : Row32 w a n xs) (hn : n ≤ 40000) (hnil : a = none → ca = 0) (hs : Row32 w b k ys) (h2 : 2 ≤ k) (hk : k ≤ 40000) (htop : ys[k - 1]?.getD 0 ≠ 0) :
    Calls Try.prog 22 #[.slice a n ca, .slice b k cb] w (Parted (valZ xs / valZ ys) (valZ xs % valZ ys) (n + 1) w) := by
  obtain ⟨i0, hi, hz0, hz1, hz2⟩ := info_parts Try.info32
  have LX := row32_limbs hr
  have LY := row32_limbs hs
  have BO := Lib.hid (bare_own a n ca xs w hr (by omega) hnil)
  have HS := Lib.hid hs
  have TP := Lib.hid htop
  have hNn : (limZ (valZ xs)).length ≤ n := by have := (norm_take LX).1; have := hr.1; omega
  have M1 := Lib.hid (top_le LY hs.1 (by omega) htop)
  have M2 : Hid (valZ ys < 4294967296 ^ k) := Lib.hid (by have := valZ_lt LY; rwa [hs.1] at this)
  have M0 : Hid (0 < valZ ys) := Lib.hid (by have := top_le LY hs.1 (by omega) htop; have := pow_pos32 (k - 1); omega)
  have NV : Hid (valZ (limZ (valZ xs)) = valZ xs) := Lib.hid (limZ_val (valZ_nonneg LX))
  have NL := Lib.hid (limZ_limbs (valZ xs))
  have NT := Lib.hid (norm_take LX)
  have HLX := Lib.hid LX
  obtain ⟨N, hN⟩ : ∃ N, (limZ (valZ xs)).length = N := ⟨_, rfl⟩
  rw [hN] at BO hNn NT
  have HN := Lib.hid hN
  clear hr hs htop LX LY hN
  obtain ⟨q, hq⟩ : ∃ q : Nat, (q : Int) = max ((N : Int) + 1 - k) 0 := ⟨(N + 1 - k : Nat), by omega⟩
  obtain ⟨D, hD⟩ : ∃ D : Int, (N : Int) + 1 - k = D := ⟨_, rfl⟩
  have hmax : max D 0 = (q : Int) := by omega
  have w1 : IntKind.i64.wrap ((N : Int) + 1 - k) = D := by rw [hD]; exact IntWalk.i64_in _ (by omega)
  have w2 : IntKind.i64.wrap ((q : Int) - 1) = (q : Int) - 1 := IntWalk.i64_in _ (by omega)
  have HQ := Lib.hid hq
  have HD := Lib.hid hD
  have qN : q ≤ n + 1 := by omega
  clear hq hD
  go_enter Try.func22, Try.ntmps22
  go_wp2_with fail
  refine BO.out.mono ?_
  rintro e w2 ⟨a', c, rfl, ho⟩
  have hnm := ho.normed HLX.out
  have R2 := Lib.hid (hnm.1.norm)
  rw [HN.out] at R2
  have B2 := Lib.hid ho.2
  clear ho hnm BO
  have Z3 : Hid (Row32 (w2.alloc (.cells #[.int .u32 0] 35)) (some ⟨w2.heap.size, 0, none⟩) 1 [0]) := Lib.hid (row32_const w2 [0] (by intro x hx; simp at hx; omega))
  have R3 : Hid (Row32 (w2.alloc (.cells #[.int .u32 0] 35)) a' N (limZ (valZ xs))) := Lib.hid (R2.out.below ((Below.refl _ _).alloc (Nat.le_refl _) _))
  have B3 : Hid (Below w.heap.size w (w2.alloc (.cells #[.int .u32 0] 35))) := Lib.hid (Below.step B2.out ((Below.refl _ _).alloc (Nat.le_refl _) _))
  have hN1 : N + 1 ≤ 1000000 := by omega
  have HZ := Lib.hid hz2
  clear hz2
  go_wp2_with (first
    | (at_builtin; go_must (refine full_append32 rfl _ _ rfl rfl R3.out rfl Z3.out (by decide) hN1 ?_; intro g cap w4 hg4 ho4; have O4 := Lib.hid (ho4.wider B3.out); have G4 := Lib.hid hg4; clear ho4 hg4))
    | (at_make; refine wpList_make_full _ rfl _ _ 22 rfl w4.heap.size 35 i0 (.int .u32 0) 1 Try.underlying22 hi hz0 hz1 _ _ _ _ q rfl rfl ?b0 ?b00 ?b1 ?b2 ?b3 ?_))
  case b0 => first | rfl | omega
  case b00 => first | rfl | omega
  case b1 => rw [HZ.out]; omega
  case b2 => unfold maxLen; omega
  case b3 => exact Nat.le_refl _
  intro w5 hown0 hgrow
  have hgw : w.heap.size ≤ g := Nat.le_trans (Nat.le_trans B2.out.size (by simp)) G4.out
  have hgq := O4.out.lt
  have O5 := Lib.hid (O4.out.below (out_made32 hown0 hgrow).2)
  have Q5 := Lib.hid ((out_made32 hown0 hgrow).wider O4.out.2)
  clear hown0 hgrow HZ hz1 hz0 hi R2 R3 Z3 B3 G4
  have hwq : w.heap.size ≤ w4.heap.size := O4.out.2.size
  clear O4
  generalize w4.heap.size = gq at *
  have hne : gq ≠ g := by omega
  have LN1 : Hid ((limZ (valZ xs) ++ [0]).length = N + 1) := Lib.hid (by rw [List.length_append, HN.out]; rfl)
  have VN1 : Hid (valZ (limZ (valZ xs) ++ [0]) = valZ xs) := Lib.hid (by rw [valZ_append, NV.out]; simp [valZ])
  have LL1 : Hid (Limbs (limZ (valZ xs) ++ [0])) := Lib.hid (limbs_snoc NL.out (by omega) (by omega))
  have TOP : Hid (valZ ((limZ (valZ xs) ++ [0]).drop q) < valZ ys) := Lib.hid (div_top LL1.out LN1.out (by rw [List.getElem?_append_right (by rw [HN.out]; omega), HN.out]; simp) HQ.out (by omega) M1.out)
  go_wp2_with fail
  go_loopw [6] (fun iV wr => ∃ (i : Nat) (L Q : List Int), iV = .int .i64 ((i : Int) - 1) ∧ i ≤ q ∧ Out32 w wr (.slice (some ⟨g, 0, none⟩) (N + 1) cap) L ∧ Limbs L ∧ L.length = N + 1 ∧ Out32 w wr (.slice (some ⟨gq, 0, none⟩) q q) Q ∧ Limbs Q ∧ Q.length = q ∧ (∀ j, j < i → Q[j]?.getD 0 = 0) ∧ valZ xs = valZ L + valZ ys * valZ Q ∧ valZ (L.drop i) < valZ ys) (fun iV _ => (intOf iV + 1).toNat)
  case atStart => exact ⟨q, _, _, rfl, Nat.le_refl _, O5.out, LL1.out, LN1.out, Q5.out, limbs_zeros _, by simp, fun j _ => by rw [List.getElem?_replicate]; split <;> rfl, by rw [valZ_zeros, VN1.out]; omega, TOP.out⟩
  case round =>
    obtain ⟨i, L, Q, rfl, hi, ho, hL, hlen, hoq, hLQ, hlq, hzq, hval, hlt⟩ := hrel
    have HO := Lib.hid ho
    have HL := Lib.hid hL
    have HLN := Lib.hid hlen
    have HOQ := Lib.hid hoq
    have HLQ := Lib.hid hLQ
    have HQN := Lib.hid hlq
    have HZQ := Lib.hid hzq
    have HV := Lib.hid hval
    have HLT := Lib.hid hlt
    clear ho hL hlen hoq hLQ hlq hzq hval hlt O5 Q5 TOP
    rcases Nat.eq_zero_or_pos i with h0 | h0
    · subst h0
      rw [show ((0 : Nat) : Int) - 1 = -1 by rfl]
      have t0 : decide ((0 : Int) ≤ -1) = false := by decide
      have E := Lib.hid (div_end HL.out HV.out M0.out HLT.out)
      have RQ := Lib.hid (HOQ.out.normed HLQ.out)
      have RR := Lib.hid (HO.out.normed HL.out)
      go_wp2_with fail
      go_ret2
      exact ⟨_, _, _, _, _, _, _, _, rfl, RQ.out.1, RR.out.1, E.out.1, E.out.2, qN, by omega, RQ.out.2.2, RR.out.2.2, RQ.out.2.1, RR.out.2.1, HO.out.2⟩
    · obtain ⟨j, rfl⟩ : ∃ j, i = j + 1 := ⟨i - 1, by omega⟩
      rw [show ((j + 1 : Nat) : Int) - 1 = (j : Int) by omega]
      have t0 : decide ((0 : Int) ≤ (j : Int)) = true := decide_eq_true (by omega)
      have DS := div_step HL.out HLT.out M2.out
      have hcap := own_cap32 HO.out.1
      have hNk : j + k + 1 ≤ N + 1 := by have := HQ.out; omega
      have DC := Lib.hid (digit_any w wr g (N + 1) cap j k (cap - j) cb b L ys HO.out HLN.out hgw HL.out hNk (by omega) HS.out h2 TP.out DS.2.1 DS.2.2)
      have PQ : 0 ≤ valZ (L.drop j) / valZ ys ∧ valZ (L.drop j) / valZ ys ≤ 4294967295 := by
        have a1 : 0 ≤ valZ (L.drop j) / valZ ys := Int.ediv_nonneg DS.1 (Int.le_of_lt M0.out)
        have a2 : valZ (L.drop j) / valZ ys < 4294967296 := Int.ediv_lt_of_lt_mul M0.out (by rw [Int.mul_comm]; exact DS.2.1)
        exact ⟨a1, by omega⟩
      have RMD : valZ (L.drop j) % valZ ys < valZ ys := Int.emod_lt_of_pos _ M0.out
      have RD := Lib.hid (fun (L' : List Int) (ht : L'.take j = L.take j) h' => div_round (Q := Q) ht rfl (HZQ.out j (by omega)) (by rw [HQN.out]; omega) HV.out h')
      generalize valZ (L.drop j) / valZ ys = d at *
      generalize valZ (L.drop j) % valZ ys = rm at *
      have i1 : IntKind.i64.wrap ((j : Int) + (k : Int)) = (j : Int) + (k : Int) := IntWalk.i64_in _ (by omega)
      have i2 : IntKind.i64.wrap ((j : Int) + (k : Int) + 1) = (j : Int) + (k : Int) + 1 := IntWalk.i64_in _ (by omega)
      have i3 : IntKind.i64.wrap ((j : Int) - 1) = (j : Int) - 1 := IntWalk.i64_in _ (by omega)
      have i4 : (j : Int) ≤ (j : Int) + (k : Int) + 1 := by omega
      have i5 : (j : Int) + (k : Int) + 1 ≤ (cap : Int) := by omega
      have i6 : 0 ≤ (j : Int) + (k : Int) + 1 := by omega
      have i7 : ((j : Int) + (k : Int) + 1).toNat = j + k + 1 := by omega
      have i8 : j + k + 1 - j = k + 1 := by omega
      have i9 : ¬ cap = j := by omega
      have iq : (j : Int) < (q : Int) := by omega
      clear DS
      go_wp2_with fail
      refine DC.out.mono ?_
      rintro e w6 ⟨L', rfl, ho6, hA6, hv6, hon6⟩
      have OQ6 := HOQ.out.only hon6 hne ho6.2
      obtain ⟨cx, fx⟩ := OQ6.cell j (by rw [HQN.out]; omega)
      have V6 := Lib.hid (RD.out L' hA6.2.2.1 hv6)
      have S6 : Hid (valZ (L'.drop j) < valZ ys) := Lib.hid (by rw [hv6]; exact RMD)
      have L6 := Lib.hid hA6.2.1
      have N6 : Hid (L'.length = N + 1) := Lib.hid (hA6.1.trans HLN.out)
      have O7 := Lib.hid (ho6.only (Only.set (.refl gq w6) j (.int .u32 d)) hne.symm (ho6.2.setCell (p := ⟨gq, j, none⟩) hwq _))
      have Q7 := Lib.hid (OQ6.set hwq j d)
      clear OQ6 ho6 hA6 hv6 hon6 RD DC HO HOQ HV HLT
      go_wp2_with fail
      go_roundw
      case rel => exact ⟨j, L', _, rfl, by omega, O7.out, L6.out, N6.out, Q7.out, limbs_set HLQ.out j PQ.1 PQ.2, by rw [List.length_set]; exact HQN.out, fun m hm => by rw [List.getElem?_set_ne (by omega)]; exact HZQ.out m (by omega), V6.out, S6.out⟩
      case measure => simp only [intOf]; omega

end Go.Proofs.Ythpdeaappchnpaa
