/-
  The package's Join, for stage 12 (asn).
-/
import Derived.Test.YtppdnejkbdnlcaaApC
import Derived.Deep.CutRange
import Derived.ScopeJumps
import Derived.WalkMore
namespace Go.Proofs.Ytppdnejkbdnlcaa
open Go.RowKit
set_option linter.unusedVariables false

/-- All blocks but one are as they were. -/
def OffR (g : Nat) (a b : World) : Prop := a.heap.size ≤ b.heap.size ∧ ∀ k, k ≠ g → k < a.heap.size → b.heap[k]? = a.heap[k]?
theorem OffR.refl (g : Nat) (w : World) : OffR g w w := ⟨Nat.le_refl _, fun _ _ _ => rfl⟩
theorem OffR.trans {g : Nat} (a b c : World) (h : OffR g a b) (k : OffR g b c) : OffR g a c := ⟨Nat.le_trans h.1 k.1, fun i hi hl => (k.2 i hi (Nat.lt_of_lt_of_le hl h.1)).trans (h.2 i hi hl)⟩
theorem OffR.set (g o : Nat) (w : World) (v : Value) : OffR g w (w.setCell ⟨g, o, none⟩ v) := ⟨(Below.setCell (Below.refl g w) (p := ⟨g, o, none⟩) (Nat.le_refl _) v).size, fun k hk _ => heap_setCell_other w ⟨g, o, none⟩ k v hk⟩
theorem OffR.cell {g k o : Nat} {w W : World} (h : OffR g w W) (hk : k ≠ g) (hl : k < w.heap.size) : W.cell? ⟨k, o, none⟩ = w.cell? ⟨k, o, none⟩ := World.cell?_of_block (a := ⟨k, o, none⟩) (h.2 k hk hl)
theorem opR_load {o : Oper} {a : Act} {w : World} {K : Act → World → Prop} {Q : Exit → Act → World → Prop} (x : Operand) (ho : o.op = .load 23 x) (g off : Nat) (v : Value) (hx : a.eval x = .pointer (some ⟨g, off, none⟩)) (hc : w.cell? ⟨g, off, none⟩ = some v) (hK : K (a.put o.dst v) w) : o.wp Try.prog a w K Q := by
  unfold Oper.wp
  rw [yields_u32 x ho g off v hx hc]
  exact hK

theorem join_filter (L : List (Nat × Nat)) : joinZ (L.filter validP) = joinZ L := norm_one (norm_join _) (norm_join _) (fun x => by rw [in_join, in_join, in_filter])
/-- Behind the last number nothing is joined that is not there already. -/
theorem merge_top {c : Nat × Nat} : ∀ {r : List (Nat × Nat)}, (∀ p ∈ r, p.2 ≤ c.2 ∧ p.1 ≤ c.2 + 1) → mergeZ c r = [c]
  | [], _ => rfl
  | p :: r, h => by
    obtain ⟨h1, h2⟩ := h p (by simp)
    unfold mergeZ
    rw [if_pos h2, Nat.max_eq_left h1]
    exact merge_top (fun q hq => h q (by simp [hq]))
theorem run_top {S T O : List (Nat × Nat)} {k e : Nat} (h : RunAt S T k O) (ho : Under 4294967296 S) (he : O.length = e + 1) (ht : (O[e]'(by omega)).2 = 4294967295) : O = T := by
  rcases h with ⟨rfl, _⟩ | ⟨D, c, rfl, hj⟩
  · simp at he
  have hD : D.length = e := by simpa using he
  subst hD
  have ec : (D ++ [c])[D.length]'(by simp) = c := by simp
  rw [ec] at ht
  rw [merge_top (fun p hp => by
    obtain ⟨_, u⟩ := ho p (List.mem_of_mem_drop (List.mem_filter.1 hp).1)
    have v : p.1 ≤ p.2 := of_decide_eq_true (List.mem_filter.1 hp).2
    omega)] at hj
  exact hj

set_option maxHeartbeats 2000000 in
set_option maxRecDepth 100000 in
theorem pkJoin_of (PS : PkSorted) : PkJoin := by
  intro a n c L w hr hn
  have C1 : Hid (Calls Try.prog 17 #[.slice a n c] w (GivesSortedR L w)) := Lib.hid (PS a n c L w hr (by omega))
  have ME : Hid (∀ S : List (Nat × Nat), S.Perm (L.filter validP) → S.Pairwise (fun a b => a.1 ≤ b.1) → mergeAllZ (S.filter validP) = joinZ L) := Lib.hid (fun S hp hs => (merge_all hp hs).trans (join_filter L))
  have HV : Hid (∀ S : List (Nat × Nat), S.Perm (L.filter validP) → ∀ p ∈ S, p.1 ≤ p.2) := Lib.hid (fun S hp p hm => of_decide_eq_true (List.mem_filter.1 (hp.mem_iff.1 hm)).2)
  have HF : Hid (∀ S : List (Nat × Nat), S.Perm (L.filter validP) → S.length ≤ 10000) := Lib.hid (fun S hp => by
    rw [hp.length_eq]
    have := List.length_filter_le validP L
    have := hr.1.1
    omega)
  clear hr hn PS
  generalize joinZ L = J at *
  go_enter Try.func9, Try.ntmps9
  go_wp2_with fail
  go_step3
  go_wp2_with fail
  go_step3
  go_wp2_with (go_at_call 17
               refine C1.out.mono ?_
               rintro r w2 ⟨V2, S, rfl, ho2, hp2, hs2⟩
               have SL := Lib.hid (HF.out S hp2)
               have MJ := Lib.hid (ME.out S hp2 hs2)
               have VS := Lib.hid (HV.out S hp2)
               obtain ⟨aS, cS, hV, hrow⟩ := ho2.arg
               have RS := Lib.hid hrow.1
               have US := Lib.hid hrow.under
               have B2 := Lib.hid ho2.2.1
               subst hV
               clear ho2 hp2 hs2 hrow C1 ME HV HF)
  have R0 := Lib.hid (run_start S)
  rw [MJ.out] at R0
  clear MJ
  obtain ⟨m, hm⟩ : ∃ m, S.length = m := ⟨_, rfl⟩
  have HM := Lib.hid hm
  rw [hm] at RS SL
  rw [hm]
  clear hm
  go_loopw [3, 10] (fun oV kV wr => ∃ (k : Nat) (O : List (Nat × Nat)), kV = .int .i64 (k : Int) ∧ k ≤ m ∧ O.length ≤ k ∧ RunAt S J k O ∧ RgOut w2 wr oV O) (fun _ kV _ => ((m : Int) - intOf kV).toNat)
  case atStart => exact ⟨0, [], rfl, Nat.zero_le _, Nat.le_refl _, R0.out, RgOut.start w2⟩
  case round =>
    obtain ⟨k, O, rfl, hk, hok, hat, ho⟩ := hrel
    have M5 := Lib.hid hat
    have O5 := Lib.hid ho
    clear hat ho R0
    by_cases hlt : k < m
    · have t0 : decide ((k : Int) < (m : Int)) = true := decide_eq_true (by omega)
      have t0' : decide (k < m) = true := decide_eq_true hlt
      obtain ⟨bS, oS, rfl, _⟩ := RS.out.form (by omega)
      have kl : k < S.length := by rw [HM.out]; exact hlt
      have i0 : (0 : Int) ≤ (k : Int) := by omega
      have i1 : (k : Int) < (m : Int) := by omega
      have kI : IntKind.i64.wrap ((k : Int) + 1) = (k : Int) + 1 := IntWalk.i64_in _ (by have := SL.out; omega)
      have ok := RS.out.2.1 _ (List.getElem_mem kl)
      have hv := VS.out _ (List.getElem_mem kl)
      have RG := Lib.hid ((RS.out.below O5.out.2.1).range k kl)
      have LK := Lib.hid hok
      have M1 := Lib.hid (fun (h : O = []) => run_first (S := S) (T := J) (k := k) (by rw [← h]; exact M5.out) kl hv)
      have M2 := Lib.hid (fun e (he : O.length = e + 1) => run_step M5.out kl he hv)
      have M3 := Lib.hid (fun e (he : O.length = e + 1) ht => run_top (e := e) M5.out US.out he ht)
      clear M5 hok
      generalize S[k] = p at *
      have XB := Lib.hid (rbox wr p)
      have OB := Lib.hid (O5.out.below (boxR_below wr (.cells (rcells p) 33)))
      have OKP := Lib.hid ok
      obtain ⟨okx, oky⟩ := ok
      go_upto_region 5 with (first
        | ((with_reducible refine load_range_at 12 bS (oS + k * 2) p ?_ RG.out ?_); (· rfl))
        | (with_reducible refine allocR_at ?_)
        | ((with_reducible refine storeR_at 5 13 wr p ?_ ?_ ?_ ?_); (· rfl); (· rfl); (· rfl)))
      obtain ⟨g6, hg6⟩ : ∃ g6, g6 = wr.heap.size := ⟨_, rfl⟩
      have G6 : Hid (g6 = wr.heap.size) := Lib.hid hg6
      rw [← hg6] at XB
      rw [← hg6]
      clear hg6 RG
      generalize wr.alloc (.cells (rcells p) 33) = w6 at *
      have LM : Hid (O.length + 1 ≤ 100000) := Lib.hid (by have := LK.out; have := SL.out; omega)
      rcases Nat.eq_zero_or_pos O.length with h0 | hpos
      · obtain rfl : O = [] := List.eq_nil_of_length_eq_zero h0
        have MN := Lib.hid (M1.out rfl)
        obtain ⟨aO, cO, hV, _, _⟩ := OB.out.row
        have hV : _ = Value.slice aO 0 cO := hV
        subst hV
        clear M1 M2 M3 h0
        go_wp2_with (first
          | ((with_reducible refine wholeR_at 5 g6 p ?_ XB.out ?_); (· rfl))
          | ((with_reducible refine slice_range_at 33 p ?_ ?_); (· rfl))
          | (at_builtin; go_must (refine rg_append (W0 := w2) (L := []) (zs := [p]) rfl _ _ rfl rfl (OB.out.below (boxR_below _ _)) rfl (rg_one w6 OKP.out) (fun e => by cases e) LM.out ?_; intro V8 w8 ho8; have O8 := Lib.hid ho8; clear ho8)))
        go_roundw
        case rel => exact ⟨k + 1, [] ++ [p], by go_num, by omega, by simp only [List.nil_append, List.length_singleton]; omega, MN.out, O8.out⟩
        case measure => simp only [intOf]; omega
      · obtain ⟨e, he⟩ : ∃ e, O.length = e + 1 := ⟨O.length - 1, by omega⟩
        obtain ⟨mn, mt⟩ := M2.out e he
        have mtop := M3.out e he
        obtain ⟨gO, cO, hV, hg0, hg1⟩ : ∃ g cap, _ = Value.slice (some ⟨g, 0, none⟩) O.length cap ∧ w2.heap.size ≤ g ∧ g ≠ g6 := by
          rcases O5.out.form with ⟨_, h⟩ | ⟨g, cap, h1, h2, h3, _⟩
          · rw [h] at hpos
            exact absurd hpos (by simp)
          · exact ⟨g, cap, h1, h2, by have := G6.out; omega⟩
        subst hV
        have E1 : e < O.length := by omega
        have okc := OB.out.2.2 _ (List.getElem_mem E1)
        have MN := Lib.hid mn
        have MT := Lib.hid mt
        have MP := Lib.hid mtop
        have OV : Hid (∀ W, RgOut w2 W (.slice (some ⟨gO, 0, none⟩) O.length cO) O → W.cell? ⟨gO, e * 2 + 1, none⟩ = some (.int .u32 ((O[e]'E1).2 : Int))) := Lib.hid (fun W h => by
          obtain ⟨a, c, hV, hr⟩ := h.arg
          injection hV with e1 e2
          subst e1
          have := hr.1.hi e E1
          rwa [Nat.zero_add] at this)
        have SE : Hid (∀ (z : Nat), z < 4294967296 → ∀ W, RgOut w2 W (.slice (some ⟨gO, 0, none⟩) O.length cO) O → RgOut w2 (W.setCell ⟨gO, e * 2 + 1, none⟩ (.int .u32 (z : Int))) (.slice (some ⟨gO, 0, none⟩) O.length cO) (O.set e ((O[e]'E1).1, z))) := Lib.hid (fun z hz W h => h.setHi rfl hg0 e E1 hz)
        have FR : Hid (∀ W, RgOut w2 W (.slice (some ⟨gO, 0, none⟩) O.length cO) O → W.frozen? ⟨gO, e * 2 + 1, none⟩ = false) := Lib.hid (fun W h => h.1.frozenAt _)
        clear mn mt mtop M1 M2 M3 hpos
        obtain ⟨c, hc⟩ : ∃ c, O[e]'E1 = c := ⟨_, rfl⟩
        simp only [hc] at MN MT MP OV SE okc
        clear hc
        obtain ⟨l, hl⟩ : ∃ l, O.length = l := ⟨_, rfl⟩
        have O5' := O5
        rw [hl] at OV SE FR OB LM LK E1 he O5'
        rw [hl]
        have HLn := Lib.hid hl
        have q1 : IntKind.i64.wrap ((l : Int) - 1) = (e : Int) := by
          rw [show (l : Int) - 1 = (e : Int) by omega]
          exact IntWalk.i64_in _ (by have := LM.out; omega)
        have x0 : (0 : Int) ≤ (e : Int) := by omega
        have x1 : (e : Int) < (l : Int) := by omega
        have t4 : decide ((e : Int) < 0) = false := decide_eq_false (by omega)
        clear he hl E1 O5
        obtain ⟨okc1, okc2⟩ := okc
        have CY := Lib.hid okc2
        have PY := Lib.hid oky
        have c9 := OV.out w6 OB.out
        by_cases htop : c.2 = 4294967295
        · have t6 : ((c.2 : Int) == 4294967295) = true := by rw [beq_iff_eq]; omega
          have EJ := Lib.hid (MP.out htop)
          have O9 := Lib.hid (OB.out.wider B2.out)
          clear MN MT MP OV SE FR XB OB O5' htop
          go_wp2_with fail
          go_ret
          exact ⟨_, rfl, by rw [← EJ.out]; exact O9.out⟩
        · have t6 : ((c.2 : Int) == 4294967295) = false := by rw [beq_eq_false_iff_ne]; omega
          have wc1 : IntKind.u32.wrap ((c.2 : Int) + 1) = (c.2 : Int) + 1 := IntWalk.u32_in _ (by omega)
          clear MP
          go_upto_region 10 with fail
          refine wp_region_ord Ext Ext.refl (fun _ _ _ => Ext.trans) ((0, false) :: (1, false) :: (2, false) :: (3, false) :: (4, false) :: (5, false) :: (6, false) :: (7, false) :: (8, false) :: (9, false) :: []) (by kernel_rfl) (by kernel_rfl) rfl (by kernel_rfl) (fun _ _ _ _ _ h => h) ?_
          have OX := Lib.hid (show RgOut w2 w6.drew (.slice (some ⟨gO, 0, none⟩) l cO) O from OB.out.below (drewN_below _ 1))
          have XX : Hid (Blk w6.drew g6 33 (rcells p)) := XB
          have C0 : Hid (w6.drew.cell? ⟨g6, 0, none⟩ = some (.int .u32 (p.1 : Int))) := Lib.hid (Blk.cell XB.out 0)
          have C1 : Hid (w6.drew.cell? ⟨g6, 1, none⟩ = some (.int .u32 (p.2 : Int))) := Lib.hid (Blk.cell XB.out 1)
          have GX : Hid (g6 < w6.drew.heap.size) := Lib.hid XB.out.lt
          clear OB XB c9 O5' htop t6
          generalize w6.drew = w7 at *
          by_cases ht : p.1 ≤ c.2 + 1
          · have t5 : decide ((c.2 : Int) + 1 < (p.1 : Int)) = false := decide_eq_false (by omega)
            have t5' : decide (c.2 + 1 < p.1) = false := decide_eq_false (by omega)
            have MM := Lib.hid (MT.out ht)
            clear MN MT
            repeat (first
              | (refine ord_skip rfl (by rfl) ?_; simp only [Act.put, List.setIfInBounds_toArray, List.set_cons_zero, List.set_cons_succ])
              | (refine ord_take _ rfl (by rfl) (fun W hW => yields_u32 (.tmp 49) rfl gO (e * 2 + 1) _ rfl (OV.out W (OX.out.below hW))) ?_; simp only [Act.put, List.setIfInBounds_toArray, List.set_cons_zero, List.set_cons_succ])
              | (refine ord_take _ rfl (by rfl) (fun W hW => yields_u32 (.tmp 44) rfl g6 0 _ rfl ((Below.cell hW (p := ⟨g6, 0, none⟩) GX.out).trans C0.out)) ?_; simp only [Act.put, List.setIfInBounds_toArray, List.set_cons_zero, List.set_cons_succ])
              | (refine ord_take _ rfl (by rfl) (fun W hW => by go_simp; first | done | rfl) ?_; simp only [Act.put, List.setIfInBounds_toArray, List.set_cons_zero, List.set_cons_succ]))
            refine ord_end ?_
            have mm : max (c.2 : Int) (p.2 : Int) = ((max c.2 p.2 : Nat) : Int) := by omega
            have mz : Hid (max c.2 p.2 < 4294967296) := Lib.hid (by have := CY.out; have := PY.out; omega)
            go_upto_region 6 with fail
            refine wp_region_ord (OffR gO) (OffR.refl gO) OffR.trans ((0, false) :: (1, false) :: (2, false) :: (3, false) :: (4, false) :: (5, false) :: (7, false) :: (8, false) :: (6, true) :: (9, false) :: (10, false) :: (11, false) :: (12, true) :: []) (by kernel_rfl) (by kernel_rfl) rfl (by kernel_rfl) (fun _ _ _ _ _ h => h) ?_
            have OY := Lib.hid (show RgOut w2 w7.drew (.slice (some ⟨gO, 0, none⟩) l cO) O from OX.out.below (drewN_below _ 1))
            have D1 : Hid (w7.drew.cell? ⟨g6, 1, none⟩ = some (.int .u32 (p.2 : Int))) := Lib.hid C1.out
            have DX : Hid (g6 < w7.drew.heap.size) := Lib.hid GX.out
            clear OX C0 C1 GX XX
            generalize w7.drew = w8 at *
            have V8 := Lib.hid (OV.out _ OY.out)
            have F8 := Lib.hid (FR.out _ OY.out)
            have S8 := Lib.hid (SE.out _ mz.out _ OY.out)
            clear OY OV FR SE
            repeat (first
              | (refine ord_skip rfl (by rfl) ?_; simp only [Act.put, List.setIfInBounds_toArray, List.set_cons_zero, List.set_cons_succ])
              | (refine ord_take _ rfl (by rfl) (fun W hW => yields_u32 (.tmp 24) rfl g6 1 _ rfl ((OffR.cell hW (Ne.symm hg1) DX.out).trans D1.out)) ?_; simp only [Act.put, List.setIfInBounds_toArray, List.set_cons_zero, List.set_cons_succ])
              | (refine ord_take _ rfl (by rfl) (fun W hW => by go_simp; first | done | rfl) ?_; simp only [Act.put, List.setIfInBounds_toArray, List.set_cons_zero, List.set_cons_succ])
              | (refine ord_sole rfl (by rfl) (fun K1 hK1 => ?_)
                 refine opR_load (.tmp 22) rfl gO (e * 2 + 1) _ rfl V8.out ?_
                 refine hK1 _ _ (OffR.refl _ _) ?_
                 clear hK1 K1
                 simp only [Act.put, List.setIfInBounds_toArray, List.set_cons_zero, List.set_cons_succ])
              | (refine ord_sole rfl (by rfl) (fun K1 hK1 => ?_)
                 refine opR_store (.tmp 28) (.tmp 26) rfl rfl gO (e * 2 + 1) _ ((max c.2 p.2 : Nat) : Int) rfl rfl V8.out F8.out ?_
                 refine hK1 _ _ (OffR.set _ _ _ _) ?_
                 clear hK1 K1))
            refine ord_end ?_
            go_wp2_with fail
            go_roundw
            case rel => exact ⟨k + 1, _, by go_num, by omega, by rw [List.length_set, HLn.out]; have := LK.out; omega, MM.out, S8.out⟩
            case measure => simp only [intOf]; omega
          · have t5 : decide ((c.2 : Int) + 1 < (p.1 : Int)) = true := decide_eq_true (by omega)
            have t5' : decide (c.2 + 1 < p.1) = true := decide_eq_true (by omega)
            have MM := Lib.hid (MN.out ht)
            clear MN MT
            repeat (first
              | (refine ord_skip rfl (by rfl) ?_; simp only [Act.put, List.setIfInBounds_toArray, List.set_cons_zero, List.set_cons_succ])
              | (refine ord_take _ rfl (by rfl) (fun W hW => yields_u32 (.tmp 49) rfl gO (e * 2 + 1) _ rfl (OV.out W (OX.out.below hW))) ?_; simp only [Act.put, List.setIfInBounds_toArray, List.set_cons_zero, List.set_cons_succ])
              | (refine ord_take _ rfl (by rfl) (fun W hW => yields_u32 (.tmp 44) rfl g6 0 _ rfl ((Below.cell hW (p := ⟨g6, 0, none⟩) GX.out).trans C0.out)) ?_; simp only [Act.put, List.setIfInBounds_toArray, List.set_cons_zero, List.set_cons_succ])
              | (refine ord_take _ rfl (by rfl) (fun W hW => by go_simp; first | done | rfl) ?_; simp only [Act.put, List.setIfInBounds_toArray, List.set_cons_zero, List.set_cons_succ]))
            refine ord_end ?_
            go_wp2_with (first
              | ((with_reducible refine wholeR_at 5 g6 p ?_ XX.out ?_); (· rfl))
              | ((with_reducible refine slice_range_at 54 p ?_ ?_); (· rfl))
              | (at_builtin; go_must (refine rg_append (W0 := w2) (L := O) (zs := [p]) rfl _ _ rfl rfl (OX.out.below (boxR_below _ _)) rfl (rg_one w7 OKP.out) (fun e => by cases e) (by rw [HLn.out]; exact LM.out) ?_; intro V8 w8 ho8; have O8 := Lib.hid ho8; clear ho8)))
            go_roundw
            case rel => exact ⟨k + 1, O ++ [p], by go_num, by omega, by rw [List.length_append, HLn.out]; have := LK.out; show _ + 1 ≤ k + 1; omega, MM.out, O8.out⟩
            case measure => simp only [intOf]; omega
    · have t0 : decide ((k : Int) < (m : Int)) = false := decide_eq_false (by omega)
      have t0' : decide (k < m) = false := decide_eq_false hlt
      have e := run_end (S := S) (T := J) (O := O) (by rw [HM.out]; rw [show m = k by omega]; exact M5.out)
      subst e
      have O9 := Lib.hid (O5.out.wider B2.out)
      clear M5 O5 RS
      go_wp2_with fail
      go_ret
      exact ⟨_, rfl, O9.out⟩

end Go.Proofs.Ytppdnejkbdnlcaa
