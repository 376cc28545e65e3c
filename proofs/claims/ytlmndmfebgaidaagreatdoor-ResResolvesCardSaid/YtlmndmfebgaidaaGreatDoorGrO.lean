/-
  Merged texts: ApJ, RpA, ReC.
-/
import Derived.Test.YtlmndmfebgaidaaGreatDoorGrN
import Derived.Deep.CutRange
import Derived.ScopeJumps
import Derived.WalkMore
import Derived.Test.YtlmndmfebgaidaaGreatDoorGrL
import Derived.Test.YtlmndmfebgaidaaGreatDoorGrM
import Derived.Test.YtlmndmfebgaidaaGreatDoorGrD
import Derived.Test.YtlmndmfebgaidaaGreatDoorGrF
namespace Go.Proofs.YtlmndmfebgaidaaGreatDoor
open Go.RowKit
set_option linter.unusedVariables false
def OffR (g : Nat) (a b : World) : Prop := a.heap.size ≤ b.heap.size ∧ ∀ k, k ≠ g → k < a.heap.size → b.heap[k]? = a.heap[k]?
theorem OffR.refl (g : Nat) (w : World) : OffR g w w := ⟨Nat.le_refl _, fun _ _ _ => rfl⟩
theorem OffR.trans {g : Nat} (a b c : World) (h : OffR g a b) (k : OffR g b c) : OffR g a c := ⟨Nat.le_trans h.1 k.1, fun i hi hl => (k.2 i hi (Nat.lt_of_lt_of_le hl h.1)).trans (h.2 i hi hl)⟩
theorem OffR.set (g o : Nat) (w : World) (v : Value) : OffR g w (w.setCell ⟨g, o, none⟩ v) := ⟨(Below.setCell (Below.refl g w) (p := ⟨g, o, none⟩) (Nat.le_refl _) v).size, fun k hk _ => heap_setCell_other w ⟨g, o, none⟩ k v hk⟩
theorem OffR.cell {g k o : Nat} {w W : World} (h : OffR g w W) (hk : k ≠ g) (hl : k < w.heap.size) : W.cell? ⟨k, o, none⟩ = w.cell? ⟨k, o, none⟩ := World.cell?_of_block (a := ⟨k, o, none⟩) (h.2 k hk hl)
theorem opR_load {o : Oper} {a : Act} {w : World} {K : Act → World → Prop} {Q : Exit → Act → World → Prop} (x : Operand) (ho : o.op = .load 52 x) (g off : Nat) (v : Value) (hx : a.eval x = .pointer (some ⟨g, off, none⟩)) (hc : w.cell? ⟨g, off, none⟩ = some v) (hK : K (a.put o.dst v) w) : o.wp Tryz.prog a w K Q := by
  unfold Oper.wp
  rw [yields_u32 x ho g off v hx hc]
  exact hK
theorem join_filter (L : List (Nat × Nat)) : joinZ (L.filter validP) = joinZ L := norm_one (norm_join _) (norm_join _) (fun x => by rw [in_join, in_join, in_filter])
theorem merge_top {c : Nat × Nat} : ∀ {r : List (Nat × Nat)}, (∀ p ∈ r, p.2 ≤ c.2 ∧ p.1 ≤ c.2 + 1) → mergeZ c r = [c]
  | [], _ => rfl
  | p :: r, h => by
    obtain ⟨h1, h2⟩ := h p (by simp)
    unfold mergeZ
    rw [if_pos h2, Nat.max_eq_left h1]
    exact merge_top (fun q hq => h q (by simp [hq]))
theorem run_top {S T O : List (Nat × Nat)} {k e : Nat} (h : RunAt S T k O) (ho : Under 4294967296 S) (he : O.length = e + 1) (ht : (O[e]'(by omega)).2 = 4294967295) : O = T := by
  rcases h with ⟨rfl, _⟩ | ⟨D, c, rfl, hj⟩
  · simp at he
  have hD : D.length = e := by simpa using he
  subst hD
  have ec : (D ++ [c])[D.length]'(by simp) = c := by simp
  rw [ec] at ht
  rw [merge_top (fun p hp => by
    obtain ⟨_, u⟩ := ho p (List.mem_of_mem_drop (List.mem_filter.1 hp).1)
    have v : p.1 ≤ p.2 := of_decide_eq_true (List.mem_filter.1 hp).2
    omega)] at hj
  exact hj
set_option maxHeartbeats 2000000 in
set_option maxRecDepth 100000 in
theorem pkJoin_of (PS : PkSorted) : PkJoin := by
  intro a n c L w hr hn
  have C1 : Hid (Calls Tryz.prog 69 #[.slice a n c] w (GivesSortedR L w)) := Lib.hid (PS a n c L w hr (by omega))
  have ME : Hid (∀ S : List (Nat × Nat), S.Perm (L.filter validP) → S.Pairwise (fun a b => a.1 ≤ b.1) → mergeAllZ (S.filter validP) = joinZ L) := Lib.hid (fun S hp hs => (merge_all hp hs).trans (join_filter L))
  have HV : Hid (∀ S : List (Nat × Nat), S.Perm (L.filter validP) → ∀ p ∈ S, p.1 ≤ p.2) := Lib.hid (fun S hp p hm => of_decide_eq_true (List.mem_filter.1 (hp.mem_iff.1 hm)).2)
  have HF : Hid (∀ S : List (Nat × Nat), S.Perm (L.filter validP) → S.length ≤ 10000) := Lib.hid (fun S hp => by
    rw [hp.length_eq]
    have := List.length_filter_le validP L
    have := hr.1.1
    omega)
  clear hr hn PS
  generalize joinZ L = J at *
  go_enter Tryz.func42, Tryz.ntmps42
  go_wp2_with fail
  go_step3
  go_wp2_with fail
  go_step3
  go_wp2_with (go_at_call 69
               refine C1.out.mono ?_
               rintro r w2 ⟨V2, S, rfl, ho2, hp2, hs2⟩
               have SL := Lib.hid (HF.out S hp2)
               have MJ := Lib.hid (ME.out S hp2 hs2)
               have VS := Lib.hid (HV.out S hp2)
               obtain ⟨aS, cS, hV, hrow⟩ := ho2.arg
               have RS := Lib.hid hrow.1
               have US := Lib.hid hrow.under
               have B2 := Lib.hid ho2.2.1
               subst hV
               clear ho2 hp2 hs2 hrow C1 ME HV HF)
  have R0 := Lib.hid (run_start S)
  rw [MJ.out] at R0
  clear MJ
  obtain ⟨m, hm⟩ : ∃ m, S.length = m := ⟨_, rfl⟩
  have HM := Lib.hid hm
  rw [hm] at RS SL
  rw [hm]
  clear hm
  go_loopw [3, 10] (fun oV kV wr => ∃ (k : Nat) (O : List (Nat × Nat)), kV = .int .i64 (k : Int) ∧ k ≤ m ∧ O.length ≤ k ∧ RunAt S J k O ∧ RgOut w2 wr oV O) (fun _ kV _ => ((m : Int) - intOf kV).toNat)
  case atStart => exact ⟨0, [], rfl, Nat.zero_le _, Nat.le_refl _, R0.out, RgOut.start w2⟩
  case round =>
    obtain ⟨k, O, rfl, hk, hok, hat, ho⟩ := hrel
    have M5 := Lib.hid hat
    have O5 := Lib.hid ho
    clear hat ho R0
    by_cases hlt : k < m
    · have t0 : decide ((k : Int) < (m : Int)) = true := decide_eq_true (by omega)
      have t0' : decide (k < m) = true := decide_eq_true hlt
      obtain ⟨bS, oS, rfl, _⟩ := RS.out.form (by omega)
      have kl : k < S.length := by rw [HM.out]; exact hlt
      have i0 : (0 : Int) ≤ (k : Int) := by omega
      have i1 : (k : Int) < (m : Int) := by omega
      have kI : IntKind.i64.wrap ((k : Int) + 1) = (k : Int) + 1 := IntWalk.i64_in _ (by have := SL.out; omega)
      have ok := RS.out.2.1 _ (List.getElem_mem kl)
      have hv := VS.out _ (List.getElem_mem kl)
      have RG := Lib.hid ((RS.out.below O5.out.2.1).range k kl)
      have LK := Lib.hid hok
      have M1 := Lib.hid (fun (h : O = []) => run_first (S := S) (T := J) (k := k) (by rw [← h]; exact M5.out) kl hv)
      have M2 := Lib.hid (fun e (he : O.length = e + 1) => run_step M5.out kl he hv)
      have M3 := Lib.hid (fun e (he : O.length = e + 1) ht => run_top (e := e) M5.out US.out he ht)
      clear M5 hok
      generalize S[k] = p at *
      have XB := Lib.hid (rbox wr p)
      have OB := Lib.hid (O5.out.below (boxR_below wr (.cells (rcells p) 54)))
      have OKP := Lib.hid ok
      obtain ⟨okx, oky⟩ := ok
      go_upto_region 5 with (first
        | ((with_reducible refine load_range_at 12 bS (oS + k * 2) p ?_ RG.out ?_); (· rfl))
        | (with_reducible refine allocR_at ?_)
        | ((with_reducible refine storeR_at 5 13 wr p ?_ ?_ ?_ ?_); (· rfl); (· rfl); (· rfl)))
      obtain ⟨g6, hg6⟩ : ∃ g6, g6 = wr.heap.size := ⟨_, rfl⟩
      have G6 : Hid (g6 = wr.heap.size) := Lib.hid hg6
      rw [← hg6] at XB
      rw [← hg6]
      clear hg6 RG
      generalize wr.alloc (.cells (rcells p) 54) = w6 at *
      have LM : Hid (O.length + 1 ≤ 100000) := Lib.hid (by have := LK.out; have := SL.out; omega)
      rcases Nat.eq_zero_or_pos O.length with h0 | hpos
      · obtain rfl : O = [] := List.eq_nil_of_length_eq_zero h0
        have MN := Lib.hid (M1.out rfl)
        obtain ⟨aO, cO, hV, _, _⟩ := OB.out.row
        have hV : _ = Value.slice aO 0 cO := hV
        subst hV
        clear M1 M2 M3 h0
        go_wp2_with (first
          | ((with_reducible refine wholeR_at 5 g6 p ?_ XB.out ?_); (· rfl))
          | ((with_reducible refine slice_range_at 33 p ?_ ?_); (· rfl))
          | (at_builtin; go_must (refine rg_append (W0 := w2) (L := []) (zs := [p]) rfl _ _ rfl rfl (OB.out.below (boxR_below _ _)) rfl (rg_one w6 OKP.out) (fun e => by cases e) LM.out ?_; intro V8 w8 ho8; have O8 := Lib.hid ho8; clear ho8)))
        go_roundw
        case rel => exact ⟨k + 1, [] ++ [p], by go_num, by omega, by simp only [List.nil_append, List.length_singleton]; omega, MN.out, O8.out⟩
        case measure => simp only [intOf]; omega
      · obtain ⟨e, he⟩ : ∃ e, O.length = e + 1 := ⟨O.length - 1, by omega⟩
        obtain ⟨mn, mt⟩ := M2.out e he
        have mtop := M3.out e he
        obtain ⟨gO, cO, hV, hg0, hg1⟩ : ∃ g cap, _ = Value.slice (some ⟨g, 0, none⟩) O.length cap ∧ w2.heap.size ≤ g ∧ g ≠ g6 := by
          rcases O5.out.form with ⟨_, h⟩ | ⟨g, cap, h1, h2, h3, _⟩
          · rw [h] at hpos
            exact absurd hpos (by simp)
          · exact ⟨g, cap, h1, h2, by have := G6.out; omega⟩
        subst hV
        have E1 : e < O.length := by omega
        have okc := OB.out.2.2 _ (List.getElem_mem E1)
        have MN := Lib.hid mn
        have MT := Lib.hid mt
        have MP := Lib.hid mtop
        have OV : Hid (∀ W, RgOut w2 W (.slice (some ⟨gO, 0, none⟩) O.length cO) O → W.cell? ⟨gO, e * 2 + 1, none⟩ = some (.int .u32 ((O[e]'E1).2 : Int))) := Lib.hid (fun W h => by
          obtain ⟨a, c, hV, hr⟩ := h.arg
          injection hV with e1 e2
          subst e1
          have := hr.1.hi e E1
          rwa [Nat.zero_add] at this)
        have SE : Hid (∀ (z : Nat), z < 4294967296 → ∀ W, RgOut w2 W (.slice (some ⟨gO, 0, none⟩) O.length cO) O → RgOut w2 (W.setCell ⟨gO, e * 2 + 1, none⟩ (.int .u32 (z : Int))) (.slice (some ⟨gO, 0, none⟩) O.length cO) (O.set e ((O[e]'E1).1, z))) := Lib.hid (fun z hz W h => h.setHi rfl hg0 e E1 hz)
        have FR : Hid (∀ W, RgOut w2 W (.slice (some ⟨gO, 0, none⟩) O.length cO) O → W.frozen? ⟨gO, e * 2 + 1, none⟩ = false) := Lib.hid (fun W h => h.1.frozenAt _)
        clear mn mt mtop M1 M2 M3 hpos
        obtain ⟨c, hc⟩ : ∃ c, O[e]'E1 = c := ⟨_, rfl⟩
        simp only [hc] at MN MT MP OV SE okc
        clear hc
        obtain ⟨l, hl⟩ : ∃ l, O.length = l := ⟨_, rfl⟩
        have O5' := O5
        rw [hl] at OV SE FR OB LM LK E1 he O5'
        rw [hl]
        have HLn := Lib.hid hl
        have q1 : IntKind.i64.wrap ((l : Int) - 1) = (e : Int) := by
          rw [show (l : Int) - 1 = (e : Int) by omega]
          exact IntWalk.i64_in _ (by have := LM.out; omega)
        have x0 : (0 : Int) ≤ (e : Int) := by omega
        have x1 : (e : Int) < (l : Int) := by omega
        have t4 : decide ((e : Int) < 0) = false := decide_eq_false (by omega)
        clear he hl E1 O5
        obtain ⟨okc1, okc2⟩ := okc
        have CY := Lib.hid okc2
        have PY := Lib.hid oky
        have c9 := OV.out w6 OB.out
        by_cases htop : c.2 = 4294967295
        · have t6 : ((c.2 : Int) == 4294967295) = true := by rw [beq_iff_eq]; omega
          have EJ := Lib.hid (MP.out htop)
          have O9 := Lib.hid (OB.out.wider B2.out)
          clear MN MT MP OV SE FR XB OB O5' htop
          go_wp2_with fail
          go_ret
          exact ⟨_, rfl, by rw [← EJ.out]; exact O9.out⟩
        · have t6 : ((c.2 : Int) == 4294967295) = false := by rw [beq_eq_false_iff_ne]; omega
          have wc1 : IntKind.u32.wrap ((c.2 : Int) + 1) = (c.2 : Int) + 1 := IntWalk.u32_in _ (by omega)
          clear MP
          go_upto_region 10 with fail
          refine wp_region_ord Ext Ext.refl (fun _ _ _ => Ext.trans) ((0, false) :: (1, false) :: (2, false) :: (3, false) :: (4, false) :: (5, false) :: (6, false) :: (7, false) :: (8, false) :: (9, false) :: []) (by kernel_rfl) (by kernel_rfl) rfl (by kernel_rfl) (fun _ _ _ _ _ h => h) ?_
          have OX := Lib.hid (show RgOut w2 w6.drew (.slice (some ⟨gO, 0, none⟩) l cO) O from OB.out.below (drewN_below _ 1))
          have XX : Hid (Blk w6.drew g6 54 (rcells p)) := XB
          have C0 : Hid (w6.drew.cell? ⟨g6, 0, none⟩ = some (.int .u32 (p.1 : Int))) := Lib.hid (Blk.cell XB.out 0)
          have C1 : Hid (w6.drew.cell? ⟨g6, 1, none⟩ = some (.int .u32 (p.2 : Int))) := Lib.hid (Blk.cell XB.out 1)
          have GX : Hid (g6 < w6.drew.heap.size) := Lib.hid XB.out.lt
          clear OB XB c9 O5' htop t6
          generalize w6.drew = w7 at *
          by_cases ht : p.1 ≤ c.2 + 1
          · have t5 : decide ((c.2 : Int) + 1 < (p.1 : Int)) = false := decide_eq_false (by omega)
            have t5' : decide (c.2 + 1 < p.1) = false := decide_eq_false (by omega)
            have MM := Lib.hid (MT.out ht)
            clear MN MT
            repeat (first
              | (refine ord_skip rfl (by rfl) ?_; simp only [Act.put, List.setIfInBounds_toArray, List.set_cons_zero, List.set_cons_succ])
              | (refine ord_take _ rfl (by rfl) (fun W hW => yields_u32 (.tmp 49) rfl gO (e * 2 + 1) _ rfl (OV.out W (OX.out.below hW))) ?_; simp only [Act.put, List.setIfInBounds_toArray, List.set_cons_zero, List.set_cons_succ])
              | (refine ord_take _ rfl (by rfl) (fun W hW => yields_u32 (.tmp 44) rfl g6 0 _ rfl ((Below.cell hW (p := ⟨g6, 0, none⟩) GX.out).trans C0.out)) ?_; simp only [Act.put, List.setIfInBounds_toArray, List.set_cons_zero, List.set_cons_succ])
              | (refine ord_take _ rfl (by rfl) (fun W hW => by go_simp; first | done | rfl) ?_; simp only [Act.put, List.setIfInBounds_toArray, List.set_cons_zero, List.set_cons_succ]))
            refine ord_end ?_
            have mm : max (c.2 : Int) (p.2 : Int) = ((max c.2 p.2 : Nat) : Int) := by omega
            have mz : Hid (max c.2 p.2 < 4294967296) := Lib.hid (by have := CY.out; have := PY.out; omega)
            go_upto_region 6 with fail
            refine wp_region_ord (OffR gO) (OffR.refl gO) OffR.trans ((0, false) :: (1, false) :: (2, false) :: (3, false) :: (4, false) :: (5, false) :: (7, false) :: (8, false) :: (6, true) :: (9, false) :: (10, false) :: (11, false) :: (12, true) :: []) (by kernel_rfl) (by kernel_rfl) rfl (by kernel_rfl) (fun _ _ _ _ _ h => h) ?_
            have OY := Lib.hid (show RgOut w2 w7.drew (.slice (some ⟨gO, 0, none⟩) l cO) O from OX.out.below (drewN_below _ 1))
            have D1 : Hid (w7.drew.cell? ⟨g6, 1, none⟩ = some (.int .u32 (p.2 : Int))) := Lib.hid C1.out
            have DX : Hid (g6 < w7.drew.heap.size) := Lib.hid GX.out
            clear OX C0 C1 GX XX
            generalize w7.drew = w8 at *
            have V8 := Lib.hid (OV.out _ OY.out)
            have F8 := Lib.hid (FR.out _ OY.out)
            have S8 := Lib.hid (SE.out _ mz.out _ OY.out)
            clear OY OV FR SE
            repeat (first
              | (refine ord_skip rfl (by rfl) ?_; simp only [Act.put, List.setIfInBounds_toArray, List.set_cons_zero, List.set_cons_succ])
              | (refine ord_take _ rfl (by rfl) (fun W hW => yields_u32 (.tmp 24) rfl g6 1 _ rfl ((OffR.cell hW (Ne.symm hg1) DX.out).trans D1.out)) ?_; simp only [Act.put, List.setIfInBounds_toArray, List.set_cons_zero, List.set_cons_succ])
              | (refine ord_take _ rfl (by rfl) (fun W hW => by go_simp; first | done | rfl) ?_; simp only [Act.put, List.setIfInBounds_toArray, List.set_cons_zero, List.set_cons_succ])
              | (refine ord_sole rfl (by rfl) (fun K1 hK1 => ?_)
                 refine opR_load (.tmp 22) rfl gO (e * 2 + 1) _ rfl V8.out ?_
                 refine hK1 _ _ (OffR.refl _ _) ?_
                 clear hK1 K1
                 simp only [Act.put, List.setIfInBounds_toArray, List.set_cons_zero, List.set_cons_succ])
              | (refine ord_sole rfl (by rfl) (fun K1 hK1 => ?_)
                 refine opR_store (.tmp 28) (.tmp 26) rfl rfl gO (e * 2 + 1) _ ((max c.2 p.2 : Nat) : Int) rfl rfl V8.out F8.out ?_
                 refine hK1 _ _ (OffR.set _ _ _ _) ?_
                 clear hK1 K1))
            refine ord_end ?_
            go_wp2_with fail
            go_roundw
            case rel => exact ⟨k + 1, _, by go_num, by omega, by rw [List.length_set, HLn.out]; have := LK.out; omega, MM.out, S8.out⟩
            case measure => simp only [intOf]; omega
          · have t5 : decide ((c.2 : Int) + 1 < (p.1 : Int)) = true := decide_eq_true (by omega)
            have t5' : decide (c.2 + 1 < p.1) = true := decide_eq_true (by omega)
            have MM := Lib.hid (MN.out ht)
            clear MN MT
            repeat (first
              | (refine ord_skip rfl (by rfl) ?_; simp only [Act.put, List.setIfInBounds_toArray, List.set_cons_zero, List.set_cons_succ])
              | (refine ord_take _ rfl (by rfl) (fun W hW => yields_u32 (.tmp 49) rfl gO (e * 2 + 1) _ rfl (OV.out W (OX.out.below hW))) ?_; simp only [Act.put, List.setIfInBounds_toArray, List.set_cons_zero, List.set_cons_succ])
              | (refine ord_take _ rfl (by rfl) (fun W hW => yields_u32 (.tmp 44) rfl g6 0 _ rfl ((Below.cell hW (p := ⟨g6, 0, none⟩) GX.out).trans C0.out)) ?_; simp only [Act.put, List.setIfInBounds_toArray, List.set_cons_zero, List.set_cons_succ])
              | (refine ord_take _ rfl (by rfl) (fun W hW => by go_simp; first | done | rfl) ?_; simp only [Act.put, List.setIfInBounds_toArray, List.set_cons_zero, List.set_cons_succ]))
            refine ord_end ?_
            go_wp2_with (first
              | ((with_reducible refine wholeR_at 5 g6 p ?_ XX.out ?_); (· rfl))
              | ((with_reducible refine slice_range_at 54 p ?_ ?_); (· rfl))
              | (at_builtin; go_must (refine rg_append (W0 := w2) (L := O) (zs := [p]) rfl _ _ rfl rfl (OX.out.below (boxR_below _ _)) rfl (rg_one w7 OKP.out) (fun e => by cases e) (by rw [HLn.out]; exact LM.out) ?_; intro V8 w8 ho8; have O8 := Lib.hid ho8; clear ho8)))
            go_roundw
            case rel => exact ⟨k + 1, O ++ [p], by go_num, by omega, by rw [List.length_append, HLn.out]; have := LK.out; show _ + 1 ≤ k + 1; omega, MM.out, O8.out⟩
            case measure => simp only [intOf]; omega
    · have t0 : decide ((k : Int) < (m : Int)) = false := decide_eq_false (by omega)
      have t0' : decide (k < m) = false := decide_eq_false hlt
      have e := run_end (S := S) (T := J) (O := O) (by rw [HM.out]; rw [show m = k by omega]; exact M5.out)
      subst e
      have O9 := Lib.hid (O5.out.wider B2.out)
      clear M5 O5 RS
      go_wp2_with fail
      go_ret
      exact ⟨_, rfl, O9.out⟩
end Go.Proofs.YtlmndmfebgaidaaGreatDoor
namespace Go.Proofs.YtlmndmfebgaidaaGreatDoor
open Go.RowKit
set_option linter.unusedVariables false
set_option linter.unusedSimpArgs false
set_option maxRecDepth 100000
set_option maxHeartbeats 1000000 in
theorem equalR_any (a b : Option Addr) (n c m d : Nat) (L M : List (Nat × Nat)) (w : World) (hr : RgArg w a n c L) (hn : n ≤ 100000) (hs : RgArg w b m d M) (hm : m ≤ 100000) :
    Calls Tryz.prog 41 #[.slice a n c, .slice b m d] w fun e w' => e = .returned (.bool (eqLR L M)) ∧ Below w.heap.size w w' := by
  have RL := Lib.hid hr.1
  have RM := Lib.hid hs.1
  have HL := Lib.hid hr.1.1
  have HM := Lib.hid hs.1.1
  clear hr hs
  have E0 : Hid (L.length ≠ M.length → eqLR L M = false) := Lib.hid (fun h => decide_eq_false (fun e => h (by rw [e])))
  have E1 : Hid (L = M → eqLR L M = true) := Lib.hid (fun e => decide_eq_true e)
  have ES := Lib.hid (fun k (hl : k < L.length) (hm : k < M.length) ht => eqLR_step hl hm ht)
  generalize eqLR L M = r0 at *
  go_enter Tryz.func41, Tryz.ntmps41
  by_cases hnm : n = m
  · subst hnm
    go_wp2_with fail
    go_loopw [13] (fun iV wr => ∃ k : Nat, iV = .int .i64 (k : Int) ∧ k ≤ n ∧ L.take k = M.take k ∧ Below w.heap.size w wr) (fun iV _ => ((n : Int) - intOf iV).toNat)
    case atStart => exact ⟨0, rfl, Nat.zero_le _, rfl, Below.refl _ _⟩
    case round =>
      obtain ⟨k, rfl, hk, he, hb⟩ := hrel
      have B5 := Lib.hid hb
      have E5 := Lib.hid he
      clear hb he
      by_cases hlt : k < n
      · have t0 : decide ((k : Int) < (n : Int)) = true := decide_eq_true (by omega)
        have t0' : decide (k < n) = true := decide_eq_true hlt
        obtain ⟨bA, oA, rfl, _⟩ := RL.out.form (by omega)
        obtain ⟨bB, oB, rfl, _⟩ := RM.out.form (by omega)
        have kl : k < L.length := by rw [HL.out]; exact hlt
        have km : k < M.length := by rw [HM.out]; exact hlt
        obtain ⟨e1, e2⟩ := ES.out k kl km E5.out
        have EY := Lib.hid e1
        have EN := Lib.hid e2
        have RG := Lib.hid (fun W (h : Below w.heap.size w W) => (RL.out.below h).range k kl)
        have SG := Lib.hid (fun W (h : Below w.heap.size w W) => (RM.out.below h).range k km)
        clear e1 e2 ES
        generalize L[k] = s at *
        generalize M[k] = t at *
        have LS : Hid ((Tryz.prog.info? 54).map (·.size) = some (rcL s).length) := Lib.hid (by kernel_rfl)
        have LT : Hid ((Tryz.prog.info? 54).map (·.size) = some (rcL t).length) := Lib.hid (by kernel_rfl)
        have i0 : (0 : Int) ≤ (k : Int) := by omega
        have i1 : (k : Int) < (n : Int) := by omega
        have kI : IntKind.i64.wrap ((k : Int) + 1) = (k : Int) + 1 := IntWalk.i64_in _ (by omega)
        clear kl km E5
        go_upto_region 6 with fail
        have B6 : Hid (Below w.heap.size w wr.drew) := Lib.hid B5.out.drew
        clear B5
        refine wp_region_ord Ext Ext.refl (fun _ _ _ => Ext.trans) ((0, false) :: (1, false) :: (2, false) :: (3, false) :: (4, false) :: (5, false) :: (6, false) :: (7, false) :: (8, false) :: []) (by kernel_rfl) (by kernel_rfl) rfl (by kernel_rfl) (fun _ _ _ _ _ h => h) ?_
        generalize wr.drew = w6 at *
        repeat (first
          | (refine ord_skip rfl (by rfl) ?_; simp only [Act.put, List.setIfInBounds_toArray, List.set_cons_zero, List.set_cons_succ])
          | (refine ord_take _ rfl (by rfl) (fun W hW => yields_neqR (.tmp 19) (.tmp 23) rfl rfl rfl (s := s) (t := t)) ?_; simp only [Act.put, List.setIfInBounds_toArray, List.set_cons_zero, List.set_cons_succ])
          | (refine ord_take (.agg (rcells s)) rfl (by rfl) (fun W hW => yields_partR 54 (.tmp 18) rfl bA (oA + k * 2) (rcL s) _ rfl (RG.out W (B6.out.trans (hW.mono B6.out.size))) Tryz.underlying54 rfl LS.out) ?_; simp only [Act.put, List.setIfInBounds_toArray, List.set_cons_zero, List.set_cons_succ])
          | (refine ord_take (.agg (rcells t)) rfl (by rfl) (fun W hW => yields_partR 54 (.tmp 22) rfl bB (oB + k * 2) (rcL t) _ rfl (SG.out W (B6.out.trans (hW.mono B6.out.size))) Tryz.underlying54 rfl LT.out) ?_; simp only [Act.put, List.setIfInBounds_toArray, List.set_cons_zero, List.set_cons_succ])
          | (refine ord_take _ rfl (by rfl) (fun W hW => by go_simp; first | done | rfl) ?_; simp only [Act.put, List.setIfInBounds_toArray, List.set_cons_zero, List.set_cons_succ]))
        refine ord_end ?_
        cases hq : eqR s t with
        | true =>
          have E6 := Lib.hid (EY.out (eqR_is.1 hq))
          clear EY EN
          go_wp2_with fail
          go_roundw
          case rel => exact ⟨k + 1, by go_num, by omega, E6.out, B6.out⟩
          case measure => simp only [intOf]; omega
        | false =>
          have E6 := Lib.hid (EN.out (fun e => by rw [eqR_is.2 e] at hq; cases hq))
          clear EY EN
          go_wp2_with fail
          go_ret
          exact ⟨by rw [E6.out]; rfl, B6.out⟩
      · have t0 : decide ((k : Int) < (n : Int)) = false := decide_eq_false (by omega)
        have t0' : decide (k < n) = false := decide_eq_false hlt
        have e := E5.out
        rw [List.take_of_length_le (by rw [HL.out]; omega), List.take_of_length_le (by rw [HM.out]; omega)] at e
        have E6 := Lib.hid (E1.out e)
        clear e E5
        go_wp2_with fail
        go_ret
        exact ⟨by rw [E6.out]; rfl, B5.out⟩
  · have E6 := Lib.hid (E0.out (by rw [HL.out, HM.out]; exact hnm))
    have t0 : ((n : Int) != (m : Int)) = true := by simp; omega
    go_wp2_with fail
    go_ret
    exact ⟨by rw [E6.out]; rfl, Below.refl _ _⟩
set_option maxHeartbeats 4000000 in
theorem right13_any (r : ResZ) (v : Value) (w : World) (h : ResAt w v r) (hl : r.sp.length ≤ 40000) (hm : r.ns.length ≤ 40000) : Calls Tryz.prog 17 #[v] w fun e w' => e = .returned (.bool (rightR r)) ∧ Below w.heap.size w w' := by
  obtain ⟨a, n, c, b, m, d, rfl, h1, h2⟩ := h
  have hn' := h1.1.1
  have hm' := h2.1.1
  have BX := resbox w r.inh (.slice a n c) (.slice b m d)
  have bw := boxR_below w (.cells (resC r.inh (.slice a n c) (.slice b m d)) 25)
  have S1 := Lib.hid (h1.below bw)
  have R1 := Lib.hid (h2.below bw)
  have BW := Lib.hid bw
  clear bw
  generalize hw2 : w.alloc (.cells (resC r.inh (.slice a n c) (.slice b m d)) 25) = w2 at *
  obtain ⟨g, hg⟩ : ∃ g, w.heap.size = g := ⟨_, rfl⟩
  rw [hg] at BX
  have c0 : w2.cell? ⟨g, 0, none⟩ = some (.bool r.inh) := Blk.cell BX 0
  have c1 : w2.cell? ⟨g, 1, none⟩ = some (.slice a n c) := Blk.cell BX 1
  have c2 : w2.cell? ⟨g, 2, none⟩ = some (.slice b m d) := Blk.cell BX 2
  have XB := Lib.hid BX
  have ER : Hid (rightR r = if r.inh = true then decide (n = 0) && decide (m = 0) else if n + m = 0 ∨ 400 < n ∨ 400 < m then false else eqLS r.sp (joinS r.sp) && eqLR r.ns (joinZ r.ns)) := Lib.hid (by unfold rightR; rw [hn', hm', eqLS_turned r.sp, show eqLR r.ns (joinZ r.ns) = eqLR (joinZ r.ns) r.ns from decide_eq_decide.2 ⟨Eq.symm, Eq.symm⟩])
  have CJ := Lib.hid (fun W (h : SpArg W a n c r.sp) => join_any a n c r.sp W h.1 h.2 (by omega))
  have CS := Lib.hid (fun (A : Option Addr) (k ca : Nat) (X : List SpanZ) (W : World) (h : SpArg W A k ca X) (hk : k ≤ 90000) (g : SpArg W a n c r.sp) => equalS_any a A n c k ca r.sp X W g.1 (by omega) h.1 hk)
  have CI := Lib.hid (fun W (h : RgArg W b m d r.ns) (hm : m ≤ 10000) => pkJoin_of pkSorted b m d r.ns W h hm)
  have CT := Lib.hid (fun (A : Option Addr) (k ca : Nat) (X : List (Nat × Nat)) (W : World) (h : RgArg W A k ca X) (hk : k ≤ 100000) (g : RgArg W b m d r.ns) => equalR_any b A m d k ca r.ns X W g (by omega) h hk)
  have LJ : Hid ((joinS r.sp).length ≤ 90000) := Lib.hid (by have := joinS_len r.sp; omega)
  have LI : Hid ((joinZ r.ns).length ≤ 100000) := Lib.hid (by have := join_len' r.ns; omega)
  clear BX h1 h2 hn' hm'
  generalize rightR r = z at *
  generalize joinS r.sp = J at *
  generalize joinZ r.ns = I at *
  have hnm : n ≤ 40000 ∧ m ≤ 40000 := by
    have := S1.out.1.1
    have := R1.out.1.1
    omega
  obtain ⟨n4, m4⟩ := hnm
  clear hl hm
  generalize r.inh = i at *
  generalize r.sp = X at *
  generalize r.ns = Y at *
  go_enter Tryz.func17, Tryz.ntmps17
  cases i with
  | true =>
    have e := ER.out
    rw [if_pos rfl] at e
    by_cases n0 : n = 0
    · have t1 : ((n : Int) == 0) = true := by rw [beq_iff_eq]; omega
      rw [decide_eq_true n0, Bool.true_and] at e
      by_cases m0 : m = 0
      · have t2 : ((m : Int) == 0) = true := by rw [beq_iff_eq]; omega
        rw [decide_eq_true m0] at e
        have E2 := Lib.hid e
        clear e ER n0 m0
        go_wp2_with fail
        go_ret
        exact ⟨by rw [E2.out]; rfl, BW.out⟩
      · have t2 : ((m : Int) == 0) = false := by rw [beq_eq_false_iff_ne]; omega
        rw [decide_eq_false m0] at e
        have E2 := Lib.hid e
        clear e ER n0 m0
        go_wp2_with fail
        go_ret
        exact ⟨by rw [E2.out]; rfl, BW.out⟩
    · have t1 : ((n : Int) == 0) = false := by rw [beq_eq_false_iff_ne]; omega
      rw [decide_eq_false n0, Bool.false_and] at e
      have E2 := Lib.hid e
      clear e ER n0
      go_wp2_with fail
      go_ret
      exact ⟨by rw [E2.out]; rfl, BW.out⟩
  | false =>
    have e := ER.out
    rw [if_neg (by decide)] at e
    have q1 : IntKind.i64.wrap ((n : Int) + (m : Int)) = (n : Int) + (m : Int) := IntWalk.i64_in _ (by omega)
    go_upto_region 3 with fail
    clear c0 c1 c2
    replace XB : Hid (Blk w2.drew g 25 (resC false (.slice a n c) (.slice b m d))) := XB
    replace S1 : Hid (SpArg w2.drew a n c X) := Lib.hid (S1.out.below (drewN_below _ 1))
    replace R1 : Hid (RgArg w2.drew b m d Y) := Lib.hid (R1.out.below (drewN_below _ 1))
    replace BW : Hid (Below w.heap.size w w2.drew) := Lib.hid (Below.step BW.out (drewN_below _ 1))
    clear hw2
    refine wp_region_ord Ext Ext.refl (fun _ _ _ => Ext.trans) ((0, false) :: (1, false) :: (2, false) :: (3, false) :: (4, false) :: (5, false) :: (6, false) :: (7, false) :: (8, false) :: (9, false) :: (10, false) :: (11, false) :: (12, false) :: (13, false) :: (14, false) :: (15, false) :: (16, false) :: (17, false) :: (18, false) :: (19, true) :: (20, true) :: (21, false) :: (22, false) :: (23, false) :: (24, false) :: (25, false) :: (26, false) :: (27, false) :: (28, false) :: (29, false) :: (30, false) :: (31, false) :: (32, false) :: (33, true) :: (34, true) :: (35, false) :: (36, false) :: []) (by kernel_rfl) (by kernel_rfl) rfl (by kernel_rfl) (fun _ _ _ _ _ h => h) ?_
    change wpOrd _ _ _ _ _ _ (w2.drew)
    generalize w2.drew = w3 at *
    by_cases h0 : n + m = 0
    · have t1 : decide ((0 : Int) < (n : Int) + (m : Int)) = false := decide_eq_false (by omega)
      have t1b : decide (0 < n + m) = false := decide_eq_false (by omega)
      rw [if_pos (.inl h0)] at e
      have E2 := Lib.hid e
      clear e ER h0 CJ CS CI CT
      repeat (first
        | (refine ord_skip rfl (by rfl) ?_; simp only [Act.put, List.setIfInBounds_toArray, List.set_cons_zero, List.set_cons_succ])
        | (refine ord_take _ rfl (by rfl) (fun W hW => yields_spans (.tmp 15) rfl g 1 (.slice a n c) rfl (Blk.cell (XB.out.below hW XB.out.lt) 1)) ?_; simp only [Act.put, List.setIfInBounds_toArray, List.set_cons_zero, List.set_cons_succ])
        | (refine ord_take _ rfl (by rfl) (fun W hW => yields_spans (.tmp 24) rfl g 1 (.slice a n c) rfl (Blk.cell (XB.out.below hW XB.out.lt) 1)) ?_; simp only [Act.put, List.setIfInBounds_toArray, List.set_cons_zero, List.set_cons_succ])
        | (refine ord_take _ rfl (by rfl) (fun W hW => yields_spans (.tmp 30) rfl g 1 (.slice a n c) rfl (Blk.cell (XB.out.below hW XB.out.lt) 1)) ?_; simp only [Act.put, List.setIfInBounds_toArray, List.set_cons_zero, List.set_cons_succ])
        | (refine ord_take _ rfl (by rfl) (fun W hW => yields_spans (.tmp 32) rfl g 1 (.slice a n c) rfl (Blk.cell (XB.out.below hW XB.out.lt) 1)) ?_; simp only [Act.put, List.setIfInBounds_toArray, List.set_cons_zero, List.set_cons_succ])
        | (refine ord_take _ rfl (by rfl) (fun W hW => yields_ranges (.tmp 18) rfl g 2 (.slice b m d) rfl (Blk.cell (XB.out.below hW XB.out.lt) 2)) ?_; simp only [Act.put, List.setIfInBounds_toArray, List.set_cons_zero, List.set_cons_succ])
        | (refine ord_take _ rfl (by rfl) (fun W hW => yields_ranges (.tmp 38) rfl g 2 (.slice b m d) rfl (Blk.cell (XB.out.below hW XB.out.lt) 2)) ?_; simp only [Act.put, List.setIfInBounds_toArray, List.set_cons_zero, List.set_cons_succ])
        | (refine ord_take _ rfl (by rfl) (fun W hW => yields_ranges (.tmp 44) rfl g 2 (.slice b m d) rfl (Blk.cell (XB.out.below hW XB.out.lt) 2)) ?_; simp only [Act.put, List.setIfInBounds_toArray, List.set_cons_zero, List.set_cons_succ])
        | (refine ord_take _ rfl (by rfl) (fun W hW => yields_ranges (.tmp 46) rfl g 2 (.slice b m d) rfl (Blk.cell (XB.out.below hW XB.out.lt) 2)) ?_; simp only [Act.put, List.setIfInBounds_toArray, List.set_cons_zero, List.set_cons_succ])
        | (refine ord_take _ rfl (by rfl) (fun W hW => by go_simp; first | done | rfl) ?_; simp only [Act.put, List.setIfInBounds_toArray, List.set_cons_zero, List.set_cons_succ]))
      refine ord_end ?_
      go_wp2_with fail
      go_ret
      exact ⟨by rw [E2.out]; rfl, BW.out⟩
    · have t1 : decide ((0 : Int) < (n : Int) + (m : Int)) = true := decide_eq_true (by omega)
      have t1b : decide (0 < n + m) = true := decide_eq_true (by omega)
      by_cases h1 : 400 < n
      · have t2 : decide ((n : Int) ≤ 400) = false := decide_eq_false (by omega)
        have t2b : decide (n ≤ 400) = false := decide_eq_false (by omega)
        rw [if_pos (.inr (.inl h1))] at e
        have E2 := Lib.hid e
        clear e ER h0 h1 CJ CS CI CT
        repeat (first
          | (refine ord_skip rfl (by rfl) ?_; simp only [Act.put, List.setIfInBounds_toArray, List.set_cons_zero, List.set_cons_succ])
          | (refine ord_take _ rfl (by rfl) (fun W hW => yields_spans (.tmp 15) rfl g 1 (.slice a n c) rfl (Blk.cell (XB.out.below hW XB.out.lt) 1)) ?_; simp only [Act.put, List.setIfInBounds_toArray, List.set_cons_zero, List.set_cons_succ])
          | (refine ord_take _ rfl (by rfl) (fun W hW => yields_spans (.tmp 24) rfl g 1 (.slice a n c) rfl (Blk.cell (XB.out.below hW XB.out.lt) 1)) ?_; simp only [Act.put, List.setIfInBounds_toArray, List.set_cons_zero, List.set_cons_succ])
          | (refine ord_take _ rfl (by rfl) (fun W hW => yields_spans (.tmp 30) rfl g 1 (.slice a n c) rfl (Blk.cell (XB.out.below hW XB.out.lt) 1)) ?_; simp only [Act.put, List.setIfInBounds_toArray, List.set_cons_zero, List.set_cons_succ])
          | (refine ord_take _ rfl (by rfl) (fun W hW => yields_spans (.tmp 32) rfl g 1 (.slice a n c) rfl (Blk.cell (XB.out.below hW XB.out.lt) 1)) ?_; simp only [Act.put, List.setIfInBounds_toArray, List.set_cons_zero, List.set_cons_succ])
          | (refine ord_take _ rfl (by rfl) (fun W hW => yields_ranges (.tmp 18) rfl g 2 (.slice b m d) rfl (Blk.cell (XB.out.below hW XB.out.lt) 2)) ?_; simp only [Act.put, List.setIfInBounds_toArray, List.set_cons_zero, List.set_cons_succ])
          | (refine ord_take _ rfl (by rfl) (fun W hW => yields_ranges (.tmp 38) rfl g 2 (.slice b m d) rfl (Blk.cell (XB.out.below hW XB.out.lt) 2)) ?_; simp only [Act.put, List.setIfInBounds_toArray, List.set_cons_zero, List.set_cons_succ])
          | (refine ord_take _ rfl (by rfl) (fun W hW => yields_ranges (.tmp 44) rfl g 2 (.slice b m d) rfl (Blk.cell (XB.out.below hW XB.out.lt) 2)) ?_; simp only [Act.put, List.setIfInBounds_toArray, List.set_cons_zero, List.set_cons_succ])
          | (refine ord_take _ rfl (by rfl) (fun W hW => yields_ranges (.tmp 46) rfl g 2 (.slice b m d) rfl (Blk.cell (XB.out.below hW XB.out.lt) 2)) ?_; simp only [Act.put, List.setIfInBounds_toArray, List.set_cons_zero, List.set_cons_succ])
          | (refine ord_take _ rfl (by rfl) (fun W hW => by go_simp; first | done | rfl) ?_; simp only [Act.put, List.setIfInBounds_toArray, List.set_cons_zero, List.set_cons_succ]))
        refine ord_end ?_
        go_wp2_with fail
        go_ret
        exact ⟨by rw [E2.out]; rfl, BW.out⟩
      · have t2 : decide ((n : Int) ≤ 400) = true := decide_eq_true (by omega)
        have t2b : decide (n ≤ 400) = true := decide_eq_true (by omega)
        cases hs : eqLS X J with
        | false =>
          have E2 : Hid (z = false) := Lib.hid (by rw [e, hs]; split <;> rfl)
          clear e ER h0 h1 CI CT
          repeat (first
            | (refine ord_skip rfl (by rfl) ?_; simp only [Act.put, List.setIfInBounds_toArray, List.set_cons_zero, List.set_cons_succ])
            | (refine ord_take _ rfl (by rfl) (fun W hW => yields_spans (.tmp 15) rfl g 1 (.slice a n c) rfl (Blk.cell (XB.out.below hW XB.out.lt) 1)) ?_; simp only [Act.put, List.setIfInBounds_toArray, List.set_cons_zero, List.set_cons_succ])
            | (refine ord_take _ rfl (by rfl) (fun W hW => yields_spans (.tmp 24) rfl g 1 (.slice a n c) rfl (Blk.cell (XB.out.below hW XB.out.lt) 1)) ?_; simp only [Act.put, List.setIfInBounds_toArray, List.set_cons_zero, List.set_cons_succ])
            | (refine ord_take _ rfl (by rfl) (fun W hW => yields_spans (.tmp 30) rfl g 1 (.slice a n c) rfl (Blk.cell (XB.out.below hW XB.out.lt) 1)) ?_; simp only [Act.put, List.setIfInBounds_toArray, List.set_cons_zero, List.set_cons_succ])
            | (refine ord_take _ rfl (by rfl) (fun W hW => yields_spans (.tmp 32) rfl g 1 (.slice a n c) rfl (Blk.cell (XB.out.below hW XB.out.lt) 1)) ?_; simp only [Act.put, List.setIfInBounds_toArray, List.set_cons_zero, List.set_cons_succ])
            | (refine ord_take _ rfl (by rfl) (fun W hW => yields_ranges (.tmp 18) rfl g 2 (.slice b m d) rfl (Blk.cell (XB.out.below hW XB.out.lt) 2)) ?_; simp only [Act.put, List.setIfInBounds_toArray, List.set_cons_zero, List.set_cons_succ])
            | (refine ord_take _ rfl (by rfl) (fun W hW => yields_ranges (.tmp 38) rfl g 2 (.slice b m d) rfl (Blk.cell (XB.out.below hW XB.out.lt) 2)) ?_; simp only [Act.put, List.setIfInBounds_toArray, List.set_cons_zero, List.set_cons_succ])
            | (refine ord_take _ rfl (by rfl) (fun W hW => yields_ranges (.tmp 44) rfl g 2 (.slice b m d) rfl (Blk.cell (XB.out.below hW XB.out.lt) 2)) ?_; simp only [Act.put, List.setIfInBounds_toArray, List.set_cons_zero, List.set_cons_succ])
            | (refine ord_take _ rfl (by rfl) (fun W hW => yields_ranges (.tmp 46) rfl g 2 (.slice b m d) rfl (Blk.cell (XB.out.below hW XB.out.lt) 2)) ?_; simp only [Act.put, List.setIfInBounds_toArray, List.set_cons_zero, List.set_cons_succ])
            | (refine ord_take _ rfl (by rfl) (fun W hW => by go_simp; first | done | rfl) ?_; simp only [Act.put, List.setIfInBounds_toArray, List.set_cons_zero, List.set_cons_succ])
            | (refine ord_sole rfl (by rfl) (fun K1 hK1 => ?_)
               go_simp
               refine (CJ.out _ S1.out).mono ?_
               rintro e v1 ⟨V1, rfl, ho1⟩
               obtain ⟨a1, k1, rfl, hr1⟩ := ho1.arg
               have hb1 := ho1.2.1
               refine hK1 _ _ hb1 ?_
               have P1 := Lib.hid hr1
               replace S1 := Lib.hid (S1.out.below hb1)
               replace R1 := Lib.hid (R1.out.below hb1)
               replace XB := Lib.hid (XB.out.below hb1 XB.out.lt)
               replace BW := Lib.hid (Below.step BW.out hb1)
               clear hK1 K1 ho1 hr1 hb1 CJ
               try simp only [Act.put, List.setIfInBounds_toArray, List.set_cons_zero, List.set_cons_succ])
            | (refine ord_sole rfl (by rfl) (fun K1 hK1 => ?_)
               go_simp
               refine (CS.out _ _ _ _ _ P1.out LJ.out S1.out).mono ?_
               rintro e v2 ⟨rfl, hb2⟩
               refine hK1 _ _ hb2 ?_
               replace R1 := Lib.hid (R1.out.below hb2)
               replace XB := Lib.hid (XB.out.below hb2 XB.out.lt)
               replace BW := Lib.hid (Below.step BW.out hb2)
               clear hK1 K1 hb2 CS P1
               rw [hs]
               try simp only [Act.put, List.setIfInBounds_toArray, List.set_cons_zero, List.set_cons_succ]))
          refine ord_end ?_
          go_wp2_with fail
          go_ret
          exact ⟨by rw [E2.out]; rfl, BW.out⟩
        | true =>
          rw [hs, Bool.true_and] at e
          by_cases h2 : 400 < m
          · have t3 : decide ((m : Int) ≤ 400) = false := decide_eq_false (by omega)
            have t3b : decide (m ≤ 400) = false := decide_eq_false (by omega)
            rw [if_pos (.inr (.inr h2))] at e
            have E2 := Lib.hid e
            clear e ER h0 h1 h2 CI CT
            repeat (first
              | (refine ord_skip rfl (by rfl) ?_; simp only [Act.put, List.setIfInBounds_toArray, List.set_cons_zero, List.set_cons_succ])
              | (refine ord_take _ rfl (by rfl) (fun W hW => yields_spans (.tmp 15) rfl g 1 (.slice a n c) rfl (Blk.cell (XB.out.below hW XB.out.lt) 1)) ?_; simp only [Act.put, List.setIfInBounds_toArray, List.set_cons_zero, List.set_cons_succ])
              | (refine ord_take _ rfl (by rfl) (fun W hW => yields_spans (.tmp 24) rfl g 1 (.slice a n c) rfl (Blk.cell (XB.out.below hW XB.out.lt) 1)) ?_; simp only [Act.put, List.setIfInBounds_toArray, List.set_cons_zero, List.set_cons_succ])
              | (refine ord_take _ rfl (by rfl) (fun W hW => yields_spans (.tmp 30) rfl g 1 (.slice a n c) rfl (Blk.cell (XB.out.below hW XB.out.lt) 1)) ?_; simp only [Act.put, List.setIfInBounds_toArray, List.set_cons_zero, List.set_cons_succ])
              | (refine ord_take _ rfl (by rfl) (fun W hW => yields_spans (.tmp 32) rfl g 1 (.slice a n c) rfl (Blk.cell (XB.out.below hW XB.out.lt) 1)) ?_; simp only [Act.put, List.setIfInBounds_toArray, List.set_cons_zero, List.set_cons_succ])
              | (refine ord_take _ rfl (by rfl) (fun W hW => yields_ranges (.tmp 18) rfl g 2 (.slice b m d) rfl (Blk.cell (XB.out.below hW XB.out.lt) 2)) ?_; simp only [Act.put, List.setIfInBounds_toArray, List.set_cons_zero, List.set_cons_succ])
              | (refine ord_take _ rfl (by rfl) (fun W hW => yields_ranges (.tmp 38) rfl g 2 (.slice b m d) rfl (Blk.cell (XB.out.below hW XB.out.lt) 2)) ?_; simp only [Act.put, List.setIfInBounds_toArray, List.set_cons_zero, List.set_cons_succ])
              | (refine ord_take _ rfl (by rfl) (fun W hW => yields_ranges (.tmp 44) rfl g 2 (.slice b m d) rfl (Blk.cell (XB.out.below hW XB.out.lt) 2)) ?_; simp only [Act.put, List.setIfInBounds_toArray, List.set_cons_zero, List.set_cons_succ])
              | (refine ord_take _ rfl (by rfl) (fun W hW => yields_ranges (.tmp 46) rfl g 2 (.slice b m d) rfl (Blk.cell (XB.out.below hW XB.out.lt) 2)) ?_; simp only [Act.put, List.setIfInBounds_toArray, List.set_cons_zero, List.set_cons_succ])
              | (refine ord_take _ rfl (by rfl) (fun W hW => by go_simp; first | done | rfl) ?_; simp only [Act.put, List.setIfInBounds_toArray, List.set_cons_zero, List.set_cons_succ])
              | (refine ord_sole rfl (by rfl) (fun K1 hK1 => ?_)
                 go_simp
                 refine (CJ.out _ S1.out).mono ?_
                 rintro e v1 ⟨V1, rfl, ho1⟩
                 obtain ⟨a1, k1, rfl, hr1⟩ := ho1.arg
                 have hb1 := ho1.2.1
                 refine hK1 _ _ hb1 ?_
                 have P1 := Lib.hid hr1
                 replace S1 := Lib.hid (S1.out.below hb1)
                 replace R1 := Lib.hid (R1.out.below hb1)
                 replace XB := Lib.hid (XB.out.below hb1 XB.out.lt)
                 replace BW := Lib.hid (Below.step BW.out hb1)
                 clear hK1 K1 ho1 hr1 hb1 CJ
                 try simp only [Act.put, List.setIfInBounds_toArray, List.set_cons_zero, List.set_cons_succ])
              | (refine ord_sole rfl (by rfl) (fun K1 hK1 => ?_)
                 go_simp
                 refine (CS.out _ _ _ _ _ P1.out LJ.out S1.out).mono ?_
                 rintro e v2 ⟨rfl, hb2⟩
                 refine hK1 _ _ hb2 ?_
                 replace R1 := Lib.hid (R1.out.below hb2)
                 replace XB := Lib.hid (XB.out.below hb2 XB.out.lt)
                 replace BW := Lib.hid (Below.step BW.out hb2)
                 clear hK1 K1 hb2 CS P1
                 rw [hs]
                 try simp only [Act.put, List.setIfInBounds_toArray, List.set_cons_zero, List.set_cons_succ]))
            refine ord_end ?_
            go_wp2_with fail
            go_ret
            exact ⟨by rw [E2.out]; rfl, BW.out⟩
          · have t3 : decide ((m : Int) ≤ 400) = true := decide_eq_true (by omega)
            have t3b : decide (m ≤ 400) = true := decide_eq_true (by omega)
            rw [if_neg (by omega)] at e
            have E2 := Lib.hid e
            clear e ER h0
            repeat (first
              | (refine ord_skip rfl (by rfl) ?_; simp only [Act.put, List.setIfInBounds_toArray, List.set_cons_zero, List.set_cons_succ])
              | (refine ord_take _ rfl (by rfl) (fun W hW => yields_spans (.tmp 15) rfl g 1 (.slice a n c) rfl (Blk.cell (XB.out.below hW XB.out.lt) 1)) ?_; simp only [Act.put, List.setIfInBounds_toArray, List.set_cons_zero, List.set_cons_succ])
              | (refine ord_take _ rfl (by rfl) (fun W hW => yields_spans (.tmp 24) rfl g 1 (.slice a n c) rfl (Blk.cell (XB.out.below hW XB.out.lt) 1)) ?_; simp only [Act.put, List.setIfInBounds_toArray, List.set_cons_zero, List.set_cons_succ])
              | (refine ord_take _ rfl (by rfl) (fun W hW => yields_spans (.tmp 30) rfl g 1 (.slice a n c) rfl (Blk.cell (XB.out.below hW XB.out.lt) 1)) ?_; simp only [Act.put, List.setIfInBounds_toArray, List.set_cons_zero, List.set_cons_succ])
              | (refine ord_take _ rfl (by rfl) (fun W hW => yields_spans (.tmp 32) rfl g 1 (.slice a n c) rfl (Blk.cell (XB.out.below hW XB.out.lt) 1)) ?_; simp only [Act.put, List.setIfInBounds_toArray, List.set_cons_zero, List.set_cons_succ])
              | (refine ord_take _ rfl (by rfl) (fun W hW => yields_ranges (.tmp 18) rfl g 2 (.slice b m d) rfl (Blk.cell (XB.out.below hW XB.out.lt) 2)) ?_; simp only [Act.put, List.setIfInBounds_toArray, List.set_cons_zero, List.set_cons_succ])
              | (refine ord_take _ rfl (by rfl) (fun W hW => yields_ranges (.tmp 38) rfl g 2 (.slice b m d) rfl (Blk.cell (XB.out.below hW XB.out.lt) 2)) ?_; simp only [Act.put, List.setIfInBounds_toArray, List.set_cons_zero, List.set_cons_succ])
              | (refine ord_take _ rfl (by rfl) (fun W hW => yields_ranges (.tmp 44) rfl g 2 (.slice b m d) rfl (Blk.cell (XB.out.below hW XB.out.lt) 2)) ?_; simp only [Act.put, List.setIfInBounds_toArray, List.set_cons_zero, List.set_cons_succ])
              | (refine ord_take _ rfl (by rfl) (fun W hW => yields_ranges (.tmp 46) rfl g 2 (.slice b m d) rfl (Blk.cell (XB.out.below hW XB.out.lt) 2)) ?_; simp only [Act.put, List.setIfInBounds_toArray, List.set_cons_zero, List.set_cons_succ])
              | (refine ord_take _ rfl (by rfl) (fun W hW => by go_simp; first | done | rfl) ?_; simp only [Act.put, List.setIfInBounds_toArray, List.set_cons_zero, List.set_cons_succ])
              | (refine ord_sole rfl (by rfl) (fun K1 hK1 => ?_)
                 go_simp
                 refine (CJ.out _ S1.out).mono ?_
                 rintro e v1 ⟨V1, rfl, ho1⟩
                 obtain ⟨a1, k1, rfl, hr1⟩ := ho1.arg
                 have hb1 := ho1.2.1
                 refine hK1 _ _ hb1 ?_
                 have P1 := Lib.hid hr1
                 replace S1 := Lib.hid (S1.out.below hb1)
                 replace R1 := Lib.hid (R1.out.below hb1)
                 replace XB := Lib.hid (XB.out.below hb1 XB.out.lt)
                 replace BW := Lib.hid (Below.step BW.out hb1)
                 clear hK1 K1 ho1 hr1 hb1 CJ
                 try simp only [Act.put, List.setIfInBounds_toArray, List.set_cons_zero, List.set_cons_succ])
              | (refine ord_sole rfl (by rfl) (fun K1 hK1 => ?_)
                 go_simp
                 refine (CS.out _ _ _ _ _ P1.out LJ.out S1.out).mono ?_
                 rintro e v2 ⟨rfl, hb2⟩
                 refine hK1 _ _ hb2 ?_
                 replace R1 := Lib.hid (R1.out.below hb2)
                 replace XB := Lib.hid (XB.out.below hb2 XB.out.lt)
                 replace BW := Lib.hid (Below.step BW.out hb2)
                 clear hK1 K1 hb2 CS P1
                 rw [hs]
                 try simp only [Act.put, List.setIfInBounds_toArray, List.set_cons_zero, List.set_cons_succ])
              | (refine ord_sole rfl (by rfl) (fun K1 hK1 => ?_)
                 go_simp
                 refine (CI.out _ R1.out (by omega)).mono ?_
                 rintro e v3 ⟨V3, rfl, ho3⟩
                 obtain ⟨a3, k3, rfl, hr3⟩ := ho3.arg
                 have hb3 := ho3.2.1
                 refine hK1 _ _ hb3 ?_
                 have P3 := Lib.hid hr3
                 replace R1 := Lib.hid (R1.out.below hb3)
                 replace XB := Lib.hid (XB.out.below hb3 XB.out.lt)
                 replace BW := Lib.hid (Below.step BW.out hb3)
                 clear hK1 K1 ho3 hr3 hb3 CI
                 try simp only [Act.put, List.setIfInBounds_toArray, List.set_cons_zero, List.set_cons_succ])
              | (refine ord_sole rfl (by rfl) (fun K1 hK1 => ?_)
                 go_simp
                 refine (CT.out _ _ _ _ _ P3.out LI.out R1.out).mono ?_
                 rintro e v4 ⟨rfl, hb4⟩
                 refine hK1 _ _ hb4 ?_
                 replace BW := Lib.hid (Below.step BW.out hb4)
                 clear hK1 K1 hb4 CT P3
                 try simp only [Act.put, List.setIfInBounds_toArray, List.set_cons_zero, List.set_cons_succ]))
            refine ord_end ?_
            go_wp2_with fail
            go_ret
            exact ⟨by rw [E2.out]; rfl, BW.out⟩
end Go.Proofs.YtlmndmfebgaidaaGreatDoor
namespace Go.Proofs.YtlmndmfebgaidaaGreatDoor
open Go.RowKit
set_option linter.unusedVariables false
set_option maxRecDepth 100000
def upd {α : Type} (f : Nat → α) (k : Nat) (v : α) : Nat → α := fun j => if j = k then v else f j
theorem upd_at {α : Type} (f : Nat → α) (k : Nat) (v : α) : upd f k v k = v := if_pos rfl
theorem upd_far {α : Type} (f : Nat → α) {j k : Nat} (h : j ≠ k) (v : α) : upd f k v j = f j := if_neg h
def tabC (X : Nat → Value) : Array Value := #[.int .i64 48, .slice none 0 0, X 0, .int .i64 48, .slice none 0 0, X 1, .int .i64 48, .slice none 0 0, X 2]
def zero2 : Array Value := #[.int .i64 0, .slice none 0 0, .slice none 0 0, .int .i64 0, .slice none 0 0, .slice none 0 0]
def FreeB (w : World) (V : Nat → Value) (b : Nat) : Prop := w.heap.size < b ∧ ∀ k, k < 3 → (V k).ownBlock ≠ some b
structure Kids3 (w u : World) (X V : Nat → Value) (ks : Nat → List T) (ns : List (T × Value)) (hs : List Nat) : Prop where
  bel : Below w.heap.size w u
  box : Blk u w.heap.size 29 (tabC X)
  row : ∀ k, k < 3 → ∃ xs : List Value, u.ownsRow (w.heap.size + 1) 29 3 (V k) (ks k).length xs ∧ ∀ i (h : i < (ks k).length), ∃ v0 v1 v2 : Value, xs[i * 3]? = some v0 ∧ xs[i * 3 + 1]? = some v1 ∧ xs[i * 3 + 2]? = some v2 ∧ ((ks k)[i]).InP (FreeB w V) u (.agg #[v0, v1, v2])
  apart : ∀ j k, j < 3 → k < 3 → j ≠ k → ∀ b, (V j).ownBlock = some b → (V k).ownBlock ≠ some b
  nodes : ∀ p ∈ ns, p.1.InP (FreeB w V) u p.2
  zer : ∀ H ∈ hs, Blk u H 29 zero2 ∧ FreeB w V H
def Still (B t : Nat) (V : Nat → Value) (a b : World) : Prop := a.heap.size ≤ b.heap.size ∧ ∀ c, c < B → c ≠ t → (∀ k, k < 3 → (V k).ownBlock ≠ some c) → b.heap[c]? = a.heap[c]?
theorem Still.refl (B t : Nat) (V : Nat → Value) (a : World) : Still B t V a a := ⟨Nat.le_refl _, fun _ _ _ _ => rfl⟩
theorem Still.trans {B t : Nat} {V : Nat → Value} (a b c : World) (h : Still B t V a b) (k : Still B t V b c) : Still B t V a c := ⟨Nat.le_trans h.1 k.1, fun x h1 h2 h3 => (k.2 x h1 h2 h3).trans (h.2 x h1 h2 h3)⟩
theorem Still.below {B t : Nat} {V : Nat → Value} {a b : World} (h : Below a.heap.size a b) (hB : B ≤ a.heap.size) : Still B t V a b := ⟨h.size, fun x h1 _ _ => h.block x (by omega)⟩
theorem Still.far {B t g k : Nat} {V : Nat → Value} {a b : World} (hf : ∀ x, x ≠ g → b.heap[x]? = a.heap[x]?) (hs : b.heap.size = a.heap.size) (hk : k < 3) (hg : (V k).ownBlock = some g ∨ B ≤ g) : Still B t V a b :=
  ⟨Nat.le_of_eq hs.symm, fun x h1 _ h3 => hf x (fun e => by
    subst e
    rcases hg with h | h
    · exact h3 k hk h
    · omega)⟩
theorem Still.tab {B t : Nat} {V : Nat → Value} {a b : World} (hf : ∀ x, x ≠ t → b.heap[x]? = a.heap[x]?) (hs : b.heap.size = a.heap.size) : Still B t V a b := ⟨Nat.le_of_eq hs.symm, fun x _ h2 _ => hf x h2⟩
theorem Blk.still {B t g : Nat} {V : Nat → Value} {a b : World} {ty : TypeId} {cs : Array Value} (h : Blk a g ty cs) (hs : Still B t V a b) (h1 : g < B) (h2 : g ≠ t) (h3 : ∀ k, k < 3 → (V k).ownBlock ≠ some g) : Blk b g ty cs := (hs.2 g h1 h2 h3).trans h
section
variable {w u : World} {X V : Nat → Value} {ks : Nat → List T} {ns : List (T × Value)} {hs : List Nat}
theorem Kids3.lt (h : Kids3 w u X V ks ns hs) {k : Nat} (hk : k < 3) {b : Nat} (e : (V k).ownBlock = some b) : w.heap.size + 1 ≤ b ∧ b < u.heap.size := by
  obtain ⟨xs, h1, _⟩ := h.row k hk
  exact h1.lt b e
theorem Kids3.over (h : Kids3 w u X V ks ns hs) {b : Nat} (hb : u.heap.size ≤ b) : FreeB w V b :=
  ⟨by have := h.box.lt; omega, fun k hk e => by have := (h.lt hk e).2; omega⟩
theorem Kids3.below (h : Kids3 w u X V ks ns hs) {u' : World} (hb : Below u.heap.size u u') : Kids3 w u' X V ks ns hs := by
  refine ⟨Below.step h.bel hb, h.box.below hb h.box.lt, fun k hk => ?_, h.apart, fun p hp => T.InP.below hb (fun _ h => h) _ (h.nodes p hp), fun H hH => ⟨(h.zer H hH).1.below hb (h.zer H hH).1.lt, (h.zer H hH).2⟩⟩
  obtain ⟨xs, h1, h2⟩ := h.row k hk
  refine ⟨xs, ⟨h1.1, ?_⟩, fun i hi => ?_⟩
  · rcases h1.2 with h' | ⟨g, cap, cur, e, a1, a2, a3⟩
    · exact .inl h'
    · exact .inr ⟨g, cap, cur, e, a1, (hb.block g (Array.getElem?_eq_some_iff.1 a2).1).trans a2, a3⟩
  · obtain ⟨v0, v1, v2, e0, e1, e2, hin⟩ := h2 i hi
    exact ⟨v0, v1, v2, e0, e1, e2, T.InP.below hb (fun _ h => h) _ hin⟩
theorem Kids3.node (h : Kids3 w u X V ks ns hs) {u' : World} (hb : Below u.heap.size u u') {t : T} {v : Value} (hin : t.InP (u.heap.size ≤ ·) u' v) : Kids3 w u' X V ks (ns ++ [(t, v)]) hs := by
  have k := h.below hb
  refine ⟨k.bel, k.box, k.row, k.apart, fun p hp => ?_, k.zer⟩
  rcases List.mem_append.1 hp with hp | hp
  · exact k.nodes p hp
  · obtain rfl : p = (t, v) := by simpa using hp
    exact T.InP.keep (fun b _ hP => ⟨h.over hP, rfl⟩) (Nat.le_refl _) _ hin
theorem Kids3.zero (h : Kids3 w u X V ks ns hs) : Kids3 w (u.alloc (.cells zero2 29)) X V ks ns (u.heap.size :: hs) := by
  have k := h.below (box_below u (.cells zero2 29))
  refine ⟨k.bel, k.box, k.row, k.apart, k.nodes, fun H hH => ?_⟩
  rcases List.mem_cons.1 hH with rfl | hH
  · exact ⟨Blk.new _ _ _, h.over (Nat.le_refl _)⟩
  · exact k.zer H hH
theorem zero_in (P : Nat → Prop) (w : World) : zeroT.InP P w (.agg #[.int .i64 0, .slice none 0 0, .slice none 0 0]) := by
  unfold zeroT T.InP
  exact ⟨none, 0, 0, none, 0, 0, rfl, rfl, Row.nil _ _, Nat.zero_le _, fun _ => rfl, rfl, Nat.zero_le _, fun h => absurd h (by omega), fun h => absurd h (by omega)⟩
theorem op_kids_append {o : Oper} {a : Act} {K : Act → World → Prop} {Q : Exit → Act → World → Prop} (h : Kids3 w u X V ks ns hs) (s x : Operand) (k : Nat) (hk : k < 3) (hop : o.op = .call { callee := .builtin .append, args := #[s, x], argTypes := #[27, 27] })
    (hs' : a.eval s = V k) (H : Nat) (hH : H ∈ hs) (hx : a.eval x = .slice (some ⟨H, 0, none⟩) 2 2) (hl : (ks k).length + 2 ≤ 100000) (n : Nat) (hn : (ks k).length = n)
    (hK : ∀ g c u', Kids3 w u' X (upd V k (.slice (some ⟨g, 0, none⟩) (n + 2) c)) (upd ks k (ks k ++ [zeroT, zeroT])) ns hs → ((V k).ownBlock = some g ∨ u.heap.size ≤ g) → (∀ B, B ≤ u.heap.size → Still B w.heap.size V u u') → K (a.put o.dst (.slice (some ⟨g, 0, none⟩) (n + 2) c)) u') : o.wp Tryz.prog a u K Q := by
  subst hn
  obtain ⟨i0, hi5, hz0, hz1, hz2⟩ := info_parts Tryz.infoNode
  obtain ⟨xs, hown, hks⟩ := h.row k hk
  obtain ⟨hZ, hF⟩ := h.zer H hH
  have hsz := h.box.lt
  obtain ⟨V', u', hr, h1, hg1, _, hat⟩ := run_append_own_at (P := Tryz.prog) u (w.heap.size + 1) 27 o.type 29 i0 _ 3 56 Tryz.underlying27 hi5 hz0 hz1 hz2 rfl (by decide) (V k) (ks k).length xs hown ⟨H, 0, none⟩ 2 2 zero2.toList rfl (fun j v hv => by
    rw [Addr.add_lit, Nat.zero_add, Blk.cell hZ j]
    rw [← hv]
    exact (Array.getElem?_toList (xs := zero2)).symm) (fun v hv => by
    simp only [zero2, List.mem_cons, List.not_mem_nil, or_false] at hv
    rcases hv with rfl | rfl | rfl | rfl | rfl | rfl <;> rfl) (by unfold maxLen; omega) (by omega) (by omega)
  have hlen : (ks k ++ [zeroT, zeroT]).length = (ks k).length + 2 := by simp
  obtain ⟨g, c, hV⟩ : ∃ g c, V' = .slice (some ⟨g, 0, none⟩) ((ks k).length + 2) c := by
    rcases h1.2 with ⟨_, h0⟩ | ⟨g, cap, cur, e, _⟩
    · omega
    · exact ⟨g, cap, e⟩
  subst hV
  have hob : (Value.slice (some ⟨g, 0, none⟩) ((ks k).length + 2) c).ownBlock = some g := rfl
  have hkeep : ∀ b, b < u.heap.size → (V k).ownBlock ≠ some b → u'.heap[b]? = u.heap[b]? := fun b hb hne => hg1.block b hb (fun e => hne e.symm)
  have hsz2 := hg1.size
  rw [hob] at hat
  have hAp : ∀ b, b < u.heap.size → FreeB w V b → FreeB w (upd V k (.slice (some ⟨g, 0, none⟩) ((ks k).length + 2) c)) b ∧ u'.heap[b]? = u.heap[b]? := by
    intro b hb hp
    refine ⟨⟨hp.1, fun j hj => ?_⟩, hkeep b hb (hp.2 k hk)⟩
    rcases Nat.decEq j k with hne | rfl
    · rw [upd_far V hne]
      exact hp.2 j hj
    · rw [upd_at, hob]
      rcases hat with h' | h'
      · rw [h']
        exact hp.2 j hj
      · rw [h']
        intro e
        injection e with e
        omega
  refine op_of_run (.slice (some ⟨g, 0, none⟩) ((ks k).length + 2) c) u' ?_ (hK g c u' ⟨?_, ?_, fun j hj => ?_, fun i j hi hj hij b e => ?_, fun p hp => T.InP.keep hAp hsz2 _ (h.nodes p hp), fun H' hH' => ?_⟩ ?_ (fun B hB => ⟨hsz2, fun x h1 h2 h3 => hkeep x (by omega) (h3 k hk)⟩))
  · unfold execOp
    simp only [hop, resolve, invoke, builtin, Sem.run_bind, Sem.run_pure, Result.andThen_ok, List.map_toArray, List.map_cons, List.map_nil, hs', hx, hr]
  · exact h.bel.grown hg1 h.bel.size (fun b e => by have := (h.lt hk e).1; omega)
  · exact (hkeep _ hsz (fun e => by have := (h.lt hk e).1; omega)).trans h.box
  · rcases Nat.decEq j k with hne | rfl
    · obtain ⟨ys, g1, g2⟩ := h.row j hj
      rw [upd_far V hne, upd_far ks hne]
      refine ⟨ys, g1.kept hg1 ?_, fun i hi => ?_⟩
      · rcases hb : (V j).ownBlock with _ | b
        · exact .inl rfl
        · exact .inr (fun e => h.apart j k hj hk hne b hb e.symm)
      · obtain ⟨v0, v1, v2, e0, e1, e2, hin⟩ := g2 i hi
        exact ⟨v0, v1, v2, e0, e1, e2, T.InP.keep hAp hsz2 _ hin⟩
    · rw [upd_at, upd_at]
      refine ⟨xs ++ zero2.toList, by rw [hlen]; exact h1, fun i hi => ?_⟩
      have hi' := hi
      rw [hlen] at hi'
      have hxl : xs.length = (ks j).length * 3 := hown.1
      rcases Nat.lt_or_ge i (ks j).length with hlt | hge
      · obtain ⟨v0, v1, v2, e0, e1, e2, hin⟩ := hks i hlt
        refine ⟨v0, v1, v2, ?_, ?_, ?_, ?_⟩
        · rw [List.getElem?_append_left (by omega)]; exact e0
        · rw [List.getElem?_append_left (by omega)]; exact e1
        · rw [List.getElem?_append_left (by omega)]; exact e2
        · rw [List.getElem_append_left hlt]
          exact T.InP.keep hAp hsz2 _ hin
      · have ez : (ks j ++ [zeroT, zeroT])[i]'(by omega) = zeroT := by
          rw [List.getElem_append_right hge]
          rcases (show i - (ks j).length = 0 ∨ i - (ks j).length = 1 by omega) with e | e <;> simp [e]
        rw [ez]
        refine ⟨.int .i64 0, .slice none 0 0, .slice none 0 0, ?_, ?_, ?_, zero_in _ _⟩
        · rw [List.getElem?_append_right (by omega)]
          rcases (show i * 3 - xs.length = 0 ∨ i * 3 - xs.length = 3 by omega) with e | e <;> rw [e] <;> rfl
        · rw [List.getElem?_append_right (by omega)]
          rcases (show i * 3 + 1 - xs.length = 1 ∨ i * 3 + 1 - xs.length = 4 by omega) with e | e <;> rw [e] <;> rfl
        · rw [List.getElem?_append_right (by omega)]
          rcases (show i * 3 + 2 - xs.length = 2 ∨ i * 3 + 2 - xs.length = 5 by omega) with e | e <;> rw [e] <;> rfl
  · rcases Nat.decEq i k with hik | rfl
    · rw [upd_far V hik] at e
      rcases Nat.decEq j k with hjk | rfl
      · rw [upd_far V hjk]
        exact h.apart i j hi hj hij b e
      · rw [upd_at, hob]
        rcases hat with h' | h'
        · rw [h']
          exact h.apart i j hi hj hij b e
        · rw [h']
          intro e2
          injection e2 with e2
          have := (h.lt hi e).2
          omega
    · rw [upd_at, hob] at e
      rw [upd_far V (Ne.symm hij)]
      intro e2
      rcases hat with h' | h'
      · exact h.apart j i hj hi (Ne.symm hij) b e2 (h' ▸ e)
      · rw [h'] at e
        injection e with e
        have := (h.lt hj e2).2
        omega
  · obtain ⟨z1, z2⟩ := h.zer H' hH'
    obtain ⟨z3, z4⟩ := hAp H' z1.lt z2
    exact ⟨z4.trans z1, z3⟩
  · rcases hat with h' | h'
    · exact .inl h'.symm
    · injection h' with h'
      exact .inr (by omega)
theorem op_kids_set {o : Oper} {a : Act} {K : Act → World → Prop} {Q : Exit → Act → World → Prop} (h : Kids3 w u X V ks ns hs) (x y : Operand) (k : Nat) (hk : k < 3) (ho : o.op = .store 29 x y) (hdst : o.dst = none)
    (g n c i off : Nat) (hV : V k = .slice (some ⟨g, 0, none⟩) n c) (hn : n = (ks k).length) (hi : i < (ks k).length) (hoff : off = i * 3) (t : T) (v : Value) (hx : a.eval x = .pointer (some ⟨g, off, none⟩)) (hy : a.eval y = v) (hin : (t, v) ∈ ns)
    (hK : ∀ u', Kids3 w u' X V (upd ks k ((ks k).set i t)) ns hs → (∀ b, b ≠ g → u'.heap[b]? = u.heap[b]?) → u'.heap.size = u.heap.size → K a u') : o.wp Tryz.prog a u K Q := by
  subst hoff
  subst hn
  obtain ⟨xs, hown, hks⟩ := h.row k hk
  have hob : (V k).ownBlock = some g := by rw [hV]; rfl
  have hg := h.lt hk hob
  have hvin := h.nodes _ hin
  obtain ⟨A, n', c', K', m, d, e⟩ := hvin.form
  simp only at hvin e
  subst e
  have hxl : xs.length = (ks k).length * 3 := hown.1
  rw [hV] at hown
  have hth : u.there g (i * 3) 3 := fun j hj => ⟨by
    rw [hown.cellAt _ (by omega), List.getElem?_eq_getElem (by omega)]
    rfl, hown.frozenAt _⟩
  have hset := own_setCells [.int .i64 t.tag, .slice A n' c', .slice K' m d] (i * 3) u xs hown (by simp only [List.length_cons, List.length_nil]; omega)
  have hfar : ∀ b, b ≠ g → (u.setCells g (i * 3) [.int .i64 t.tag, .slice A n' c', .slice K' m d]).heap[b]? = u.heap[b]? := fun b hb => by
    simp only [World.setCells]
    rw [heap_setCell_other _ _ _ _ hb, heap_setCell_other _ _ _ _ hb, heap_setCell_other _ _ _ _ hb]
  have hsize : (u.setCells g (i * 3) [.int .i64 t.tag, .slice A n' c', .slice K' m d]).heap.size = u.heap.size := by simp [World.setCells]
  have hAp : ∀ b, b < u.heap.size → FreeB w V b → FreeB w V b ∧ (u.setCells g (i * 3) [.int .i64 t.tag, .slice A n' c', .slice K' m d]).heap[b]? = u.heap[b]? := fun b _ hp => ⟨hp, hfar b (fun e => hp.2 k hk (by rw [hob, e]))⟩
  have hkl : ∀ j, (upd ks k ((ks k).set i t) j).length = (ks j).length := fun j => by
    rcases Nat.decEq j k with hne | rfl
    · rw [upd_far ks hne]
    · rw [upd_at, List.length_set]
  refine wp_store_mid 29 x y ho g (i * 3) #[.int .i64 t.tag, .slice A n' c', .slice K' m d] hx hy hth (by kernel_rfl) (by simp [Value.oneCell']) ?_
  rw [hdst]
  refine hK _ ⟨?_, ?_, fun j hj => ?_, h.apart, fun p hp => T.InP.keep hAp (by rw [hsize]; exact Nat.le_refl _) _ (h.nodes p hp), fun H' hH' => ?_⟩ hfar hsize
  · exact below_setCells (by omega) _ _ _ h.bel
  · exact (hfar _ (by omega)).trans h.box
  · rcases Nat.decEq j k with hne | rfl
    · obtain ⟨ys, g1, g2⟩ := h.row j hj
      rw [upd_far ks hne]
      refine ⟨ys, ⟨g1.1, ?_⟩, fun i hi => ?_⟩
      · rcases g1.2 with h' | ⟨g', cap, cur, e, a1, a2, a3⟩
        · exact .inl h'
        · refine .inr ⟨g', cap, cur, e, a1, (hfar g' (fun e' => ?_)).trans a2, a3⟩
          exact h.apart j k hj hk hne g' (by rw [e]; rfl) (by rw [hob, e'])
      · obtain ⟨v0, v1, v2, e0, e1, e2, hin⟩ := g2 i hi
        exact ⟨v0, v1, v2, e0, e1, e2, T.InP.keep hAp (by rw [hsize]; exact Nat.le_refl _) _ hin⟩
    · rw [upd_at]
      refine ⟨_, by rw [List.length_set, hV]; exact hset, fun p hp => ?_⟩
      have hp' : p < (ks j).length := by rw [List.length_set] at hp; exact hp
      have cut : ∀ q, (xs.take (i * 3) ++ [.int .i64 t.tag, .slice A n' c', .slice K' m d] ++ xs.drop (i * 3 + 3))[q]? = if q < i * 3 then xs[q]? else if q < i * 3 + 3 then [Value.int .i64 t.tag, .slice A n' c', .slice K' m d][q - i * 3]? else xs[q]? := by
        intro q
        have tl : (xs.take (i * 3)).length = i * 3 := by rw [List.length_take]; omega
        rw [List.append_assoc]
        by_cases h1 : q < i * 3
        · rw [if_pos h1, List.getElem?_append_left (by omega), List.getElem?_take, if_pos h1]
        · rw [if_neg h1, List.getElem?_append_right (by omega), tl]
          by_cases h2 : q < i * 3 + 3
          · rw [if_pos h2, List.getElem?_append_left (by simp only [List.length_cons, List.length_nil]; omega)]
          · rw [if_neg h2, List.getElem?_append_right (by simp only [List.length_cons, List.length_nil]; omega), List.getElem?_drop]
            simp only [List.length_cons, List.length_nil]
            rw [show i * 3 + 3 + (q - i * 3 - (0 + 1 + 1 + 1)) = q by omega]
      rcases Nat.decEq p i with hne | rfl
      · obtain ⟨v0, v1, v2, e0, e1, e2, hin2⟩ := hks p hp'
        refine ⟨v0, v1, v2, ?_, ?_, ?_, ?_⟩
        · show (_ ++ xs.drop (i * 3 + 3))[_]? = _
          rw [cut, ← e0]
          split
          · rfl
          · rw [if_neg (by omega)]
        · show (_ ++ xs.drop (i * 3 + 3))[_]? = _
          rw [cut, ← e1]
          split
          · rfl
          · rw [if_neg (by omega)]
        · show (_ ++ xs.drop (i * 3 + 3))[_]? = _
          rw [cut, ← e2]
          split
          · rfl
          · rw [if_neg (by omega)]
        · rw [List.getElem_set_ne (Ne.symm hne)]
          exact T.InP.keep hAp (by rw [hsize]; exact Nat.le_refl _) _ hin2
      · refine ⟨.int .i64 t.tag, .slice A n' c', .slice K' m d, ?_, ?_, ?_, ?_⟩
        · show (_ ++ xs.drop (p * 3 + 3))[_]? = _
          rw [cut, if_neg (by omega), if_pos (by omega), Nat.sub_self]
          rfl
        · show (_ ++ xs.drop (p * 3 + 3))[_]? = _
          rw [cut, if_neg (by omega), if_pos (by omega), show p * 3 + 1 - p * 3 = 1 by omega]
          rfl
        · show (_ ++ xs.drop (p * 3 + 3))[_]? = _
          rw [cut, if_neg (by omega), if_pos (by omega), show p * 3 + 2 - p * 3 = 2 by omega]
          rfl
        · rw [List.getElem_set_self]
          exact T.InP.keep hAp (by rw [hsize]; exact Nat.le_refl _) _ hvin
  · obtain ⟨z1, z2⟩ := h.zer H' hH'
    exact ⟨(hfar H' (fun e => z2.2 k hk (by rw [hob, e]))).trans z1, z2⟩
theorem run_storeVar_cell {P : Program} (w : World) (b o : Nat) (ty : TypeId) (v : Value) (ht : w.there b o 1) (hi : (P.info? ty).map (·.size) = some 1) (hv : v.cells = #[v]) (h1 : v.oneCell' = true) : (storeVar ty ⟨b, o, none⟩ v).run P w = .ok () (w.setCell ⟨b, o, none⟩ v) := by
  have := run_storeCells_cells (P := P) b o [v] 0 w (fun j hj => by simpa using (ht j (by simpa using hj)).1) (fun j hj => by simpa using (ht j (by simpa using hj)).2)
    (fun x hx => by obtain rfl : x = v := by simpa using hx
                    exact h1)
  cases hq : P.info? ty with
  | none => simp [hq] at hi
  | some i =>
    have hs : 1 = i.size := by simp [hq] at hi; omega
    simp only [Nat.add_zero, World.setCells] at this
    simp [storeVar, sizeOf, typeInfo, hq, hv, ← hs, this]
theorem op_kids_store {o : Oper} {a : Act} {K : Act → World → Prop} {Q : Exit → Act → World → Prop} (h : Kids3 w u X V ks ns hs) (x y : Operand) (k : Nat) (hk : k < 3) (ho : o.op = .store 27 x y) (hdst : o.dst = none)
    (A : Option Addr) (n c off : Nat) (hoff : off = 3 * k + 2) (hx : a.eval x = .pointer (some ⟨w.heap.size, off, none⟩)) (hy : a.eval y = .slice A n c)
    (hK : ∀ u', Kids3 w u' (upd X k (.slice A n c)) V ks ns hs → (∀ b, b ≠ w.heap.size → u'.heap[b]? = u.heap[b]?) → u'.heap.size = u.heap.size → K a u') : o.wp Tryz.prog a u K Q := by
  subst hoff
  have hfar : ∀ b, b ≠ w.heap.size → (u.setCell ⟨w.heap.size, 3 * k + 2, none⟩ (.slice A n c)).heap[b]? = u.heap[b]? := fun b hb => heap_setCell_other _ _ _ _ hb
  have hsize : (u.setCell ⟨w.heap.size, 3 * k + 2, none⟩ (.slice A n c)).heap.size = u.heap.size := by simp
  have hAp : ∀ b, b < u.heap.size → FreeB w V b → FreeB w V b ∧ (u.setCell ⟨w.heap.size, 3 * k + 2, none⟩ (.slice A n c)).heap[b]? = u.heap[b]? := fun b _ hp => ⟨hp, hfar b (by have := hp.1; omega)⟩
  have hth : u.there w.heap.size (3 * k + 2) 1 := fun j hj => ⟨by
    rw [Blk.cell h.box, Array.getElem?_eq_getElem (by show _ < 9; omega)]
    rfl, Blk.free h.box _⟩
  refine op_of_skip _ ?_ (by
    rw [hdst]
    refine hK _ ⟨?_, ?_, fun j hj => ?_, h.apart, fun p hp => T.InP.keep hAp (by rw [hsize]; exact Nat.le_refl _) _ (h.nodes p hp), fun H' hH' => ?_⟩ hfar hsize
    · exact h.bel.setCell (p := ⟨w.heap.size, 3 * k + 2, none⟩) (Nat.le_refl _) _
    · have := Blk.set h.box (3 * k + 2) (.slice A n c)
      rw [show tabC (upd X k (.slice A n c)) = (tabC X).setIfInBounds (3 * k + 2) (.slice A n c) from by
        rcases (show k = 0 ∨ k = 1 ∨ k = 2 by omega) with rfl | rfl | rfl <;> rfl]
      exact this
    · obtain ⟨ys, g1, g2⟩ := h.row j hj
      refine ⟨ys, ⟨g1.1, ?_⟩, fun i hi => ?_⟩
      · rcases g1.2 with h' | ⟨g', cap, cur, e, a1, a2, a3⟩
        · exact .inl h'
        · exact .inr ⟨g', cap, cur, e, a1, (hfar g' (by omega)).trans a2, a3⟩
      · obtain ⟨v0, v1, v2, e0, e1, e2, hin⟩ := g2 i hi
        exact ⟨v0, v1, v2, e0, e1, e2, T.InP.keep hAp (by rw [hsize]; exact Nat.le_refl _) _ hin⟩
    · obtain ⟨z1, z2⟩ := h.zer H' hH'
      exact ⟨(hfar H' (by have := z2.1; omega)).trans z1, z2⟩)
  unfold execOp
  simp only [ho, hx, hy, Instr.storeAt, Instr.sureAddr, Sem.run_bind, Sem.run_pure, Result.andThen_ok, run_storeVar_cell (P := Tryz.prog) u w.heap.size (3 * k + 2) 27 (.slice A n c) hth (by kernel_rfl) rfl rfl]
theorem Kids3.cell (h : Kids3 w u X V ks ns hs) {k : Nat} (hk : k < 3) : u.cell? ⟨w.heap.size, 3 * k + 2, none⟩ = some (X k) := by
  rw [Blk.cell h.box]
  rcases (show k = 0 ∨ k = 1 ∨ k = 2 by omega) with rfl | rfl | rfl <;> rfl
theorem Kids3.done (h : Kids3 w u V V ks ns hs) : (T.node 48 [] [.node 48 [] (ks 0), .node 48 [] (ks 1), .node 48 [] (ks 2)]).InP (w.heap.size ≤ ·) u (.agg #[.int .i64 48, .slice none 0 0, .slice (some ⟨w.heap.size, 0, none⟩) 3 3]) := by
  have one : ∀ k, k < 3 → (T.node 48 [] (ks k)).InP (w.heap.size ≤ ·) u (.agg #[.int .i64 48, .slice none 0 0, V k]) := by
    intro k hk
    obtain ⟨xs, hown, hks⟩ := h.row k hk
    unfold T.InP
    rcases hown.2 with ⟨e, h0⟩ | ⟨g', cap, cur, e, h1, h2, h3, h4, h5⟩
    · rw [e, show ks k = [] from List.eq_nil_of_length_eq_zero h0]
      exact ⟨none, 0, 0, none, 0, 0, rfl, rfl, Row.nil _ _, Nat.zero_le _, fun _ => rfl, rfl, Nat.zero_le _, fun h => absurd h (by omega), fun h => absurd h (by omega)⟩
    · refine ⟨none, 0, 0, some ⟨g', 0, none⟩, (ks k).length, cap, by rw [e], rfl, Row.nil _ _, Nat.zero_le _, fun _ => rfl, rfl, Nat.le_trans h3 h4, fun h => absurd h (by omega), fun _ => ⟨g', 0, rfl, (Array.getElem?_eq_some_iff.1 h2).1, by show w.heap.size ≤ g'; omega, T.InPAll.of fun i hi => ?_⟩⟩
      obtain ⟨u0, u1, u2, e0, e1, e2, hin'⟩ := hks i hi
      rw [e] at hown
      refine ⟨u0, u1, u2, ?_, ?_, ?_, T.InP.keep (fun b _ hp => ⟨Nat.le_of_lt hp.1, rfl⟩) (Nat.le_refl _) _ hin'⟩
      · rw [Nat.zero_add, hown.cellAt _ (by omega)]; exact e0
      · rw [Nat.zero_add, hown.cellAt _ (by omega)]; exact e1
      · rw [Nat.zero_add, hown.cellAt _ (by omega)]; exact e2
  unfold T.InP
  refine ⟨none, 0, 0, some ⟨w.heap.size, 0, none⟩, 3, 3, rfl, rfl, Row.nil _ _, Nat.zero_le _, fun _ => rfl, rfl, by unfold maxLen; omega, fun h => absurd h (by omega), fun _ => ⟨w.heap.size, 0, rfl, h.box.lt, Nat.le_refl _, T.InPAll.of fun i hi => ?_⟩⟩
  have hc := fun j => Blk.cell h.box j
  rcases (show i = 0 ∨ i = 1 ∨ i = 2 by simp only [List.length_cons, List.length_nil] at hi; omega) with rfl | rfl | rfl
  · exact ⟨_, _, _, hc 0, hc 1, hc 2, one 0 (by omega)⟩
  · exact ⟨_, _, _, hc 3, hc 4, hc 5, one 1 (by omega)⟩
  · exact ⟨_, _, _, hc 6, hc 7, hc 8, one 2 (by omega)⟩
theorem Kids3.form (h : Kids3 w u X V ks ns hs) {k : Nat} (hk : k < 3) : ∃ A c, V k = .slice A (ks k).length c := by
  obtain ⟨xs, h1, _⟩ := h.row k hk
  rcases h1.2 with ⟨e, h0⟩ | ⟨g, cap, cur, e, _⟩
  · exact ⟨none, 0, by rw [h0]; exact e⟩
  · exact ⟨_, cap, e⟩
theorem Kids3.start (w : World) : Kids3 w (w.alloc (.cells (tabC fun _ => .slice none 0 0) 29)) (fun _ => .slice none 0 0) (fun _ => .slice none 0 0) (fun _ => []) [] [] :=
  ⟨box_below _ _, Blk.new _ _ _, fun k _ => ⟨[], World.ownsRow_nil _ _ _ _, fun i h => absurd h (by simp)⟩, (fun _ _ _ _ _ _ e => by cases e), (fun p hp => by cases hp), (fun p hp => by cases hp)⟩
theorem Kids3.closed {ks' : Nat → List T} (h : Kids3 w u X V ks ns hs) (hX : X = V) (hk : ks = ks') : Kids3 w u V V ks' [] [] := by
  subst hX
  subst hk
  exact ⟨h.bel, h.box, h.row, h.apart, (fun p hp => by cases hp), (fun p hp => by cases hp)⟩
theorem yields_nodes {o : Oper} {a : Act} {W : World} (x : Operand) (ho : o.op = .load 27 x) (g off : Nat) (v : Value) (hx : a.eval x = .pointer (some ⟨g, off, none⟩)) (hc : W.cell? ⟨g, off, none⟩ = some v) : (execOp a.eval o).run Tryz.prog W = .ok (.value v) W := by
  have u3 := Tryz.underlying27
  unfold execOp
  simp only [ho, hx]
  go_simp
theorem op_kids_load {o : Oper} {a : Act} {K : Act → World → Prop} {Q : Exit → Act → World → Prop} (h : Kids3 w u X V ks ns hs) (x : Operand) (ho : o.op = .load 27 x) (k : Nat) (hk : k < 3) (off : Nat) (hoff : off = 3 * k + 2) (hx : a.eval x = .pointer (some ⟨w.heap.size, off, none⟩)) (v : Value) (hv : X k = v)
    (hK : K (a.put o.dst v) u) : o.wp Tryz.prog a u K Q := by
  subst hoff
  subst hv
  exact op_of_run _ _ (yields_nodes x ho _ _ _ hx (h.cell hk)) hK
theorem built_zero2 : Tryz.prog.builtSlice 29 2 [(0, .agg #[.int .i64 0, .slice none 0 0, .slice none 0 0]), (1, .agg #[.int .i64 0, .slice none 0 0, .slice none 0 0])] = some zero2 := by kernel_rfl
theorem op_kids_zero {o : Oper} {a : Act} {K : Act → World → Prop} {Q : Exit → Act → World → Prop} (h : Kids3 w u X V ks ns hs) (parts : Array (Nat × Operand)) (ho : o.op = .buildSlice 27 2 parts) (hps : (parts.map fun (i, x) => (i, a.eval x)).toList = [(0, .agg #[.int .i64 0, .slice none 0 0, .slice none 0 0]), (1, .agg #[.int .i64 0, .slice none 0 0, .slice none 0 0])])
    (hK : ∀ H u', Kids3 w u' X V ks ns (H :: hs) → Below u.heap.size u u' → K (a.put o.dst (.slice (some ⟨H, 0, none⟩) 2 2)) u') : o.wp Tryz.prog a u K Q :=
  op_buildSlice 27 29 2 parts ho Tryz.underlying27 _ _ built_zero2 hps (hK _ _ h.zero (box_below _ _))
theorem yields_nodeAt {o : Oper} {a : Act} {W : World} (x y : Operand) (ho : o.op = .indexAddr 27 x y) (g m c : Nat) (hx : a.eval x = .slice (some ⟨g, 0, none⟩) m c) (z : Int) (hy : a.eval y = .int .i64 z) (i : Nat) (hz : z = (i : Int)) (hi : i < m) : (execOp a.eval o).run Tryz.prog W = .ok (.value (.pointer (some ⟨g, i * 3, none⟩))) W := by
  subst hz
  have u3 := Tryz.underlying27
  have i0 : (0 : Int) ≤ (i : Int) := by omega
  have i1 : (i : Int) < (m : Int) := by omega
  unfold execOp
  simp only [ho, hx, hy]
  go_simp
end
theorem upd_upd {α : Type} (f : Nat → α) (k : Nat) (a b : α) : upd (upd f k a) k b = upd f k b := by
  funext j
  unfold upd
  split <;> rfl
theorem two_set {α : Type} (l : List α) (x y a b : α) (n : Nat) (hn : l.length = n) : ((l ++ [x, y]).set n a).set (n + 1) b = l ++ [a, b] := by
  subst hn
  rw [List.set_append_right _ _ (Nat.le_refl _), List.set_append_right _ _ (by omega), Nat.sub_self, show l.length + 1 - l.length = 1 by omega]
  rfl
theorem upd_three (f : Nat → List T) (k n : Nat) (hn : (f k).length = n) (a b : T) :
    upd (upd (upd f k (f k ++ [zeroT, zeroT])) k ((upd f k (f k ++ [zeroT, zeroT]) k).set n a)) k ((upd (upd f k (f k ++ [zeroT, zeroT])) k ((upd f k (f k ++ [zeroT, zeroT]) k).set n a) k).set (n + 1) b) = upd f k (f k ++ [a, b]) := by
  rw [upd_upd, upd_at, upd_upd, upd_at, two_set _ _ _ _ _ _ hn]
end Go.Proofs.YtlmndmfebgaidaaGreatDoor
