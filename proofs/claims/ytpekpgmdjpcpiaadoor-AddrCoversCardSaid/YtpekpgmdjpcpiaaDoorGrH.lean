/-
  Merged texts: AgA, AdO, AgB, AgE.
-/
import Derived.Test.YtpekpgmdjpcpiaaDoorGrG
import Derived.Test.YtpekpgmdjpcpiaaDoorGrD
import Derived.Test.YtpekpgmdjpcpiaaDoorGrA
import Derived.WalkKit
import Derived.ProofKit
import Derived.OpenShut
import Derived.ChangeArms
import Derived.ChangeSame
import Derived.Deep.Strs
namespace Go.Proofs.YtpekpgmdjpcpiaaDoor
open Go.RowKit
set_option linter.unusedVariables false

set_option maxHeartbeats 2000000 in
set_option maxRecDepth 100000 in
theorem tells_walk (v : Bool) (A : List Int) (L : Int) (u : Bool) (B : List Int) (M : Int) (w : World) (ht : Std w) (hp : Sixteen A ∧ -9223372036854775808 ≤ L ∧ L ≤ 9223372036854775807) (hq : Sixteen B ∧ -9223372036854775808 ≤ M ∧ M ≤ 9223372036854775807) :
    Calls Tryd.prog 4 #[.agg (pcells v A L), .agg (pcells u B M)] w fun e w' => e = .returned (.bool true) ∧ Below w.heap.size w w' := by
  obtain ⟨bx, by', bw⟩ := two_boxes w v A L u B M
  have BX : Hid (Blk _ _ 24 (pcells v A L)) := Lib.hid bx
  have BY : Hid (Blk _ _ 24 (pcells u B M)) := Lib.hid by'
  have BW := Lib.hid bw
  have AW := Lib.hid (awake_any _ (ht.later bw))
  obtain ⟨hA, l0, l1⟩ := hp
  obtain ⟨hB, m0, m1⟩ := hq
  have C1 := Lib.hid (fun W => covers_any v A L u B M W hA l0 l1 hB m0 m1)
  have C2 := Lib.hid (fun W => rcovers_any v A L u B M W hA l0 l1 hB m0 m1)
  have C3 := Lib.hid (fun W => pcmp_any v A L u B M W hA hB)
  have C4 := Lib.hid (fun W => rcmp_any v A L u B M W hA hB)
  have C5 := Lib.hid (fun W => cut_any v A L W hA l0 l1)
  have C6 := Lib.hid (fun W => rcut_any v A L W hA l0 l1)
  have EQ := fun W => two_prefix v v (cutA v A L) (cutA v A L) (cutL v L) (cutL v L) (cutA_ok v A L).1 (cutA_ok v A L).1 W
  rw [decide_eq_true ⟨rfl, rfl, rfl⟩] at EQ
  have Z1 := Lib.hid (Tryd.sizeP (v := v) (L := L) hA.1)
  have Z2 := Lib.hid (Tryd.sizeP (v := u) (L := M) hB.1)
  clear bx by' bw ht hA hB
  go_enter Tryd.func4, Tryd.ntmps4
  generalize hw2 : (w.alloc (.cells (pcells v A L) 24)).alloc (.cells (pcells u B M) 24) = w2 at *
  generalize pcells v (cutA v A L) (cutL v L) = D at *
  generalize pcells v A L = P at *
  generalize pcells u B M = R at *
  generalize coversA v A L u B M = x at *
  generalize cmpA v A L u B M = c at *
  have hc : (c == c) = true := beq_self_eq_true c
  have hx : (x == x) = true := beq_self_eq_true x
  go_wp2_with fail
  refine AW.out.mono ?_
  rintro r w3 ⟨rfl, hb3⟩
  have B3 := Lib.hid (Below.step BW.out hb3)
  have X3 := Lib.hid (Blk.below BX.out hb3 BX.out.lt)
  have Y3 := Lib.hid (Blk.below BY.out hb3 BY.out.lt)
  clear hb3 AW BW BX BY hw2
  go_wp2_with fail
  refine wp_region_ord Ext Ext.refl (fun _ _ _ => Ext.trans) ((0, false) :: (1, false) :: (2, false) :: (3, false) :: (5, false) :: (6, false) :: (4, true) :: (7, true) :: (8, false) :: (9, false) :: (10, false) :: (11, false) :: (12, false) :: (14, false) :: (15, false) :: (13, true) :: (16, true) :: (17, false) :: (18, false) :: (19, false) :: (20, false) :: (22, false) :: (21, true) :: (23, true) :: (24, false) :: (25, false) :: (26, false) :: []) (by kernel_rfl) (by kernel_rfl) rfl (by kernel_rfl) (fun _ _ _ _ _ h => h) ?_
  have B4 : Hid (Below w.heap.size w w3.drew) := Lib.hid (Below.step B3.out (drewN_below w3 1))
  have X4 : Hid (Blk w3.drew w.heap.size 24 P) := Lib.hid (show Blk w3 w.heap.size 24 P from X3.out)
  have Y4 : Hid (Blk w3.drew (w.heap.size + 1) 24 R) := Lib.hid (show Blk w3 (w.heap.size + 1) 24 R from Y3.out)
  clear B3 X3 Y3
  generalize w3.drew = w4 at *
  repeat (first
    | (refine ord_take _ rfl (by rfl) (fun W hW => yields_row 24 (.tmp 2) rfl w.heap.size 24 P _ rfl (Blk.below X4.out hW X4.out.lt) Tryd.underlying24 rfl Z1.out) ?_; simp only [Act.put, List.setIfInBounds_toArray, List.set_cons_zero, List.set_cons_succ])
    | (refine ord_take _ rfl (by rfl) (fun W hW => yields_row 24 (.tmp 3) rfl (w.heap.size + 1) 24 R _ rfl (Blk.below Y4.out hW Y4.out.lt) Tryd.underlying24 rfl Z2.out) ?_; simp only [Act.put, List.setIfInBounds_toArray, List.set_cons_zero, List.set_cons_succ])
    | (refine ord_take _ rfl (by rfl) (fun W hW => by go_simp; first | done | rfl) ?_; simp only [Act.put, List.setIfInBounds_toArray, List.set_cons_zero, List.set_cons_succ])
    | (refine ord_sole rfl (by rfl) (fun K1 hK1 => ?_)
       go_simp
       first
         | refine (C1.out _).mono ?_
         | refine (C2.out _).mono ?_
         | refine (C3.out _).mono ?_
         | refine (C4.out _).mono ?_
         | refine (C5.out _).mono ?_
         | refine (C6.out _).mono ?_
       rintro r w5 ⟨rfl, hb5⟩
       refine hK1 _ _ hb5 ?_
       clear hK1 K1
       replace B4 := Lib.hid (Below.step B4.out hb5)
       replace X4 := Lib.hid (Blk.below X4.out hb5 X4.out.lt)
       replace Y4 := Lib.hid (Blk.below Y4.out hb5 Y4.out.lt)
       clear hb5))
  refine ord_end ?_
  go_wp2_with fail
  go_ret
  exact ⟨rfl, B4.out⟩

end Go.Proofs.YtpekpgmdjpcpiaaDoor

namespace Go.Proofs.YtpekpgmdjpcpiaaDoor
open Go.ChangeShapes Go.WideShapes Go.ChangeAt Go.RowKit Go.Deep
set_option linter.unusedVariables false

theorem mapM_eachA {α β : Type} {f : α → Option β} : ∀ (L : List α) (ys : List β), L.mapM f = some ys → ∀ a ∈ L, ∃ y, f a = some y
  | [], _, _, a, ha => by simp at ha
  | b :: L, ys, h, a, ha => by
    rw [List.mapM_cons] at h
    simp only [bind, Option.bind_eq_some_iff, pure, Option.some.injEq] at h
    obtain ⟨y, hy, zs, hz, _⟩ := h
    rcases List.mem_cons.1 ha with rfl | ha
    · exact ⟨y, hy⟩
    · exact mapM_eachA L zs hz a ha
/-- Each element of an array that can be read, can be read. -/
theorem array_eachA {H : Type} {enc : TypeId × Value → H} {P : Program} {W : World} {base : Nat} {sp : Nat → Bool} {held : Bool} {t e : TypeId} {n : Nat} (ht : P.underlying t = some (.array n e)) (hce : P.cellsOf e = 1)
    {fuel : Nat} {cs : List Value} {x : DataW H × List MemPlace} (h : DataW.trod enc P W base sp held fuel t cs = some x) : ∀ i, i < n → ∃ k y, DataW.trod enc P W base sp held k e ((cs.drop i).take 1) = some y := by
  intro i hi
  cases fuel with
  | zero => simp [DataW.trod] at h
  | succ k =>
    unfold DataW.trod at h
    rw [ht] at h
    simp only at h
    split at h
    · simp only [Option.map_eq_some_iff] at h
      obtain ⟨ys, hy, _⟩ := h
      obtain ⟨y, hy⟩ := mapM_eachA _ ys hy i (by simpa using hi)
      rw [hce, Nat.mul_one] at hy
      exact ⟨k, y, hy⟩
    · cases h
theorem one_atL {cs : List Value} {i : Nat} {a : Value} (h : (cs.drop i).take 1 = [a]) : cs[i]? = some a := by
  have : ((cs.drop i).take 1)[0]? = some a := by rw [h]; rfl
  rw [List.getElem?_take, if_pos (by omega), List.getElem?_drop, Nat.add_zero] at this
  exact this
section
variable {H : Type} {enc : TypeId × Value → H} {W : World} {base b0 : Nat} {held : Bool} {r : Reach} {v : Value} {d : DataW H} {ps : List MemPlace}
set_option maxRecDepth 100000 in
/-- An argument that is a prefix. -/
theorem open_prefix (hok : Value.okWide Tryd.prog W r b0 24 v) (hd : DataW.Trod enc Tryd.prog W base (fun _ => true) held 24 v d ps) :
    ∃ u A L, v = .agg (pcells u A L) ∧ Sixteen A ∧ -9223372036854775808 ≤ L ∧ L ≤ 9223372036854775807 := by
  obtain ⟨cs, rfl, hsz⟩ := okWide_struct Tryd.underlying24 hok
  rw [show Tryd.prog.cellsOf 24 = 18 by kernel_rfl] at hsz
  obtain ⟨fuel, hf⟩ := hd
  obtain ⟨y0, y1, y2, n, _, hl, h0, h1, h2⟩ := trod_struct3 Tryd.underlying24 hf
  rw [show Tryd.prog.cellsOf 4 = 1 by kernel_rfl] at h0
  rw [show Tryd.prog.cellsOf 22 = 16 by kernel_rfl] at h1
  rw [show Tryd.prog.cellsOf 3 = 1 by kernel_rfl] at h2
  obtain ⟨u, e0, _⟩ := DataW.trod_bool Tryd.underlying4 h0
  obtain ⟨L, e2, _, wL⟩ := DataW.trod_int Tryd.underlying3 h2
  have bL := bounds_i64 wL
  have E := array_eachA Tryd.underlying22 (show Tryd.prog.cellsOf 5 = 1 by kernel_rfl) h1
  have hcs : (Value.agg cs).cells = cs := by simp [Value.cells]
  rw [hcs] at e0 e2 E
  have F : ∀ i, ∃ x : Int, i < 16 → cs.toList[1 + i]? = some (.int .u8 x) ∧ 0 ≤ x ∧ x ≤ 255 := fun i => by
    by_cases hi : i < 16
    · obtain ⟨k0, z0, t0⟩ := E i hi
      obtain ⟨x, hx, _, wx⟩ := DataW.trod_int Tryd.underlying5 t0
      have := bounds_u8 wx
      have e := one_atL hx
      rw [List.getElem?_take, if_pos hi, List.getElem?_drop] at e
      exact ⟨x, fun _ => ⟨e, by omega⟩⟩
    · exact ⟨0, fun h => absurd h hi⟩
  obtain ⟨f, hf'⟩ := Classical.axiomOfChoice F
  have g0 : cs.toList[0]? = some (.bool u) := one_atL e0
  have g2 : cs.toList[17]? = some (.int .i64 L) := one_atL e2
  have hA : Sixteen ((List.range 16).map f) := ⟨by simp, fun x hx => by
    obtain ⟨i, hi, rfl⟩ := List.mem_map.1 hx
    exact (hf' i (by simpa using hi)).2⟩
  refine ⟨u, (List.range 16).map f, L, ?_, hA, by omega, by omega⟩
  have : cs = pcells u ((List.range 16).map f) L := by
    apply Array.ext'
    apply List.ext_getElem?
    intro j
    rw [Array.getElem?_toList (xs := pcells u _ L)]
    rcases Nat.lt_or_ge j 18 with hj | hj
    · rcases (show j = 0 ∨ j = 17 ∨ (1 ≤ j ∧ j < 17) by omega) with rfl | rfl | ⟨j1, j2⟩
      · rw [g0, pcells_v]
      · rw [g2, pcells_l hA.1]
      · obtain ⟨i, rfl⟩ : ∃ i, j = 1 + i := ⟨j - 1, by omega⟩
        rw [(hf' i (by omega)).1, pcells_a hA.1 i (by omega)]
        simp [show i < 16 by omega]
    · rw [List.getElem?_eq_none (by rw [Array.length_toList, hsz]; exact hj), Array.getElem?_eq_none (by rw [pcells_size hA.1]; exact hj)]
  rw [this]
end

end Go.Proofs.YtpekpgmdjpcpiaaDoor

namespace Go.Proofs.YtpekpgmdjpcpiaaDoor
open Go.RowKit
set_option linter.unusedVariables false

/-- Three prefixes that are put into memory. -/
theorem three_boxes (w : World) (v : Bool) (A : List Int) (L : Int) (u : Bool) (B : List Int) (M : Int) (t : Bool) (C : List Int) (K : Int) :
    Blk (((w.alloc (.cells (pcells v A L) 24)).alloc (.cells (pcells u B M) 24)).alloc (.cells (pcells t C K) 24)) w.heap.size 24 (pcells v A L) ∧
    Blk (((w.alloc (.cells (pcells v A L) 24)).alloc (.cells (pcells u B M) 24)).alloc (.cells (pcells t C K) 24)) (w.heap.size + 1) 24 (pcells u B M) ∧
    Blk (((w.alloc (.cells (pcells v A L) 24)).alloc (.cells (pcells u B M) 24)).alloc (.cells (pcells t C K) 24)) (w.heap.size + 2) 24 (pcells t C K) ∧
    Below w.heap.size w (((w.alloc (.cells (pcells v A L) 24)).alloc (.cells (pcells u B M) 24)).alloc (.cells (pcells t C K) 24)) := by
  obtain ⟨h1, h2, h3⟩ := two_boxes w v A L u B M
  have h4 := pbox ((w.alloc (.cells (pcells v A L) 24)).alloc (.cells (pcells u B M) 24)) t C K
  rw [show ((w.alloc (.cells (pcells v A L) 24)).alloc (.cells (pcells u B M) 24)).heap.size = w.heap.size + 2 by simp] at h4
  exact ⟨Blk.alloc h1 _, Blk.alloc h2 _, h4, Below.step h3 (box_below _ _)⟩
theorem cmp_range (v : Bool) (A : List Int) (L : Int) (u : Bool) (B : List Int) (M : Int) : -1 ≤ cmpA v A L u B M ∧ cmpA v A L u B M ≤ 1 := by
  unfold cmpA
  repeat' split
  all_goals omega

set_option maxHeartbeats 2000000 in
set_option maxRecDepth 100000 in
theorem order_walk (v : Bool) (A : List Int) (L : Int) (u : Bool) (B : List Int) (M : Int) (t : Bool) (C : List Int) (K : Int) (w : World) (ht : Std w) (hp : Sixteen A ∧ -9223372036854775808 ≤ L ∧ L ≤ 9223372036854775807) (hq : Sixteen B ∧ -9223372036854775808 ≤ M ∧ M ≤ 9223372036854775807) (hr : Sixteen C ∧ -9223372036854775808 ≤ K ∧ K ≤ 9223372036854775807) :
    Calls Tryd.prog 8 #[.agg (pcells v A L), .agg (pcells u B M), .agg (pcells t C K)] w fun e w' => e = .returned (.bool true) ∧ Below w.heap.size w w' := by
  obtain ⟨bx, by', bz, bw⟩ := three_boxes w v A L u B M t C K
  have BX := Lib.hid bx
  have BY := Lib.hid by'
  have BZ := Lib.hid bz
  have BW := Lib.hid bw
  have AW := Lib.hid (awake_any _ (ht.later bw))
  obtain ⟨hA, l0, l1⟩ := hp
  obtain ⟨hB, m0, m1⟩ := hq
  obtain ⟨hC, k0, k1⟩ := hr
  have C1 := Lib.hid (fun W => pcmp_any v A L u B M W hA hB)
  have C2 := Lib.hid (fun W => pcmp_any u B M t C K W hB hC)
  have C3 := Lib.hid (fun W => pcmp_any u B M v A L W hB hA)
  rw [cmp_turned v A L u B M] at C3
  have C4 := Lib.hid (fun W => pcmp_any v A L t C K W hA hC)
  have EQ := fun W => two_prefix v u A B L M hA.1 hB.1 W
  have E0 : (cmpA v A L u B M == 0) = decide (v = u ∧ A = B ∧ L = M) := by
    rw [Bool.eq_iff_iff, decide_eq_true_iff, ← cmp_zero hA hB]
    simp
  have GO := Lib.hid (fun h => cmp_goes (v := v) (u := u) (t := t) (A := A) (B := B) (C := C) (L := L) (M := M) (K := K) h)
  have RG := cmp_range v A L u B M
  have Z1 := Lib.hid (Tryd.sizeP (v := v) (L := L) hA.1)
  have Z2 := Lib.hid (Tryd.sizeP (v := u) (L := M) hB.1)
  have Z3 := Lib.hid (Tryd.sizeP (v := t) (L := K) hC.1)
  clear bx by' bz bw ht hA hB hC
  go_enter Tryd.func8, Tryd.ntmps8
  generalize hw2 : ((w.alloc (.cells (pcells v A L) 24)).alloc (.cells (pcells u B M) 24)).alloc (.cells (pcells t C K) 24) = w2 at *
  generalize pcells v A L = P at *
  generalize pcells u B M = R at *
  generalize pcells t C K = S at *
  generalize cmpA v A L u B M = c at *
  generalize cmpA u B M t C K = d at *
  generalize cmpA v A L t C K = g at *
  generalize decide (v = u ∧ A = B ∧ L = M) = z at *
  have hz : (z == z) = true := beq_self_eq_true z
  have hn : (-c == -c) = true := beq_self_eq_true (-c)
  have hc : (c == c) = true := beq_self_eq_true c
  have kn : IntKind.i64.wrap (-c) = -c := IntWalk.i64_in _ (by omega)
  go_wp2_with fail
  refine AW.out.mono ?_
  rintro r w3 ⟨rfl, hb3⟩
  have B3 := Lib.hid (Below.step BW.out hb3)
  have X3 := Lib.hid (Blk.below BX.out hb3 BX.out.lt)
  have Y3 := Lib.hid (Blk.below BY.out hb3 BY.out.lt)
  have V3 := Lib.hid (Blk.below BZ.out hb3 BZ.out.lt)
  clear hb3 AW BW BX BY BZ hw2
  go_upto_region 3 with (first
    | (refine wpList_load_row rfl 24 (.tmp 3) rfl w.heap.size rfl 24 P (0, 0) _ X3.out Tryd.underlying24 rfl Z1.out ?_)
    | (refine wpList_load_row rfl 24 (.tmp 4) rfl (w.heap.size + 1) rfl 24 R (0, 0) _ Y3.out Tryd.underlying24 rfl Z2.out ?_)
    | (go_at_call 18; refine (C1.out _).mono ?_; rintro r w4 ⟨rfl, hb4⟩; replace B3 := Lib.hid (Below.step B3.out hb4); replace X3 := Lib.hid (Blk.below X3.out hb4 X3.out.lt); replace Y3 := Lib.hid (Blk.below Y3.out hb4 Y3.out.lt); replace V3 := Lib.hid (Blk.below V3.out hb4 V3.out.lt); clear hb4 C1))
  go_upto_region 4 with (first
    | (refine wpList_load_row rfl 24 (.tmp 4) rfl (w.heap.size + 1) rfl 24 R (0, 0) _ Y3.out Tryd.underlying24 rfl Z2.out ?_)
    | (refine wpList_load_row rfl 24 (.tmp 5) rfl (w.heap.size + 2) rfl 24 S (0, 0) _ V3.out Tryd.underlying24 rfl Z3.out ?_)
    | (go_at_call 18; refine (C2.out _).mono ?_; rintro r w5 ⟨rfl, hb5⟩; replace B3 := Lib.hid (Below.step B3.out hb5); replace X3 := Lib.hid (Blk.below X3.out hb5 X3.out.lt); replace Y3 := Lib.hid (Blk.below Y3.out hb5 Y3.out.lt); replace V3 := Lib.hid (Blk.below V3.out hb5 V3.out.lt); clear hb5 C2))
  by_cases h : c = d
  all_goals
    first
      | (obtain rfl := h
         have F := GO.out rfl
         rw [F] at C4
         have ne : (c != c) = false := bne_self_eq_false c)
      | have ne : (c != d) = true := by simp [h]
    clear GO
    go_wp2_with (first
      | (refine wpList_load_rowG (by rfl) 24 (.tmp 4) rfl (w.heap.size + 1) rfl 24 R (0, 0) _ Y3.out Tryd.underlying24 rfl Z2.out ?_)
      | (refine wpList_load_rowG (by rfl) 24 (.tmp 3) rfl w.heap.size rfl 24 P (0, 0) _ X3.out Tryd.underlying24 rfl Z1.out ?_))
    refine (C3.out _).mono ?_
    rintro r w6 ⟨rfl, hb6⟩; replace B3 := Lib.hid (Below.step B3.out hb6); replace X3 := Lib.hid (Blk.below X3.out hb6 X3.out.lt); replace Y3 := Lib.hid (Blk.below Y3.out hb6 Y3.out.lt); replace V3 := Lib.hid (Blk.below V3.out hb6 V3.out.lt); clear hb6
    go_wp2_with (first
      | (refine wpList_load_rowG (by rfl) 24 (.tmp 4) rfl (w.heap.size + 1) rfl 24 R (0, 0) _ Y3.out Tryd.underlying24 rfl Z2.out ?_)
      | (refine wpList_load_rowG (by rfl) 24 (.tmp 3) rfl w.heap.size rfl 24 P (0, 0) _ X3.out Tryd.underlying24 rfl Z1.out ?_)
      | (refine wpList_load_rowG (by rfl) 24 (.tmp 5) rfl (w.heap.size + 1 + 1) rfl 24 S (0, 0) _ V3.out Tryd.underlying24 rfl Z3.out ?_))
    try
      refine (C4.out _).mono ?_
      rintro r w7 ⟨rfl, hb6⟩; replace B3 := Lib.hid (Below.step B3.out hb6); clear hb6
      go_wp2_with fail
    go_ret
    exact ⟨rfl, B3.out⟩

end Go.Proofs.YtpekpgmdjpcpiaaDoor

namespace Go.Proofs.YtpekpgmdjpcpiaaDoor
open Go.RowKit
set_option linter.unusedVariables false

/-- What Read answers, said by what the document asks: the package's. -/
theorem read_one (s : ByteArray) (hn : s.size ≤ 4000000) : ∃ u B M j, Sixteen B ∧
    (∀ W, Std W → Calls Tryd.prog 12 #[.string s] W fun e w' => e = .returned (.tuple #[.agg (pcells u B M), .int .i64 j]) ∧ Below W.heap.size W w') ∧
    (s.size ≤ 1000 → ∀ W, Calls Tryd.prog 13 #[.string s] W fun e w' => e = .returned (.tuple #[.agg (pcells u B M), .int .i64 j]) ∧ Below W.heap.size W w') ∧
    ((j = 0 ∧ rightA u B M = true ∧ -9223372036854775808 ≤ M ∧ M ≤ 9223372036854775807 ∧ strOfNums (textZ u B M) = s) ∨ j = 2) := by
  by_cases h : ∃ u B M, Sixteen B ∧ rightA u B M = true ∧ strOfNums (textZ u B M) = s
  · obtain ⟨u, B, M, hB, hr, ht⟩ := h
    have hM := (right_is ..).1 hr
    have ml := most_le u
    exact ⟨u, B, M, 0, hB, fun W hs => (read_any s W hn hs).mono fun e w' h => doc_one hB hr ht h,
      fun h1 W => (rread_any s W h1).mono fun e w' h => doc_one hB hr ht (show GivesDoc s W e w' from read_doc h), .inl ⟨rfl, hr, by omega, by omega, ht⟩⟩
  · have key : ∀ (W w' : World) (e : Ending), GivesDoc s W e w' → e = .returned (.tuple #[.agg (pcells false zeroA 0), .int .i64 2]) ∧ Below W.heap.size W w' := fun W w' e k => by
      refine ⟨?_, k.1⟩
      rcases k.2 with ⟨u, B, M, hB, hr, ht, _⟩ | ⟨_, he⟩
      · exact absurd ⟨u, B, M, hB, hr, ht⟩ h
      · exact he
    exact ⟨false, zeroA, 0, 2, zeroA_ok, fun W hs => (read_any s W hn hs).mono fun e w' k => key W w' e k, fun h1 W => (rread_any s W h1).mono fun e w' k => key W w' e (show GivesDoc s W e w' from read_doc k), .inr rfl⟩

set_option maxHeartbeats 4000000 in
set_option maxRecDepth 100000 in
theorem texts_walk (v : Bool) (A : List Int) (L : Int) (s : ByteArray) (w : World) (ht : Std w) (hp : Sixteen A ∧ -9223372036854775808 ≤ L ∧ L ≤ 9223372036854775807) :
    Calls Tryd.prog 3 #[.agg (pcells v A L), .string s] w fun e w' => e = .returned (.bool true) ∧ Below w.heap.size w w' := by
  have BX : Hid (Blk _ _ 24 (pcells v A L)) := Lib.hid (pbox w v A L)
  have BW := Lib.hid (box_below w (.cells (pcells v A L) 24))
  have AW := Lib.hid (awake_any _ (ht.later BW.out))
  have HS := Lib.hid ht
  obtain ⟨hA, l0, l1⟩ := hp
  have C1 := Lib.hid (fun W (h : Std W) => text_any v A L W hA l0 l1 h)
  have C2 := Lib.hid (fun W => rtext_any v A L W hA l0 l1)
  have C5 := Lib.hid (fun W => right_any v A L W hA l0 l1)
  have C6 := Lib.hid (fun W => rright_any v A L W hA l0 l1)
  have Z1 := Lib.hid (Tryd.sizeP (v := v) (L := L) hA.1)
  clear ht hA
  go_enter Tryd.func3, Tryd.ntmps3
  generalize hw2 : (w.alloc (.cells (pcells v A L) 24)) = w2 at *
  generalize pcells v A L = P at *
  generalize strOfNums (textE v A L) = T at *
  generalize textR v A L = r0 at *
  generalize rightA v A L = k at *
  go_wp2_with fail
  refine AW.out.mono ?_
  rintro r w3 ⟨rfl, hb3⟩
  have B3 := Lib.hid (Below.step BW.out hb3)
  have X3 := Lib.hid (Blk.below BX.out hb3 BX.out.lt)
  clear hb3 AW BW BX hw2
  by_cases hl : 200 < s.size
  · have t1 : decide ((200 : Int) < (s.size : Int)) = true := decide_eq_true (by omega)
    go_wp2_with fail
    go_ret
    exact ⟨rfl, B3.out⟩
  have t1 : decide ((200 : Int) < (s.size : Int)) = false := decide_eq_false (by omega)
  obtain ⟨u, B, M, j, hB, R1, R2, _⟩ := read_one s (by omega)
  have C3 := Lib.hid R1
  have C4 := Lib.hid (R2 (by omega))
  have EQ := fun W => two_prefix u u B B M M hB.1 hB.1 W
  rw [decide_eq_true ⟨rfl, rfl, rfl⟩] at EQ
  have Z2 := Lib.hid (Tryd.sizeP (v := u) (L := M) hB.1)
  have P2 := Lib.hid (pcells_one u B M)
  have E2 : Hid (ZP.size = (pcells u B M).size) := Lib.hid (by rw [pcells_size hB.1]; rfl)
  clear R1 R2 hB
  generalize pcells u B M = D at *
  have hT : (T.toList == T.toList) = true := beq_self_eq_true _
  have hr0 : (r0 == r0) = true := beq_self_eq_true _
  have hj : (j == j) = true := beq_self_eq_true _
  have hk : (k == k) = true := beq_self_eq_true _
  have H3 := Lib.hid (HS.out.later B3.out)
  go_upto_region 5 with (first
    | (refine wpList_load_row rfl 24 (.tmp 2) rfl w.heap.size rfl 24 P (0, 0) _ X3.out Tryd.underlying24 rfl Z1.out ?_)
    | (go_at_call 10; refine (C1.out _ H3.out).mono ?_; rintro r w4 ⟨rfl, hb4⟩; have B4 := Lib.hid (Below.step B3.out hb4); have X4 := Lib.hid (Blk.below X3.out hb4 X3.out.lt); clear hb4 C1))
  go_upto_region 6 with (first
    | (refine wpList_load_row rfl 24 (.tmp 2) rfl w.heap.size rfl 24 P (0, 0) _ X4.out Tryd.underlying24 rfl Z1.out ?_)
    | (go_at_call 11; refine (C2.out _).mono ?_; rintro r w5 ⟨rfl, hb5⟩; have B5 := Lib.hid (Below.step B4.out hb5); have X5 := Lib.hid (Blk.below X4.out hb5 X4.out.lt); clear hb5 C2))
  clear B3 X3 H3 B4 X4
  have H5 := Lib.hid (HS.out.later B5.out)
  go_upto_region 7 with (first
    | (go_at_call 12; refine (C3.out _ H5.out).mono ?_; rintro r w6 ⟨rfl, hb6⟩; have B6 := Lib.hid (Below.step B5.out hb6); have X6 := Lib.hid (Blk.below X5.out hb6 X5.out.lt); have S6 := Lib.hid (Blk.new w6 24 ZP); clear hb6 C3)
    | (refine Great.wpList_allocTo rfl (some 10) rfl (.pointer (some ⟨w6.heap.size, 0, none⟩)) (.cells ZP 24) rfl ?_)
    | (refine wpList_store_rowTo rfl 24 (.tmp 10) (.tmp 32) rfl rfl w6.heap.size D rfl rfl 24 ZP S6.out Z2.out E2.out P2.out ?_))
  try simp only [Act.put, List.setIfInBounds_toArray, List.set_cons_zero, List.set_cons_succ]
  have D7 : Hid (Blk ((w6.alloc (.cells ZP 24)).setRow w6.heap.size D) w6.heap.size 24 D) := Lib.hid (setRow_heap _ _ _ _ _ _ S6.out)
  have b7 : Below w6.heap.size w6 ((w6.alloc (.cells ZP 24)).setRow w6.heap.size D) := below_setRow (box_below w6 (.cells ZP 24)) (Nat.le_refl _) _
  have B7 := Lib.hid (Below.step B6.out b7)
  have X7 := Lib.hid (Blk.below X6.out b7 X6.out.lt)
  clear b7 B5 X5 H5 B6 X6 S6
  generalize (w6.alloc (.cells ZP 24)).setRow w6.heap.size D = w7 at *
  generalize w6.heap.size = g7 at *
  go_upto_region 8 with (first
    | (go_at_call 13; refine (C4.out _).mono ?_; rintro r w8 ⟨rfl, hb8⟩; have B8 := Lib.hid (Below.step B7.out hb8); have X8 := Lib.hid (Blk.below X7.out hb8 X7.out.lt); have D8 := Lib.hid (Blk.below D7.out hb8 D7.out.lt); have S8 := Lib.hid (Blk.new w8 24 ZP); clear hb8 C4)
    | (refine Great.wpList_allocTo rfl (some 12) rfl (.pointer (some ⟨w8.heap.size, 0, none⟩)) (.cells ZP 24) rfl ?_)
    | (refine wpList_store_rowTo rfl 24 (.tmp 12) (.tmp 37) rfl rfl w8.heap.size D rfl rfl 24 ZP S8.out Z2.out E2.out P2.out ?_))
  try simp only [Act.put, List.setIfInBounds_toArray, List.set_cons_zero, List.set_cons_succ]
  have E9 : Hid (Blk ((w8.alloc (.cells ZP 24)).setRow w8.heap.size D) w8.heap.size 24 D) := Lib.hid (setRow_heap _ _ _ _ _ _ S8.out)
  have b9 : Below w8.heap.size w8 ((w8.alloc (.cells ZP 24)).setRow w8.heap.size D) := below_setRow (box_below w8 (.cells ZP 24)) (Nat.le_refl _) _
  have B9 := Lib.hid (Below.step B8.out b9)
  have X9 := Lib.hid (Blk.below X8.out b9 X8.out.lt)
  have D9 := Lib.hid (Blk.below D8.out b9 D8.out.lt)
  clear b9 B7 X7 D7 B8 X8 D8 S8
  generalize (w8.alloc (.cells ZP 24)).setRow w8.heap.size D = w9 at *
  generalize w8.heap.size = g9 at *
  go_wp2_with fail
  refine wp_region_ord Ext Ext.refl (fun _ _ _ => Ext.trans) ((0, false) :: (1, false) :: (2, false) :: (3, false) :: (4, false) :: (5, false) :: (6, false) :: (7, false) :: (8, false) :: (9, false) :: (10, false) :: (11, false) :: (12, false) :: (13, false) :: (14, false) :: (15, false) :: (16, false) :: (17, false) :: (18, false) :: (19, false) :: (20, false) :: (21, false) :: (22, false) :: (24, false) :: (23, true) :: (25, true) :: (26, false) :: (27, false) :: (28, false) :: []) (by kernel_rfl) (by kernel_rfl) rfl (by kernel_rfl) (fun _ _ _ _ _ h => h) ?_
  have B4 : Hid (Below w.heap.size w w9.drew) := Lib.hid (Below.step B9.out (drewN_below w9 1))
  have X4 : Hid (Blk w9.drew w.heap.size 24 P) := Lib.hid (show Blk w9 w.heap.size 24 P from X9.out)
  have D4 : Hid (Blk w9.drew g7 24 D) := Lib.hid (show Blk w9 g7 24 D from D9.out)
  have G4 : Hid (Blk w9.drew g9 24 D) := Lib.hid (show Blk w9 g9 24 D from E9.out)
  clear B9 X9 D9 E9
  generalize w9.drew = wa at *
  repeat (first
    | (refine ord_move _ rfl rfl (by rfl) ?_; simp only [Act.put, List.setIfInBounds_toArray, List.set_cons_zero, List.set_cons_succ])
    | (refine ord_take _ rfl (by rfl) (fun W hW => yields_row 24 (.tmp 2) rfl w.heap.size 24 P _ rfl (Blk.below X4.out hW X4.out.lt) Tryd.underlying24 rfl Z1.out) ?_; simp only [Act.put, List.setIfInBounds_toArray, List.set_cons_zero, List.set_cons_succ])
    | (refine ord_take _ rfl (by rfl) (fun W hW => yields_row 24 (.tmp 10) rfl g7 24 D _ rfl (Blk.below D4.out hW D4.out.lt) Tryd.underlying24 rfl Z2.out) ?_; simp only [Act.put, List.setIfInBounds_toArray, List.set_cons_zero, List.set_cons_succ])
    | (refine ord_take _ rfl (by rfl) (fun W hW => yields_row 24 (.tmp 12) rfl g9 24 D _ rfl (Blk.below G4.out hW G4.out.lt) Tryd.underlying24 rfl Z2.out) ?_; simp only [Act.put, List.setIfInBounds_toArray, List.set_cons_zero, List.set_cons_succ])
    | (refine ord_take _ rfl (by rfl) (fun W hW => by go_simp; first | done | rfl) ?_; simp only [Act.put, List.setIfInBounds_toArray, List.set_cons_zero, List.set_cons_succ])
    | (refine ord_sole rfl (by rfl) (fun K1 hK1 => ?_)
       go_simp
       first
         | refine (C5.out _).mono ?_
         | refine (C6.out _).mono ?_
       rintro r wb ⟨rfl, hbb⟩
       refine hK1 _ _ hbb ?_
       clear hK1 K1
       replace B4 := Lib.hid (Below.step B4.out hbb)
       replace X4 := Lib.hid (Blk.below X4.out hbb X4.out.lt)
       replace D4 := Lib.hid (Blk.below D4.out hbb D4.out.lt)
       replace G4 := Lib.hid (Blk.below G4.out hbb G4.out.lt)
       clear hbb))
  refine ord_end ?_
  go_wp2_with fail
  go_ret
  exact ⟨rfl, B4.out⟩

end Go.Proofs.YtpekpgmdjpcpiaaDoor
