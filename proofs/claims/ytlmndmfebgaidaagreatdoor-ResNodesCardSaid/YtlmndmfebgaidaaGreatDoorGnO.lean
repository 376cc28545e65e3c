/-
  Merged texts: AnG, AnC, AnV, ApD, ApJ, RpA.
-/
import Derived.Test.YtlmndmfebgaidaaGreatDoorGnN
import Derived.Shelf.SlSortCmp.WholeK
import Derived.Lib.Small
import Derived.Test.YtlmndmfebgaidaaGreatDoorGnE
import Derived.Shelf.SlSortCmp.NoneTotal
import Derived.Deep.CutRange
import Derived.ScopeJumps
import Derived.WalkMore
import Derived.Test.YtlmndmfebgaidaaGreatDoorGnL
namespace Go.Proofs.YtlmndmfebgaidaaGreatDoor
open Go.RowKit
set_option linter.unusedVariables false
abbrev Rg6 := { s : (Nat × Nat) // OkR s }
instance : Inhabited Rg6 := ⟨⟨(0, 0), zeroR_ok⟩⟩
def encR (x : Rg6) : List Value := rcL x.1
theorem encR_len (x : Rg6) : (encR x).length = 2 := rcL_len x.2
theorem encR_one (x : Rg6) : ∀ v ∈ encR x, v.oneCell' = true := fun v hv => (Array.all_eq_true_iff_forall_mem.1 (rcells_one x.1)) v (by rw [← rcL_arr]; exact List.mem_toArray.2 hv)
def withR (L : List (Nat × Nat)) (h : OkL L) : Array Rg6 := (L.attach.map fun x => (⟨x.1, h x.1 x.2⟩ : Rg6)).toArray
def bareR (d : Array Rg6) : List (Nat × Nat) := d.toList.map (·.1)
theorem withR_size (L : List (Nat × Nat)) (h : OkL L) : (withR L h).size = L.length := by simp [withR]
theorem bareR_with (L : List (Nat × Nat)) (h : OkL L) : bareR (withR L h) = L := by
  unfold bareR withR
  rw [List.map_map]
  show L.attach.map Subtype.val = L
  exact List.attach_map_subtype_val L
theorem bareR_six (d : Array Rg6) : OkL (bareR d) := fun s hs => by
  obtain ⟨x, _, rfl⟩ := List.mem_map.1 hs
  exact x.2
theorem bareR_len (d : Array Rg6) : (bareR d).length = d.size := by simp [bareR]
theorem bareR_at (d : Array Rg6) (j : Nat) (hj : j < d.size) : (bareR d)[j]'(by rw [bareR_len]; exact hj) = (d[j]!).1 := by
  rw [getElem!_pos d j hj]
  simp [bareR]
theorem flatRg_at (d : Array Rg6) (t : Nat) (ht : t < d.size * 2) : (flatR (bareR d))[t]? = some (Sort.flatK encR 2 d)[t]! := by
  have hq : t / 2 < d.size := Nat.div_lt_of_lt_mul (by omega)
  have e := flatR_at (bareR_six d) (t / 2) (t % 2) (by rw [bareR_len]; exact hq) (Nat.mod_lt _ (by decide))
  rw [show t / 2 * 2 + t % 2 = t by omega, bareR_at d _ hq] at e
  rw [e, Sort.get_flatK encR 2 d t ht]
  have hm : t % 2 < (encR d[t / 2]!).length := by rw [encR_len]; exact Nat.mod_lt _ (by decide)
  show (encR d[t / 2]!)[t % 2]? = _
  rw [List.getElem?_eq_getElem hm, getElem!_pos (encR d[t / 2]!) (t % 2) hm]
theorem RgOut.holds {W0 wr : World} {g cap n : Nat} {d : Array Rg6} (h : RgOut W0 wr (.slice (some ⟨g, 0, none⟩) n cap) (bareR d)) (hn : n = d.size) : Sort.HoldsK encR 2 wr g 0 d := by
  subst hn
  intro j hj
  rw [Sort.size_flatK] at hj
  have hc := h.1
  rw [bareR_len] at hc
  rw [Nat.zero_add]
  exact ⟨by rw [hc.cellAt j hj]; exact flatRg_at d j hj, hc.frozenAt j⟩
theorem RgOut.sorted {W0 wr : World} {g cap n m : Nat} {d d' : Array Rg6} {os : Array Obj} (h : RgOut W0 wr (.slice (some ⟨g, 0, none⟩) n cap) (bareR d)) (hn : n = d.size) (hd : d'.size = d.size) : RgOut W0 (sortWorldK encR 2 wr g 0 m d' os) (.slice (some ⟨g, 0, none⟩) n cap) (bareR d') := by
  subst hn
  have hc := h.1
  rw [bareR_len] at hc
  have hlt : g < wr.heap.size := (hc.lt g rfl).2
  rcases hc.2 with ⟨e', _⟩ | ⟨g', cap', cur, e', hb, hg, hnc, hcm, hcs, htake⟩
  · cases e'
  injection e' with e1 e2 e3
  injection e1 with e1
  injection e1 with e1
  subst e1 e3
  have hg2 : (sortWorldK encR 2 wr g 0 m d' os).heap[g]? = some (.cells (Sort.putCells id 0 (Sort.flatK encR 2 d') cur) 54 (0, 0)) := by
    unfold sortWorldK Sort.grow Sort.putRowK Sort.putRow Sort.mapBlock
    show ((wr.heap.modify g _) ++ os)[g]? = _
    rw [Array.getElem?_append_left (by rw [Array.size_modify]; exact hlt), Array.getElem?_modify, if_pos rfl, hg]
    rfl
  refine ⟨⟨by rw [flatR_len (bareR_six d')], .inr ⟨g, cap, _, by rw [bareR_len, hd], hb, hg2, by rw [bareR_len, hd]; exact hnc, hcm, ?_, ?_⟩⟩, ⟨h.2.1.os, h.2.1.tape, h.2.1.output, ?_, fun k hk => ?_⟩, bareR_six d'⟩
  · unfold Sort.putCells
    rw [Array.size_mapIdx]
    exact hcs
  · apply List.ext_getElem?
    intro t
    rcases Nat.lt_or_ge t ((bareR d').length * 2) with ht | ht
    · rw [List.getElem?_take, if_pos ht]
      have ht' : t < d'.size * 2 := by rwa [bareR_len] at ht
      rw [flatRg_at d' t ht', Array.getElem?_toList]
      unfold Sort.putCells
      have hcur : t < cur.size := by
        rw [hcs]
        have : d.size * 2 ≤ cap * 2 := Nat.mul_le_mul_right _ hnc
        omega
      rw [Array.getElem?_mapIdx, Array.getElem?_eq_getElem hcur]
      simp only [Option.map_some, Nat.sub_zero, Nat.zero_add, id]
      rw [if_pos ⟨Nat.zero_le _, by rw [Sort.size_flatK]; exact ht'⟩]
    · rw [List.getElem?_eq_none (by rw [List.length_take]; omega), List.getElem?_eq_none (by rw [flatR_len (bareR_six d')]; omega)]
  · unfold sortWorldK Sort.grow Sort.putRowK Sort.putRow Sort.mapBlock
    show W0.heap.size ≤ ((wr.heap.modify g _) ++ os).size
    rw [Array.size_append, Array.size_modify]
    have := h.2.1.size
    omega
  · unfold sortWorldK Sort.grow Sort.putRowK Sort.putRow Sort.mapBlock
    show ((wr.heap.modify g _) ++ os)[k]? = _
    have hk2 : k < wr.heap.size := Nat.lt_of_lt_of_le hk h.2.1.size
    rw [Array.getElem?_append_left (by rw [Array.size_modify]; exact hk2), Array.getElem?_modify, if_neg (by omega)]
    exact h.2.1.block k hk
end Go.Proofs.YtlmndmfebgaidaaGreatDoor
namespace Go.Proofs.YtlmndmfebgaidaaGreatDoor
open Go.RowKit
set_option linter.unusedVariables false
def BDR (w w' : World) : Prop := Below w.heap.size w w' ∧ w.drawn ≤ w'.drawn
theorem BDR.refl (w : World) : BDR w w := ⟨Below.refl _ _, Nat.le_refl _⟩
theorem BDR.step {a b c : World} (h : BDR a b) (k : BDR b c) : BDR a c := ⟨Below.step h.1 k.1, Nat.le_trans h.2 k.2⟩
theorem bdr_box (w : World) (o : Obj) : BDR w (w.alloc o) := ⟨boxR_below w o, Nat.le_refl _⟩
theorem BDR.grow {w w' : World} (h : BDR w w') : ∃ (q : Nat) (os : Array Obj), w' = Sort.grow (w.drewN q) os := by
  obtain ⟨⟨h1, h2, h3, h4, h5⟩, h6⟩ := h
  refine ⟨w'.drawn - w.drawn, w'.heap.extract w.heap.size w'.heap.size, ?_⟩
  obtain ⟨hp, tp, dr, os, ou⟩ := w'
  simp only at h1 h2 h3 h4 h5 h6
  subst h1 h2 h3
  unfold Sort.grow World.drewN
  have e : w.drawn + (dr - w.drawn) = dr := by omega
  simp only [e]
  congr 1
  apply Array.ext_getElem?
  intro k
  rw [Array.getElem?_append]
  split
  · exact h5 k (by assumption)
  · rw [Array.getElem?_extract]
    split
    · rw [show w.heap.size + (k - w.heap.size) = k by omega]
    · exact Array.getElem?_eq_none (by omega)
def cmpU (x y : Nat) : Int := if x < y then -1 else if y < x then 1 else 0
theorem cmpU_less {x y : Nat} : cmpU x y < 0 ↔ x < y := by
  unfold cmpU
  split
  · omega
  · split <;> omega
theorem nanU_any (x : Nat) (w : World) : Calls Tryz.prog 117 #[.int .u32 (x : Int)] w fun e w' => e = .returned (.bool false) ∧ w' = w := by
  go_enter Tryz.func117, Tryz.ntmps117
  go_wp2_with fail
  go_ret
  exact ⟨by simp, rfl⟩
set_option maxHeartbeats 500000 in
theorem cmpU_any (x y : Nat) (w : World) : Calls Tryz.prog 103 #[.int .u32 (x : Int), .int .u32 (y : Int)] w fun e w' => e = .returned (.int .i64 (cmpU x y)) ∧ w' = w := by
  have CX := Lib.hid (fun W => nanU_any x W)
  have CY := Lib.hid (fun W => nanU_any y W)
  have E1 : x < y → Hid (cmpU x y = -1) := fun h => Lib.hid (if_pos h)
  have E2 : ¬ x < y → y < x → Hid (cmpU x y = 1) := fun h k => Lib.hid (by unfold cmpU; rw [if_neg h, if_pos k])
  have E3 : ¬ x < y → ¬ y < x → Hid (cmpU x y = 0) := fun h k => Lib.hid (by unfold cmpU; rw [if_neg h, if_neg k])
  generalize cmpU x y = c at *
  go_enter Tryz.func103, Tryz.ntmps103
  by_cases h1 : x < y
  · have F := E1 h1
    have t1 : decide ((x : Int) < (y : Int)) = true := decide_eq_true (by omega)
    have t1' : decide (x < y) = true := decide_eq_true h1
    clear E1 E2 E3
    go_wp2_with (first | (refine (CX.out _).mono ?_; rintro e w' ⟨rfl, rfl⟩; clear CX) | (refine (CY.out _).mono ?_; rintro e w' ⟨rfl, rfl⟩))
    go_ret
    exact ⟨by rw [F.out]; rfl, rfl⟩
  · have t1 : decide ((x : Int) < (y : Int)) = false := decide_eq_false (by omega)
    have t1' : decide (x < y) = false := decide_eq_false h1
    by_cases h2 : y < x
    · have F := E2 h1 h2
      have t2 : decide ((y : Int) < (x : Int)) = true := decide_eq_true (by omega)
      have t2' : decide (y < x) = true := decide_eq_true h2
      clear E1 E2 E3
      go_wp2_with (first | (refine (CX.out _).mono ?_; rintro e w' ⟨rfl, rfl⟩; clear CX) | (refine (CY.out _).mono ?_; rintro e w' ⟨rfl, rfl⟩))
      go_ret
      exact ⟨by rw [F.out]; rfl, rfl⟩
    · have F := E3 h1 h2
      have t2 : decide ((y : Int) < (x : Int)) = false := decide_eq_false (by omega)
      have t2' : decide (y < x) = false := decide_eq_false h2
      clear E1 E2 E3
      go_wp2_with (first | (refine (CX.out _).mono ?_; rintro e w' ⟨rfl, rfl⟩; clear CX) | (refine (CY.out _).mono ?_; rintro e w' ⟨rfl, rfl⟩))
      go_ret
      exact ⟨by rw [F.out]; rfl, rfl⟩
end Go.Proofs.YtlmndmfebgaidaaGreatDoor
namespace Go.Proofs.YtlmndmfebgaidaaGreatDoor
open Go.RowKit
set_option linter.unusedVariables false
section
variable {cz : Rg6 → Rg6 → Int} {key : Nat × Nat → Nat}
theorem lessR (hk : ∀ x y, cz x y < 0 ↔ key x.1 < key y.1) (x y : Rg6) : ltOf cz x y = decide (key x.1 < key y.1) := by
  unfold ltOf
  rw [Bool.eq_iff_iff, decide_eq_true_iff, decide_eq_true_iff]
  exact hk x y
theorem swoR (hk : ∀ x y, cz x y < 0 ↔ key x.1 < key y.1) : Sort.SWO (ltOf cz) where
  irrefl x := by rw [lessR hk]; simp
  trans x y z h1 h2 := by rw [lessR hk] at *; simp at *; omega
  ntrans x y z h1 h2 := by rw [lessR hk] at *; simp at *; omega
def RiseR (key : Nat × Nat → Nat) (L : List (Nat × Nat)) : Prop := L.Pairwise (fun a b => key a ≤ key b)
theorem riseR_of (hk : ∀ x y, cz x y < 0 ↔ key x.1 < key y.1) {d : Array Rg6} (h : Sort.SortedIn (ltOf cz) 0 d.size d) : RiseR key (bareR d) := by
  unfold RiseR
  rw [List.pairwise_iff_getElem]
  intro i j hi hj hij
  rw [bareR_len] at hi hj
  have := h i j (Nat.zero_le _) hij hj
  rw [lessR hk] at this
  rw [bareR_at d i hi, bareR_at d j hj]
  have := of_decide_eq_false this
  omega
theorem permR_of {d d' : Array Rg6} (h : Sort.PermIn 0 d.size d d') : (bareR d').Perm (bareR d) := by
  have hp := h.2.2
  have e1 : d.extract 0 d.size = d := by simp
  have e2 : d'.extract 0 d.size = d' := by rw [← h.1]; simp
  rw [e1, e2] at hp
  exact hp.map _
set_option maxHeartbeats 1000000 in
theorem sortR_any (F : Nat) (hk : ∀ x y, cz x y < 0 ↔ key x.1 < key y.1) (eg : ∀ args w, (callFunc F args).run Tryz.prog w = .ok (.enter F args) w) (lays : ∀ blk off size w, CmpLays Tryz.prog F #[] encR 2 cz blk off size w) (W0 w : World) (V : Value) (L : List (Nat × Nat)) (ho : RgOut W0 w V L) (hl : L.length ≤ 90000) :
    Calls Tryz.prog 101 #[V, .func (.func F) #[] #[]] w fun e w' => e = .returned (.tuple #[]) ∧ ∃ L', L'.Perm L ∧ RiseR key L' ∧ RgOut W0 w' V L' := by
  rcases ho.form with ⟨rfl, rfl⟩ | ⟨g, cap, rfl, hg0, hg1, hcap⟩
  · have hcon := AnyF.slices_SortFunc_none { Tryz.laysR6 with } none 0 (.func (.func F) #[] #[]) w
    refine Calls.mono hcon ?_
    rintro e w' ⟨he, rfl⟩
    exact ⟨he, [], List.Perm.refl _, List.Pairwise.nil, ho⟩
  · have hd := bareR_with L ho.2.2
    have hsz := withR_size L ho.2.2
    generalize withR L ho.2.2 = d at hd hsz
    subst hd
    rw [bareR_len] at hl
    have aE : ∀ w, (isAgg 54).run Tryz.prog w = .ok true w := fun w => by simp [isAgg, run_underlying Tryz.underlying54]
    have zE : ∀ w, (Go.sizeOf 54).run Tryz.prog w = .ok 2 w := fun w => by kernel_rfl
    have hcon := AnyQ.slices_SortFunc Tryz.laysR6 2 aE zE encR encR_len encR_one cz (swoR hk) F #[] g 0 cap d w eg (lays g 0 d.size w) (ho.holds (bareR_len d)) hg1 (by omega)
    rw [← bareR_len d] at hcon
    refine Calls.mono hcon ?_
    rintro e w' ⟨he, d', n, os, hp, hs, rfl⟩
    rw [bareR_len] at hp hs
    refine ⟨he, bareR d', permR_of hp, riseR_of hk (by rw [hp.1]; exact hs), ho.sorted (bareR_len d) hp.1⟩
end
end Go.Proofs.YtlmndmfebgaidaaGreatDoor
namespace Go.Proofs.YtlmndmfebgaidaaGreatDoor
open Go.RowKit
set_option linter.unusedVariables false
set_option maxHeartbeats 500000 in
theorem lessR_any (s t : Nat × Nat) (w : World) : Calls Tryz.prog 102 #[.agg (rcells s), .agg (rcells t)] w fun e w' => e = .returned (.int .i64 (cmpU s.1 t.1)) ∧ BDR w w' := by
  have CC := Lib.hid (fun W => cmpU_any s.1 t.1 W)
  have BX := Blk.alloc (rbox w s) (.cells (rcells t) 54)
  have by' := rbox (w.alloc (.cells (rcells s) 54)) t
  rw [show (w.alloc (.cells (rcells s) 54)).heap.size = w.heap.size + 1 by simp] at by'
  have c1 : ((w.alloc (.cells (rcells s) 54)).alloc (.cells (rcells t) 54)).cell? ⟨w.heap.size, 0, none⟩ = some (.int .u32 (s.1 : Int)) := Blk.cell BX 0
  have c2 : ((w.alloc (.cells (rcells s) 54)).alloc (.cells (rcells t) 54)).cell? ⟨w.heap.size + 1, 0, none⟩ = some (.int .u32 (t.1 : Int)) := Blk.cell by' 0
  have BW := Lib.hid (BDR.step (bdr_box w (.cells (rcells s) 54)) (bdr_box _ (.cells (rcells t) 54)))
  clear BX by'
  go_enter Tryz.func102, Tryz.ntmps102
  generalize cmpU s.1 t.1 = c at *
  generalize s.1 = x at *
  generalize t.1 = y at *
  generalize hw2 : (w.alloc (.cells (rcells s) 54)).alloc (.cells (rcells t) 54) = w2 at *
  go_wp2_with (go_at_call 103; refine (CC.out _).mono ?_; rintro r w3 ⟨rfl, rfl⟩)
  go_ret
  exact ⟨rfl, BW.out⟩
set_option maxHeartbeats 1000000 in
set_option maxRecDepth 100000 in
theorem pkSorted : PkSorted := by
  intro a n c L w hr hn
  have C1 := Lib.hid (cloneR_any a n c L w hr.1 hr.2 hn)
  have hL : L.length ≤ 90000 := by rw [hr.1.1]; exact hn
  have hF : (L.filter validP).length ≤ 90000 := Nat.le_trans (List.length_filter_le _ _) hL
  have C2 : Hid (∀ V W, Hid (RgOut w W V L) → Calls Tryz.prog 99 #[V, .func (.func 100) #[] #[]] W (GivesInR w (L.filter validP))) := Lib.hid (fun V W h => deleteR_any w W V L h.out hL)
  have C3 : Hid (∀ V W, Hid (RgOut w W V (L.filter validP)) → Calls Tryz.prog 101 #[V, .func (.func 102) #[] #[]] W fun e w' => e = .returned (.tuple #[]) ∧ ∃ L', L'.Perm (L.filter validP) ∧ RiseR (fun p => p.1) L' ∧ RgOut w w' V L') := Lib.hid (fun V W h => sortR_any (cz := fun x y => cmpU x.1.1 y.1.1) (key := fun p => p.1) 102 (fun x y => cmpU_less) (enters_of Tryz.func102 (by kernel_rfl) rfl) (fun blk off size w => fun _ _ _ _ x y => (lessR_any x.1 y.1 _).mono (fun _ _ h => ⟨h.1, h.2.grow⟩)) w W V _ h.out hF)
  clear hr hL hF
  go_enter Tryz.func69, Tryz.ntmps69
  go_wp2_with (first
    | (go_at_call 75; refine C1.out.mono ?_; rintro r w1 ⟨V1, rfl, ho1⟩; have O1 := Lib.hid ho1; clear ho1 C1)
    | (go_at_call 99; refine (C2.out _ _ O1).mono ?_; rintro r w2 ⟨V2, rfl, ho2⟩; have O2 := Lib.hid ho2; clear ho2 C2 O1)
    | (go_at_call 101; refine (C3.out _ _ O2).mono ?_; rintro r w3 ⟨rfl, L3, hp3, hs3, ho3⟩; have O3 := Lib.hid ho3; have P3 := Lib.hid hp3; have S3 := Lib.hid hs3; clear ho3 hp3 hs3 C3 O2))
  go_ret
  exact ⟨_, _, rfl, O3.out, P3.out, S3.out⟩
end Go.Proofs.YtlmndmfebgaidaaGreatDoor
namespace Go.Proofs.YtlmndmfebgaidaaGreatDoor
open Go.RowKit
set_option linter.unusedVariables false
def OffR (g : Nat) (a b : World) : Prop := a.heap.size ≤ b.heap.size ∧ ∀ k, k ≠ g → k < a.heap.size → b.heap[k]? = a.heap[k]?
theorem OffR.refl (g : Nat) (w : World) : OffR g w w := ⟨Nat.le_refl _, fun _ _ _ => rfl⟩
theorem OffR.trans {g : Nat} (a b c : World) (h : OffR g a b) (k : OffR g b c) : OffR g a c := ⟨Nat.le_trans h.1 k.1, fun i hi hl => (k.2 i hi (Nat.lt_of_lt_of_le hl h.1)).trans (h.2 i hi hl)⟩
theorem OffR.set (g o : Nat) (w : World) (v : Value) : OffR g w (w.setCell ⟨g, o, none⟩ v) := ⟨(Below.setCell (Below.refl g w) (p := ⟨g, o, none⟩) (Nat.le_refl _) v).size, fun k hk _ => heap_setCell_other w ⟨g, o, none⟩ k v hk⟩
theorem OffR.cell {g k o : Nat} {w W : World} (h : OffR g w W) (hk : k ≠ g) (hl : k < w.heap.size) : W.cell? ⟨k, o, none⟩ = w.cell? ⟨k, o, none⟩ := World.cell?_of_block (a := ⟨k, o, none⟩) (h.2 k hk hl)
theorem opR_load {o : Oper} {a : Act} {w : World} {K : Act → World → Prop} {Q : Exit → Act → World → Prop} (x : Operand) (ho : o.op = .load 52 x) (g off : Nat) (v : Value) (hx : a.eval x = .pointer (some ⟨g, off, none⟩)) (hc : w.cell? ⟨g, off, none⟩ = some v) (hK : K (a.put o.dst v) w) : o.wp Tryz.prog a w K Q := by
  unfold Oper.wp
  rw [yields_u32 x ho g off v hx hc]
  exact hK
theorem join_filter (L : List (Nat × Nat)) : joinZ (L.filter validP) = joinZ L := norm_one (norm_join _) (norm_join _) (fun x => by rw [in_join, in_join, in_filter])
theorem merge_top {c : Nat × Nat} : ∀ {r : List (Nat × Nat)}, (∀ p ∈ r, p.2 ≤ c.2 ∧ p.1 ≤ c.2 + 1) → mergeZ c r = [c]
  | [], _ => rfl
  | p :: r, h => by
    obtain ⟨h1, h2⟩ := h p (by simp)
    unfold mergeZ
    rw [if_pos h2, Nat.max_eq_left h1]
    exact merge_top (fun q hq => h q (by simp [hq]))
theorem run_top {S T O : List (Nat × Nat)} {k e : Nat} (h : RunAt S T k O) (ho : Under 4294967296 S) (he : O.length = e + 1) (ht : (O[e]'(by omega)).2 = 4294967295) : O = T := by
  rcases h with ⟨rfl, _⟩ | ⟨D, c, rfl, hj⟩
  · simp at he
  have hD : D.length = e := by simpa using he
  subst hD
  have ec : (D ++ [c])[D.length]'(by simp) = c := by simp
  rw [ec] at ht
  rw [merge_top (fun p hp => by
    obtain ⟨_, u⟩ := ho p (List.mem_of_mem_drop (List.mem_filter.1 hp).1)
    have v : p.1 ≤ p.2 := of_decide_eq_true (List.mem_filter.1 hp).2
    omega)] at hj
  exact hj
set_option maxHeartbeats 2000000 in
set_option maxRecDepth 100000 in
theorem pkJoin_of (PS : PkSorted) : PkJoin := by
  intro a n c L w hr hn
  have C1 : Hid (Calls Tryz.prog 69 #[.slice a n c] w (GivesSortedR L w)) := Lib.hid (PS a n c L w hr (by omega))
  have ME : Hid (∀ S : List (Nat × Nat), S.Perm (L.filter validP) → S.Pairwise (fun a b => a.1 ≤ b.1) → mergeAllZ (S.filter validP) = joinZ L) := Lib.hid (fun S hp hs => (merge_all hp hs).trans (join_filter L))
  have HV : Hid (∀ S : List (Nat × Nat), S.Perm (L.filter validP) → ∀ p ∈ S, p.1 ≤ p.2) := Lib.hid (fun S hp p hm => of_decide_eq_true (List.mem_filter.1 (hp.mem_iff.1 hm)).2)
  have HF : Hid (∀ S : List (Nat × Nat), S.Perm (L.filter validP) → S.length ≤ 10000) := Lib.hid (fun S hp => by
    rw [hp.length_eq]
    have := List.length_filter_le validP L
    have := hr.1.1
    omega)
  clear hr hn PS
  generalize joinZ L = J at *
  go_enter Tryz.func42, Tryz.ntmps42
  go_wp2_with fail
  go_step3
  go_wp2_with fail
  go_step3
  go_wp2_with (go_at_call 69
               refine C1.out.mono ?_
               rintro r w2 ⟨V2, S, rfl, ho2, hp2, hs2⟩
               have SL := Lib.hid (HF.out S hp2)
               have MJ := Lib.hid (ME.out S hp2 hs2)
               have VS := Lib.hid (HV.out S hp2)
               obtain ⟨aS, cS, hV, hrow⟩ := ho2.arg
               have RS := Lib.hid hrow.1
               have US := Lib.hid hrow.under
               have B2 := Lib.hid ho2.2.1
               subst hV
               clear ho2 hp2 hs2 hrow C1 ME HV HF)
  have R0 := Lib.hid (run_start S)
  rw [MJ.out] at R0
  clear MJ
  obtain ⟨m, hm⟩ : ∃ m, S.length = m := ⟨_, rfl⟩
  have HM := Lib.hid hm
  rw [hm] at RS SL
  rw [hm]
  clear hm
  go_loopw [3, 10] (fun oV kV wr => ∃ (k : Nat) (O : List (Nat × Nat)), kV = .int .i64 (k : Int) ∧ k ≤ m ∧ O.length ≤ k ∧ RunAt S J k O ∧ RgOut w2 wr oV O) (fun _ kV _ => ((m : Int) - intOf kV).toNat)
  case atStart => exact ⟨0, [], rfl, Nat.zero_le _, Nat.le_refl _, R0.out, RgOut.start w2⟩
  case round =>
    obtain ⟨k, O, rfl, hk, hok, hat, ho⟩ := hrel
    have M5 := Lib.hid hat
    have O5 := Lib.hid ho
    clear hat ho R0
    by_cases hlt : k < m
    · have t0 : decide ((k : Int) < (m : Int)) = true := decide_eq_true (by omega)
      have t0' : decide (k < m) = true := decide_eq_true hlt
      obtain ⟨bS, oS, rfl, _⟩ := RS.out.form (by omega)
      have kl : k < S.length := by rw [HM.out]; exact hlt
      have i0 : (0 : Int) ≤ (k : Int) := by omega
      have i1 : (k : Int) < (m : Int) := by omega
      have kI : IntKind.i64.wrap ((k : Int) + 1) = (k : Int) + 1 := IntWalk.i64_in _ (by have := SL.out; omega)
      have ok := RS.out.2.1 _ (List.getElem_mem kl)
      have hv := VS.out _ (List.getElem_mem kl)
      have RG := Lib.hid ((RS.out.below O5.out.2.1).range k kl)
      have LK := Lib.hid hok
      have M1 := Lib.hid (fun (h : O = []) => run_first (S := S) (T := J) (k := k) (by rw [← h]; exact M5.out) kl hv)
      have M2 := Lib.hid (fun e (he : O.length = e + 1) => run_step M5.out kl he hv)
      have M3 := Lib.hid (fun e (he : O.length = e + 1) ht => run_top (e := e) M5.out US.out he ht)
      clear M5 hok
      generalize S[k] = p at *
      have XB := Lib.hid (rbox wr p)
      have OB := Lib.hid (O5.out.below (boxR_below wr (.cells (rcells p) 54)))
      have OKP := Lib.hid ok
      obtain ⟨okx, oky⟩ := ok
      go_upto_region 5 with (first
        | ((with_reducible refine load_range_at 12 bS (oS + k * 2) p ?_ RG.out ?_); (· rfl))
        | (with_reducible refine allocR_at ?_)
        | ((with_reducible refine storeR_at 5 13 wr p ?_ ?_ ?_ ?_); (· rfl); (· rfl); (· rfl)))
      obtain ⟨g6, hg6⟩ : ∃ g6, g6 = wr.heap.size := ⟨_, rfl⟩
      have G6 : Hid (g6 = wr.heap.size) := Lib.hid hg6
      rw [← hg6] at XB
      rw [← hg6]
      clear hg6 RG
      generalize wr.alloc (.cells (rcells p) 54) = w6 at *
      have LM : Hid (O.length + 1 ≤ 100000) := Lib.hid (by have := LK.out; have := SL.out; omega)
      rcases Nat.eq_zero_or_pos O.length with h0 | hpos
      · obtain rfl : O = [] := List.eq_nil_of_length_eq_zero h0
        have MN := Lib.hid (M1.out rfl)
        obtain ⟨aO, cO, hV, _, _⟩ := OB.out.row
        have hV : _ = Value.slice aO 0 cO := hV
        subst hV
        clear M1 M2 M3 h0
        go_wp2_with (first
          | ((with_reducible refine wholeR_at 5 g6 p ?_ XB.out ?_); (· rfl))
          | ((with_reducible refine slice_range_at 33 p ?_ ?_); (· rfl))
          | (at_builtin; go_must (refine rg_append (W0 := w2) (L := []) (zs := [p]) rfl _ _ rfl rfl (OB.out.below (boxR_below _ _)) rfl (rg_one w6 OKP.out) (fun e => by cases e) LM.out ?_; intro V8 w8 ho8; have O8 := Lib.hid ho8; clear ho8)))
        go_roundw
        case rel => exact ⟨k + 1, [] ++ [p], by go_num, by omega, by simp only [List.nil_append, List.length_singleton]; omega, MN.out, O8.out⟩
        case measure => simp only [intOf]; omega
      · obtain ⟨e, he⟩ : ∃ e, O.length = e + 1 := ⟨O.length - 1, by omega⟩
        obtain ⟨mn, mt⟩ := M2.out e he
        have mtop := M3.out e he
        obtain ⟨gO, cO, hV, hg0, hg1⟩ : ∃ g cap, _ = Value.slice (some ⟨g, 0, none⟩) O.length cap ∧ w2.heap.size ≤ g ∧ g ≠ g6 := by
          rcases O5.out.form with ⟨_, h⟩ | ⟨g, cap, h1, h2, h3, _⟩
          · rw [h] at hpos
            exact absurd hpos (by simp)
          · exact ⟨g, cap, h1, h2, by have := G6.out; omega⟩
        subst hV
        have E1 : e < O.length := by omega
        have okc := OB.out.2.2 _ (List.getElem_mem E1)
        have MN := Lib.hid mn
        have MT := Lib.hid mt
        have MP := Lib.hid mtop
        have OV : Hid (∀ W, RgOut w2 W (.slice (some ⟨gO, 0, none⟩) O.length cO) O → W.cell? ⟨gO, e * 2 + 1, none⟩ = some (.int .u32 ((O[e]'E1).2 : Int))) := Lib.hid (fun W h => by
          obtain ⟨a, c, hV, hr⟩ := h.arg
          injection hV with e1 e2
          subst e1
          have := hr.1.hi e E1
          rwa [Nat.zero_add] at this)
        have SE : Hid (∀ (z : Nat), z < 4294967296 → ∀ W, RgOut w2 W (.slice (some ⟨gO, 0, none⟩) O.length cO) O → RgOut w2 (W.setCell ⟨gO, e * 2 + 1, none⟩ (.int .u32 (z : Int))) (.slice (some ⟨gO, 0, none⟩) O.length cO) (O.set e ((O[e]'E1).1, z))) := Lib.hid (fun z hz W h => h.setHi rfl hg0 e E1 hz)
        have FR : Hid (∀ W, RgOut w2 W (.slice (some ⟨gO, 0, none⟩) O.length cO) O → W.frozen? ⟨gO, e * 2 + 1, none⟩ = false) := Lib.hid (fun W h => h.1.frozenAt _)
        clear mn mt mtop M1 M2 M3 hpos
        obtain ⟨c, hc⟩ : ∃ c, O[e]'E1 = c := ⟨_, rfl⟩
        simp only [hc] at MN MT MP OV SE okc
        clear hc
        obtain ⟨l, hl⟩ : ∃ l, O.length = l := ⟨_, rfl⟩
        have O5' := O5
        rw [hl] at OV SE FR OB LM LK E1 he O5'
        rw [hl]
        have HLn := Lib.hid hl
        have q1 : IntKind.i64.wrap ((l : Int) - 1) = (e : Int) := by
          rw [show (l : Int) - 1 = (e : Int) by omega]
          exact IntWalk.i64_in _ (by have := LM.out; omega)
        have x0 : (0 : Int) ≤ (e : Int) := by omega
        have x1 : (e : Int) < (l : Int) := by omega
        have t4 : decide ((e : Int) < 0) = false := decide_eq_false (by omega)
        clear he hl E1 O5
        obtain ⟨okc1, okc2⟩ := okc
        have CY := Lib.hid okc2
        have PY := Lib.hid oky
        have c9 := OV.out w6 OB.out
        by_cases htop : c.2 = 4294967295
        · have t6 : ((c.2 : Int) == 4294967295) = true := by rw [beq_iff_eq]; omega
          have EJ := Lib.hid (MP.out htop)
          have O9 := Lib.hid (OB.out.wider B2.out)
          clear MN MT MP OV SE FR XB OB O5' htop
          go_wp2_with fail
          go_ret
          exact ⟨_, rfl, by rw [← EJ.out]; exact O9.out⟩
        · have t6 : ((c.2 : Int) == 4294967295) = false := by rw [beq_eq_false_iff_ne]; omega
          have wc1 : IntKind.u32.wrap ((c.2 : Int) + 1) = (c.2 : Int) + 1 := IntWalk.u32_in _ (by omega)
          clear MP
          go_upto_region 10 with fail
          refine wp_region_ord Ext Ext.refl (fun _ _ _ => Ext.trans) ((0, false) :: (1, false) :: (2, false) :: (3, false) :: (4, false) :: (5, false) :: (6, false) :: (7, false) :: (8, false) :: (9, false) :: []) (by kernel_rfl) (by kernel_rfl) rfl (by kernel_rfl) (fun _ _ _ _ _ h => h) ?_
          have OX := Lib.hid (show RgOut w2 w6.drew (.slice (some ⟨gO, 0, none⟩) l cO) O from OB.out.below (drewN_below _ 1))
          have XX : Hid (Blk w6.drew g6 54 (rcells p)) := XB
          have C0 : Hid (w6.drew.cell? ⟨g6, 0, none⟩ = some (.int .u32 (p.1 : Int))) := Lib.hid (Blk.cell XB.out 0)
          have C1 : Hid (w6.drew.cell? ⟨g6, 1, none⟩ = some (.int .u32 (p.2 : Int))) := Lib.hid (Blk.cell XB.out 1)
          have GX : Hid (g6 < w6.drew.heap.size) := Lib.hid XB.out.lt
          clear OB XB c9 O5' htop t6
          generalize w6.drew = w7 at *
          by_cases ht : p.1 ≤ c.2 + 1
          · have t5 : decide ((c.2 : Int) + 1 < (p.1 : Int)) = false := decide_eq_false (by omega)
            have t5' : decide (c.2 + 1 < p.1) = false := decide_eq_false (by omega)
            have MM := Lib.hid (MT.out ht)
            clear MN MT
            repeat (first
              | (refine ord_skip rfl (by rfl) ?_; simp only [Act.put, List.setIfInBounds_toArray, List.set_cons_zero, List.set_cons_succ])
              | (refine ord_take _ rfl (by rfl) (fun W hW => yields_u32 (.tmp 49) rfl gO (e * 2 + 1) _ rfl (OV.out W (OX.out.below hW))) ?_; simp only [Act.put, List.setIfInBounds_toArray, List.set_cons_zero, List.set_cons_succ])
              | (refine ord_take _ rfl (by rfl) (fun W hW => yields_u32 (.tmp 44) rfl g6 0 _ rfl ((Below.cell hW (p := ⟨g6, 0, none⟩) GX.out).trans C0.out)) ?_; simp only [Act.put, List.setIfInBounds_toArray, List.set_cons_zero, List.set_cons_succ])
              | (refine ord_take _ rfl (by rfl) (fun W hW => by go_simp; first | done | rfl) ?_; simp only [Act.put, List.setIfInBounds_toArray, List.set_cons_zero, List.set_cons_succ]))
            refine ord_end ?_
            have mm : max (c.2 : Int) (p.2 : Int) = ((max c.2 p.2 : Nat) : Int) := by omega
            have mz : Hid (max c.2 p.2 < 4294967296) := Lib.hid (by have := CY.out; have := PY.out; omega)
            go_upto_region 6 with fail
            refine wp_region_ord (OffR gO) (OffR.refl gO) OffR.trans ((0, false) :: (1, false) :: (2, false) :: (3, false) :: (4, false) :: (5, false) :: (7, false) :: (8, false) :: (6, true) :: (9, false) :: (10, false) :: (11, false) :: (12, true) :: []) (by kernel_rfl) (by kernel_rfl) rfl (by kernel_rfl) (fun _ _ _ _ _ h => h) ?_
            have OY := Lib.hid (show RgOut w2 w7.drew (.slice (some ⟨gO, 0, none⟩) l cO) O from OX.out.below (drewN_below _ 1))
            have D1 : Hid (w7.drew.cell? ⟨g6, 1, none⟩ = some (.int .u32 (p.2 : Int))) := Lib.hid C1.out
            have DX : Hid (g6 < w7.drew.heap.size) := Lib.hid GX.out
            clear OX C0 C1 GX XX
            generalize w7.drew = w8 at *
            have V8 := Lib.hid (OV.out _ OY.out)
            have F8 := Lib.hid (FR.out _ OY.out)
            have S8 := Lib.hid (SE.out _ mz.out _ OY.out)
            clear OY OV FR SE
            repeat (first
              | (refine ord_skip rfl (by rfl) ?_; simp only [Act.put, List.setIfInBounds_toArray, List.set_cons_zero, List.set_cons_succ])
              | (refine ord_take _ rfl (by rfl) (fun W hW => yields_u32 (.tmp 24) rfl g6 1 _ rfl ((OffR.cell hW (Ne.symm hg1) DX.out).trans D1.out)) ?_; simp only [Act.put, List.setIfInBounds_toArray, List.set_cons_zero, List.set_cons_succ])
              | (refine ord_take _ rfl (by rfl) (fun W hW => by go_simp; first | done | rfl) ?_; simp only [Act.put, List.setIfInBounds_toArray, List.set_cons_zero, List.set_cons_succ])
              | (refine ord_sole rfl (by rfl) (fun K1 hK1 => ?_)
                 refine opR_load (.tmp 22) rfl gO (e * 2 + 1) _ rfl V8.out ?_
                 refine hK1 _ _ (OffR.refl _ _) ?_
                 clear hK1 K1
                 simp only [Act.put, List.setIfInBounds_toArray, List.set_cons_zero, List.set_cons_succ])
              | (refine ord_sole rfl (by rfl) (fun K1 hK1 => ?_)
                 refine opR_store (.tmp 28) (.tmp 26) rfl rfl gO (e * 2 + 1) _ ((max c.2 p.2 : Nat) : Int) rfl rfl V8.out F8.out ?_
                 refine hK1 _ _ (OffR.set _ _ _ _) ?_
                 clear hK1 K1))
            refine ord_end ?_
            go_wp2_with fail
            go_roundw
            case rel => exact ⟨k + 1, _, by go_num, by omega, by rw [List.length_set, HLn.out]; have := LK.out; omega, MM.out, S8.out⟩
            case measure => simp only [intOf]; omega
          · have t5 : decide ((c.2 : Int) + 1 < (p.1 : Int)) = true := decide_eq_true (by omega)
            have t5' : decide (c.2 + 1 < p.1) = true := decide_eq_true (by omega)
            have MM := Lib.hid (MN.out ht)
            clear MN MT
            repeat (first
              | (refine ord_skip rfl (by rfl) ?_; simp only [Act.put, List.setIfInBounds_toArray, List.set_cons_zero, List.set_cons_succ])
              | (refine ord_take _ rfl (by rfl) (fun W hW => yields_u32 (.tmp 49) rfl gO (e * 2 + 1) _ rfl (OV.out W (OX.out.below hW))) ?_; simp only [Act.put, List.setIfInBounds_toArray, List.set_cons_zero, List.set_cons_succ])
              | (refine ord_take _ rfl (by rfl) (fun W hW => yields_u32 (.tmp 44) rfl g6 0 _ rfl ((Below.cell hW (p := ⟨g6, 0, none⟩) GX.out).trans C0.out)) ?_; simp only [Act.put, List.setIfInBounds_toArray, List.set_cons_zero, List.set_cons_succ])
              | (refine ord_take _ rfl (by rfl) (fun W hW => by go_simp; first | done | rfl) ?_; simp only [Act.put, List.setIfInBounds_toArray, List.set_cons_zero, List.set_cons_succ]))
            refine ord_end ?_
            go_wp2_with (first
              | ((with_reducible refine wholeR_at 5 g6 p ?_ XX.out ?_); (· rfl))
              | ((with_reducible refine slice_range_at 54 p ?_ ?_); (· rfl))
              | (at_builtin; go_must (refine rg_append (W0 := w2) (L := O) (zs := [p]) rfl _ _ rfl rfl (OX.out.below (boxR_below _ _)) rfl (rg_one w7 OKP.out) (fun e => by cases e) (by rw [HLn.out]; exact LM.out) ?_; intro V8 w8 ho8; have O8 := Lib.hid ho8; clear ho8)))
            go_roundw
            case rel => exact ⟨k + 1, O ++ [p], by go_num, by omega, by rw [List.length_append, HLn.out]; have := LK.out; show _ + 1 ≤ k + 1; omega, MM.out, O8.out⟩
            case measure => simp only [intOf]; omega
    · have t0 : decide ((k : Int) < (m : Int)) = false := decide_eq_false (by omega)
      have t0' : decide (k < m) = false := decide_eq_false hlt
      have e := run_end (S := S) (T := J) (O := O) (by rw [HM.out]; rw [show m = k by omega]; exact M5.out)
      subst e
      have O9 := Lib.hid (O5.out.wider B2.out)
      clear M5 O5 RS
      go_wp2_with fail
      go_ret
      exact ⟨_, rfl, O9.out⟩
end Go.Proofs.YtlmndmfebgaidaaGreatDoor
namespace Go.Proofs.YtlmndmfebgaidaaGreatDoor
open Go.RowKit
set_option linter.unusedVariables false
set_option linter.unusedSimpArgs false
set_option maxRecDepth 100000
set_option maxHeartbeats 1000000 in
theorem equalR_any (a b : Option Addr) (n c m d : Nat) (L M : List (Nat × Nat)) (w : World) (hr : RgArg w a n c L) (hn : n ≤ 100000) (hs : RgArg w b m d M) (hm : m ≤ 100000) :
    Calls Tryz.prog 41 #[.slice a n c, .slice b m d] w fun e w' => e = .returned (.bool (eqLR L M)) ∧ Below w.heap.size w w' := by
  have RL := Lib.hid hr.1
  have RM := Lib.hid hs.1
  have HL := Lib.hid hr.1.1
  have HM := Lib.hid hs.1.1
  clear hr hs
  have E0 : Hid (L.length ≠ M.length → eqLR L M = false) := Lib.hid (fun h => decide_eq_false (fun e => h (by rw [e])))
  have E1 : Hid (L = M → eqLR L M = true) := Lib.hid (fun e => decide_eq_true e)
  have ES := Lib.hid (fun k (hl : k < L.length) (hm : k < M.length) ht => eqLR_step hl hm ht)
  generalize eqLR L M = r0 at *
  go_enter Tryz.func41, Tryz.ntmps41
  by_cases hnm : n = m
  · subst hnm
    go_wp2_with fail
    go_loopw [13] (fun iV wr => ∃ k : Nat, iV = .int .i64 (k : Int) ∧ k ≤ n ∧ L.take k = M.take k ∧ Below w.heap.size w wr) (fun iV _ => ((n : Int) - intOf iV).toNat)
    case atStart => exact ⟨0, rfl, Nat.zero_le _, rfl, Below.refl _ _⟩
    case round =>
      obtain ⟨k, rfl, hk, he, hb⟩ := hrel
      have B5 := Lib.hid hb
      have E5 := Lib.hid he
      clear hb he
      by_cases hlt : k < n
      · have t0 : decide ((k : Int) < (n : Int)) = true := decide_eq_true (by omega)
        have t0' : decide (k < n) = true := decide_eq_true hlt
        obtain ⟨bA, oA, rfl, _⟩ := RL.out.form (by omega)
        obtain ⟨bB, oB, rfl, _⟩ := RM.out.form (by omega)
        have kl : k < L.length := by rw [HL.out]; exact hlt
        have km : k < M.length := by rw [HM.out]; exact hlt
        obtain ⟨e1, e2⟩ := ES.out k kl km E5.out
        have EY := Lib.hid e1
        have EN := Lib.hid e2
        have RG := Lib.hid (fun W (h : Below w.heap.size w W) => (RL.out.below h).range k kl)
        have SG := Lib.hid (fun W (h : Below w.heap.size w W) => (RM.out.below h).range k km)
        clear e1 e2 ES
        generalize L[k] = s at *
        generalize M[k] = t at *
        have LS : Hid ((Tryz.prog.info? 54).map (·.size) = some (rcL s).length) := Lib.hid (by kernel_rfl)
        have LT : Hid ((Tryz.prog.info? 54).map (·.size) = some (rcL t).length) := Lib.hid (by kernel_rfl)
        have i0 : (0 : Int) ≤ (k : Int) := by omega
        have i1 : (k : Int) < (n : Int) := by omega
        have kI : IntKind.i64.wrap ((k : Int) + 1) = (k : Int) + 1 := IntWalk.i64_in _ (by omega)
        clear kl km E5
        go_upto_region 6 with fail
        have B6 : Hid (Below w.heap.size w wr.drew) := Lib.hid B5.out.drew
        clear B5
        refine wp_region_ord Ext Ext.refl (fun _ _ _ => Ext.trans) ((0, false) :: (1, false) :: (2, false) :: (3, false) :: (4, false) :: (5, false) :: (6, false) :: (7, false) :: (8, false) :: []) (by kernel_rfl) (by kernel_rfl) rfl (by kernel_rfl) (fun _ _ _ _ _ h => h) ?_
        generalize wr.drew = w6 at *
        repeat (first
          | (refine ord_skip rfl (by rfl) ?_; simp only [Act.put, List.setIfInBounds_toArray, List.set_cons_zero, List.set_cons_succ])
          | (refine ord_take _ rfl (by rfl) (fun W hW => yields_neqR (.tmp 19) (.tmp 23) rfl rfl rfl (s := s) (t := t)) ?_; simp only [Act.put, List.setIfInBounds_toArray, List.set_cons_zero, List.set_cons_succ])
          | (refine ord_take (.agg (rcells s)) rfl (by rfl) (fun W hW => yields_partR 54 (.tmp 18) rfl bA (oA + k * 2) (rcL s) _ rfl (RG.out W (B6.out.trans (hW.mono B6.out.size))) Tryz.underlying54 rfl LS.out) ?_; simp only [Act.put, List.setIfInBounds_toArray, List.set_cons_zero, List.set_cons_succ])
          | (refine ord_take (.agg (rcells t)) rfl (by rfl) (fun W hW => yields_partR 54 (.tmp 22) rfl bB (oB + k * 2) (rcL t) _ rfl (SG.out W (B6.out.trans (hW.mono B6.out.size))) Tryz.underlying54 rfl LT.out) ?_; simp only [Act.put, List.setIfInBounds_toArray, List.set_cons_zero, List.set_cons_succ])
          | (refine ord_take _ rfl (by rfl) (fun W hW => by go_simp; first | done | rfl) ?_; simp only [Act.put, List.setIfInBounds_toArray, List.set_cons_zero, List.set_cons_succ]))
        refine ord_end ?_
        cases hq : eqR s t with
        | true =>
          have E6 := Lib.hid (EY.out (eqR_is.1 hq))
          clear EY EN
          go_wp2_with fail
          go_roundw
          case rel => exact ⟨k + 1, by go_num, by omega, E6.out, B6.out⟩
          case measure => simp only [intOf]; omega
        | false =>
          have E6 := Lib.hid (EN.out (fun e => by rw [eqR_is.2 e] at hq; cases hq))
          clear EY EN
          go_wp2_with fail
          go_ret
          exact ⟨by rw [E6.out]; rfl, B6.out⟩
      · have t0 : decide ((k : Int) < (n : Int)) = false := decide_eq_false (by omega)
        have t0' : decide (k < n) = false := decide_eq_false hlt
        have e := E5.out
        rw [List.take_of_length_le (by rw [HL.out]; omega), List.take_of_length_le (by rw [HM.out]; omega)] at e
        have E6 := Lib.hid (E1.out e)
        clear e E5
        go_wp2_with fail
        go_ret
        exact ⟨by rw [E6.out]; rfl, B5.out⟩
  · have E6 := Lib.hid (E0.out (by rw [HL.out, HM.out]; exact hnm))
    have t0 : ((n : Int) != (m : Int)) = true := by simp; omega
    go_wp2_with fail
    go_ret
    exact ⟨by rw [E6.out]; rfl, Below.refl _ _⟩
set_option maxHeartbeats 4000000 in
theorem right13_any (r : ResZ) (v : Value) (w : World) (h : ResAt w v r) (hl : r.sp.length ≤ 40000) (hm : r.ns.length ≤ 40000) : Calls Tryz.prog 17 #[v] w fun e w' => e = .returned (.bool (rightR r)) ∧ Below w.heap.size w w' := by
  obtain ⟨a, n, c, b, m, d, rfl, h1, h2⟩ := h
  have hn' := h1.1.1
  have hm' := h2.1.1
  have BX := resbox w r.inh (.slice a n c) (.slice b m d)
  have bw := boxR_below w (.cells (resC r.inh (.slice a n c) (.slice b m d)) 25)
  have S1 := Lib.hid (h1.below bw)
  have R1 := Lib.hid (h2.below bw)
  have BW := Lib.hid bw
  clear bw
  generalize hw2 : w.alloc (.cells (resC r.inh (.slice a n c) (.slice b m d)) 25) = w2 at *
  obtain ⟨g, hg⟩ : ∃ g, w.heap.size = g := ⟨_, rfl⟩
  rw [hg] at BX
  have c0 : w2.cell? ⟨g, 0, none⟩ = some (.bool r.inh) := Blk.cell BX 0
  have c1 : w2.cell? ⟨g, 1, none⟩ = some (.slice a n c) := Blk.cell BX 1
  have c2 : w2.cell? ⟨g, 2, none⟩ = some (.slice b m d) := Blk.cell BX 2
  have XB := Lib.hid BX
  have ER : Hid (rightR r = if r.inh = true then decide (n = 0) && decide (m = 0) else if n + m = 0 ∨ 400 < n ∨ 400 < m then false else eqLS r.sp (joinS r.sp) && eqLR r.ns (joinZ r.ns)) := Lib.hid (by unfold rightR; rw [hn', hm', eqLS_turned r.sp, show eqLR r.ns (joinZ r.ns) = eqLR (joinZ r.ns) r.ns from decide_eq_decide.2 ⟨Eq.symm, Eq.symm⟩])
  have CJ := Lib.hid (fun W (h : SpArg W a n c r.sp) => join_any a n c r.sp W h.1 h.2 (by omega))
  have CS := Lib.hid (fun (A : Option Addr) (k ca : Nat) (X : List SpanZ) (W : World) (h : SpArg W A k ca X) (hk : k ≤ 90000) (g : SpArg W a n c r.sp) => equalS_any a A n c k ca r.sp X W g.1 (by omega) h.1 hk)
  have CI := Lib.hid (fun W (h : RgArg W b m d r.ns) (hm : m ≤ 10000) => pkJoin_of pkSorted b m d r.ns W h hm)
  have CT := Lib.hid (fun (A : Option Addr) (k ca : Nat) (X : List (Nat × Nat)) (W : World) (h : RgArg W A k ca X) (hk : k ≤ 100000) (g : RgArg W b m d r.ns) => equalR_any b A m d k ca r.ns X W g (by omega) h hk)
  have LJ : Hid ((joinS r.sp).length ≤ 90000) := Lib.hid (by have := joinS_len r.sp; omega)
  have LI : Hid ((joinZ r.ns).length ≤ 100000) := Lib.hid (by have := join_len' r.ns; omega)
  clear BX h1 h2 hn' hm'
  generalize rightR r = z at *
  generalize joinS r.sp = J at *
  generalize joinZ r.ns = I at *
  have hnm : n ≤ 40000 ∧ m ≤ 40000 := by
    have := S1.out.1.1
    have := R1.out.1.1
    omega
  obtain ⟨n4, m4⟩ := hnm
  clear hl hm
  generalize r.inh = i at *
  generalize r.sp = X at *
  generalize r.ns = Y at *
  go_enter Tryz.func17, Tryz.ntmps17
  cases i with
  | true =>
    have e := ER.out
    rw [if_pos rfl] at e
    by_cases n0 : n = 0
    · have t1 : ((n : Int) == 0) = true := by rw [beq_iff_eq]; omega
      rw [decide_eq_true n0, Bool.true_and] at e
      by_cases m0 : m = 0
      · have t2 : ((m : Int) == 0) = true := by rw [beq_iff_eq]; omega
        rw [decide_eq_true m0] at e
        have E2 := Lib.hid e
        clear e ER n0 m0
        go_wp2_with fail
        go_ret
        exact ⟨by rw [E2.out]; rfl, BW.out⟩
      · have t2 : ((m : Int) == 0) = false := by rw [beq_eq_false_iff_ne]; omega
        rw [decide_eq_false m0] at e
        have E2 := Lib.hid e
        clear e ER n0 m0
        go_wp2_with fail
        go_ret
        exact ⟨by rw [E2.out]; rfl, BW.out⟩
    · have t1 : ((n : Int) == 0) = false := by rw [beq_eq_false_iff_ne]; omega
      rw [decide_eq_false n0, Bool.false_and] at e
      have E2 := Lib.hid e
      clear e ER n0
      go_wp2_with fail
      go_ret
      exact ⟨by rw [E2.out]; rfl, BW.out⟩
  | false =>
    have e := ER.out
    rw [if_neg (by decide)] at e
    have q1 : IntKind.i64.wrap ((n : Int) + (m : Int)) = (n : Int) + (m : Int) := IntWalk.i64_in _ (by omega)
    go_upto_region 3 with fail
    clear c0 c1 c2
    replace XB : Hid (Blk w2.drew g 25 (resC false (.slice a n c) (.slice b m d))) := XB
    replace S1 : Hid (SpArg w2.drew a n c X) := Lib.hid (S1.out.below (drewN_below _ 1))
    replace R1 : Hid (RgArg w2.drew b m d Y) := Lib.hid (R1.out.below (drewN_below _ 1))
    replace BW : Hid (Below w.heap.size w w2.drew) := Lib.hid (Below.step BW.out (drewN_below _ 1))
    clear hw2
    refine wp_region_ord Ext Ext.refl (fun _ _ _ => Ext.trans) ((0, false) :: (1, false) :: (2, false) :: (3, false) :: (4, false) :: (5, false) :: (6, false) :: (7, false) :: (8, false) :: (9, false) :: (10, false) :: (11, false) :: (12, false) :: (13, false) :: (14, false) :: (15, false) :: (16, false) :: (17, false) :: (18, false) :: (19, true) :: (20, true) :: (21, false) :: (22, false) :: (23, false) :: (24, false) :: (25, false) :: (26, false) :: (27, false) :: (28, false) :: (29, false) :: (30, false) :: (31, false) :: (32, false) :: (33, true) :: (34, true) :: (35, false) :: (36, false) :: []) (by kernel_rfl) (by kernel_rfl) rfl (by kernel_rfl) (fun _ _ _ _ _ h => h) ?_
    change wpOrd _ _ _ _ _ _ (w2.drew)
    generalize w2.drew = w3 at *
    by_cases h0 : n + m = 0
    · have t1 : decide ((0 : Int) < (n : Int) + (m : Int)) = false := decide_eq_false (by omega)
      have t1b : decide (0 < n + m) = false := decide_eq_false (by omega)
      rw [if_pos (.inl h0)] at e
      have E2 := Lib.hid e
      clear e ER h0 CJ CS CI CT
      repeat (first
        | (refine ord_skip rfl (by rfl) ?_; simp only [Act.put, List.setIfInBounds_toArray, List.set_cons_zero, List.set_cons_succ])
        | (refine ord_take _ rfl (by rfl) (fun W hW => yields_spans (.tmp 15) rfl g 1 (.slice a n c) rfl (Blk.cell (XB.out.below hW XB.out.lt) 1)) ?_; simp only [Act.put, List.setIfInBounds_toArray, List.set_cons_zero, List.set_cons_succ])
        | (refine ord_take _ rfl (by rfl) (fun W hW => yields_spans (.tmp 24) rfl g 1 (.slice a n c) rfl (Blk.cell (XB.out.below hW XB.out.lt) 1)) ?_; simp only [Act.put, List.setIfInBounds_toArray, List.set_cons_zero, List.set_cons_succ])
        | (refine ord_take _ rfl (by rfl) (fun W hW => yields_spans (.tmp 30) rfl g 1 (.slice a n c) rfl (Blk.cell (XB.out.below hW XB.out.lt) 1)) ?_; simp only [Act.put, List.setIfInBounds_toArray, List.set_cons_zero, List.set_cons_succ])
        | (refine ord_take _ rfl (by rfl) (fun W hW => yields_spans (.tmp 32) rfl g 1 (.slice a n c) rfl (Blk.cell (XB.out.below hW XB.out.lt) 1)) ?_; simp only [Act.put, List.setIfInBounds_toArray, List.set_cons_zero, List.set_cons_succ])
        | (refine ord_take _ rfl (by rfl) (fun W hW => yields_ranges (.tmp 18) rfl g 2 (.slice b m d) rfl (Blk.cell (XB.out.below hW XB.out.lt) 2)) ?_; simp only [Act.put, List.setIfInBounds_toArray, List.set_cons_zero, List.set_cons_succ])
        | (refine ord_take _ rfl (by rfl) (fun W hW => yields_ranges (.tmp 38) rfl g 2 (.slice b m d) rfl (Blk.cell (XB.out.below hW XB.out.lt) 2)) ?_; simp only [Act.put, List.setIfInBounds_toArray, List.set_cons_zero, List.set_cons_succ])
        | (refine ord_take _ rfl (by rfl) (fun W hW => yields_ranges (.tmp 44) rfl g 2 (.slice b m d) rfl (Blk.cell (XB.out.below hW XB.out.lt) 2)) ?_; simp only [Act.put, List.setIfInBounds_toArray, List.set_cons_zero, List.set_cons_succ])
        | (refine ord_take _ rfl (by rfl) (fun W hW => yields_ranges (.tmp 46) rfl g 2 (.slice b m d) rfl (Blk.cell (XB.out.below hW XB.out.lt) 2)) ?_; simp only [Act.put, List.setIfInBounds_toArray, List.set_cons_zero, List.set_cons_succ])
        | (refine ord_take _ rfl (by rfl) (fun W hW => by go_simp; first | done | rfl) ?_; simp only [Act.put, List.setIfInBounds_toArray, List.set_cons_zero, List.set_cons_succ]))
      refine ord_end ?_
      go_wp2_with fail
      go_ret
      exact ⟨by rw [E2.out]; rfl, BW.out⟩
    · have t1 : decide ((0 : Int) < (n : Int) + (m : Int)) = true := decide_eq_true (by omega)
      have t1b : decide (0 < n + m) = true := decide_eq_true (by omega)
      by_cases h1 : 400 < n
      · have t2 : decide ((n : Int) ≤ 400) = false := decide_eq_false (by omega)
        have t2b : decide (n ≤ 400) = false := decide_eq_false (by omega)
        rw [if_pos (.inr (.inl h1))] at e
        have E2 := Lib.hid e
        clear e ER h0 h1 CJ CS CI CT
        repeat (first
          | (refine ord_skip rfl (by rfl) ?_; simp only [Act.put, List.setIfInBounds_toArray, List.set_cons_zero, List.set_cons_succ])
          | (refine ord_take _ rfl (by rfl) (fun W hW => yields_spans (.tmp 15) rfl g 1 (.slice a n c) rfl (Blk.cell (XB.out.below hW XB.out.lt) 1)) ?_; simp only [Act.put, List.setIfInBounds_toArray, List.set_cons_zero, List.set_cons_succ])
          | (refine ord_take _ rfl (by rfl) (fun W hW => yields_spans (.tmp 24) rfl g 1 (.slice a n c) rfl (Blk.cell (XB.out.below hW XB.out.lt) 1)) ?_; simp only [Act.put, List.setIfInBounds_toArray, List.set_cons_zero, List.set_cons_succ])
          | (refine ord_take _ rfl (by rfl) (fun W hW => yields_spans (.tmp 30) rfl g 1 (.slice a n c) rfl (Blk.cell (XB.out.below hW XB.out.lt) 1)) ?_; simp only [Act.put, List.setIfInBounds_toArray, List.set_cons_zero, List.set_cons_succ])
          | (refine ord_take _ rfl (by rfl) (fun W hW => yields_spans (.tmp 32) rfl g 1 (.slice a n c) rfl (Blk.cell (XB.out.below hW XB.out.lt) 1)) ?_; simp only [Act.put, List.setIfInBounds_toArray, List.set_cons_zero, List.set_cons_succ])
          | (refine ord_take _ rfl (by rfl) (fun W hW => yields_ranges (.tmp 18) rfl g 2 (.slice b m d) rfl (Blk.cell (XB.out.below hW XB.out.lt) 2)) ?_; simp only [Act.put, List.setIfInBounds_toArray, List.set_cons_zero, List.set_cons_succ])
          | (refine ord_take _ rfl (by rfl) (fun W hW => yields_ranges (.tmp 38) rfl g 2 (.slice b m d) rfl (Blk.cell (XB.out.below hW XB.out.lt) 2)) ?_; simp only [Act.put, List.setIfInBounds_toArray, List.set_cons_zero, List.set_cons_succ])
          | (refine ord_take _ rfl (by rfl) (fun W hW => yields_ranges (.tmp 44) rfl g 2 (.slice b m d) rfl (Blk.cell (XB.out.below hW XB.out.lt) 2)) ?_; simp only [Act.put, List.setIfInBounds_toArray, List.set_cons_zero, List.set_cons_succ])
          | (refine ord_take _ rfl (by rfl) (fun W hW => yields_ranges (.tmp 46) rfl g 2 (.slice b m d) rfl (Blk.cell (XB.out.below hW XB.out.lt) 2)) ?_; simp only [Act.put, List.setIfInBounds_toArray, List.set_cons_zero, List.set_cons_succ])
          | (refine ord_take _ rfl (by rfl) (fun W hW => by go_simp; first | done | rfl) ?_; simp only [Act.put, List.setIfInBounds_toArray, List.set_cons_zero, List.set_cons_succ]))
        refine ord_end ?_
        go_wp2_with fail
        go_ret
        exact ⟨by rw [E2.out]; rfl, BW.out⟩
      · have t2 : decide ((n : Int) ≤ 400) = true := decide_eq_true (by omega)
        have t2b : decide (n ≤ 400) = true := decide_eq_true (by omega)
        cases hs : eqLS X J with
        | false =>
          have E2 : Hid (z = false) := Lib.hid (by rw [e, hs]; split <;> rfl)
          clear e ER h0 h1 CI CT
          repeat (first
            | (refine ord_skip rfl (by rfl) ?_; simp only [Act.put, List.setIfInBounds_toArray, List.set_cons_zero, List.set_cons_succ])
            | (refine ord_take _ rfl (by rfl) (fun W hW => yields_spans (.tmp 15) rfl g 1 (.slice a n c) rfl (Blk.cell (XB.out.below hW XB.out.lt) 1)) ?_; simp only [Act.put, List.setIfInBounds_toArray, List.set_cons_zero, List.set_cons_succ])
            | (refine ord_take _ rfl (by rfl) (fun W hW => yields_spans (.tmp 24) rfl g 1 (.slice a n c) rfl (Blk.cell (XB.out.below hW XB.out.lt) 1)) ?_; simp only [Act.put, List.setIfInBounds_toArray, List.set_cons_zero, List.set_cons_succ])
            | (refine ord_take _ rfl (by rfl) (fun W hW => yields_spans (.tmp 30) rfl g 1 (.slice a n c) rfl (Blk.cell (XB.out.below hW XB.out.lt) 1)) ?_; simp only [Act.put, List.setIfInBounds_toArray, List.set_cons_zero, List.set_cons_succ])
            | (refine ord_take _ rfl (by rfl) (fun W hW => yields_spans (.tmp 32) rfl g 1 (.slice a n c) rfl (Blk.cell (XB.out.below hW XB.out.lt) 1)) ?_; simp only [Act.put, List.setIfInBounds_toArray, List.set_cons_zero, List.set_cons_succ])
            | (refine ord_take _ rfl (by rfl) (fun W hW => yields_ranges (.tmp 18) rfl g 2 (.slice b m d) rfl (Blk.cell (XB.out.below hW XB.out.lt) 2)) ?_; simp only [Act.put, List.setIfInBounds_toArray, List.set_cons_zero, List.set_cons_succ])
            | (refine ord_take _ rfl (by rfl) (fun W hW => yields_ranges (.tmp 38) rfl g 2 (.slice b m d) rfl (Blk.cell (XB.out.below hW XB.out.lt) 2)) ?_; simp only [Act.put, List.setIfInBounds_toArray, List.set_cons_zero, List.set_cons_succ])
            | (refine ord_take _ rfl (by rfl) (fun W hW => yields_ranges (.tmp 44) rfl g 2 (.slice b m d) rfl (Blk.cell (XB.out.below hW XB.out.lt) 2)) ?_; simp only [Act.put, List.setIfInBounds_toArray, List.set_cons_zero, List.set_cons_succ])
            | (refine ord_take _ rfl (by rfl) (fun W hW => yields_ranges (.tmp 46) rfl g 2 (.slice b m d) rfl (Blk.cell (XB.out.below hW XB.out.lt) 2)) ?_; simp only [Act.put, List.setIfInBounds_toArray, List.set_cons_zero, List.set_cons_succ])
            | (refine ord_take _ rfl (by rfl) (fun W hW => by go_simp; first | done | rfl) ?_; simp only [Act.put, List.setIfInBounds_toArray, List.set_cons_zero, List.set_cons_succ])
            | (refine ord_sole rfl (by rfl) (fun K1 hK1 => ?_)
               go_simp
               refine (CJ.out _ S1.out).mono ?_
               rintro e v1 ⟨V1, rfl, ho1⟩
               obtain ⟨a1, k1, rfl, hr1⟩ := ho1.arg
               have hb1 := ho1.2.1
               refine hK1 _ _ hb1 ?_
               have P1 := Lib.hid hr1
               replace S1 := Lib.hid (S1.out.below hb1)
               replace R1 := Lib.hid (R1.out.below hb1)
               replace XB := Lib.hid (XB.out.below hb1 XB.out.lt)
               replace BW := Lib.hid (Below.step BW.out hb1)
               clear hK1 K1 ho1 hr1 hb1 CJ
               try simp only [Act.put, List.setIfInBounds_toArray, List.set_cons_zero, List.set_cons_succ])
            | (refine ord_sole rfl (by rfl) (fun K1 hK1 => ?_)
               go_simp
               refine (CS.out _ _ _ _ _ P1.out LJ.out S1.out).mono ?_
               rintro e v2 ⟨rfl, hb2⟩
               refine hK1 _ _ hb2 ?_
               replace R1 := Lib.hid (R1.out.below hb2)
               replace XB := Lib.hid (XB.out.below hb2 XB.out.lt)
               replace BW := Lib.hid (Below.step BW.out hb2)
               clear hK1 K1 hb2 CS P1
               rw [hs]
               try simp only [Act.put, List.setIfInBounds_toArray, List.set_cons_zero, List.set_cons_succ]))
          refine ord_end ?_
          go_wp2_with fail
          go_ret
          exact ⟨by rw [E2.out]; rfl, BW.out⟩
        | true =>
          rw [hs, Bool.true_and] at e
          by_cases h2 : 400 < m
          · have t3 : decide ((m : Int) ≤ 400) = false := decide_eq_false (by omega)
            have t3b : decide (m ≤ 400) = false := decide_eq_false (by omega)
            rw [if_pos (.inr (.inr h2))] at e
            have E2 := Lib.hid e
            clear e ER h0 h1 h2 CI CT
            repeat (first
              | (refine ord_skip rfl (by rfl) ?_; simp only [Act.put, List.setIfInBounds_toArray, List.set_cons_zero, List.set_cons_succ])
              | (refine ord_take _ rfl (by rfl) (fun W hW => yields_spans (.tmp 15) rfl g 1 (.slice a n c) rfl (Blk.cell (XB.out.below hW XB.out.lt) 1)) ?_; simp only [Act.put, List.setIfInBounds_toArray, List.set_cons_zero, List.set_cons_succ])
              | (refine ord_take _ rfl (by rfl) (fun W hW => yields_spans (.tmp 24) rfl g 1 (.slice a n c) rfl (Blk.cell (XB.out.below hW XB.out.lt) 1)) ?_; simp only [Act.put, List.setIfInBounds_toArray, List.set_cons_zero, List.set_cons_succ])
              | (refine ord_take _ rfl (by rfl) (fun W hW => yields_spans (.tmp 30) rfl g 1 (.slice a n c) rfl (Blk.cell (XB.out.below hW XB.out.lt) 1)) ?_; simp only [Act.put, List.setIfInBounds_toArray, List.set_cons_zero, List.set_cons_succ])
              | (refine ord_take _ rfl (by rfl) (fun W hW => yields_spans (.tmp 32) rfl g 1 (.slice a n c) rfl (Blk.cell (XB.out.below hW XB.out.lt) 1)) ?_; simp only [Act.put, List.setIfInBounds_toArray, List.set_cons_zero, List.set_cons_succ])
              | (refine ord_take _ rfl (by rfl) (fun W hW => yields_ranges (.tmp 18) rfl g 2 (.slice b m d) rfl (Blk.cell (XB.out.below hW XB.out.lt) 2)) ?_; simp only [Act.put, List.setIfInBounds_toArray, List.set_cons_zero, List.set_cons_succ])
              | (refine ord_take _ rfl (by rfl) (fun W hW => yields_ranges (.tmp 38) rfl g 2 (.slice b m d) rfl (Blk.cell (XB.out.below hW XB.out.lt) 2)) ?_; simp only [Act.put, List.setIfInBounds_toArray, List.set_cons_zero, List.set_cons_succ])
              | (refine ord_take _ rfl (by rfl) (fun W hW => yields_ranges (.tmp 44) rfl g 2 (.slice b m d) rfl (Blk.cell (XB.out.below hW XB.out.lt) 2)) ?_; simp only [Act.put, List.setIfInBounds_toArray, List.set_cons_zero, List.set_cons_succ])
              | (refine ord_take _ rfl (by rfl) (fun W hW => yields_ranges (.tmp 46) rfl g 2 (.slice b m d) rfl (Blk.cell (XB.out.below hW XB.out.lt) 2)) ?_; simp only [Act.put, List.setIfInBounds_toArray, List.set_cons_zero, List.set_cons_succ])
              | (refine ord_take _ rfl (by rfl) (fun W hW => by go_simp; first | done | rfl) ?_; simp only [Act.put, List.setIfInBounds_toArray, List.set_cons_zero, List.set_cons_succ])
              | (refine ord_sole rfl (by rfl) (fun K1 hK1 => ?_)
                 go_simp
                 refine (CJ.out _ S1.out).mono ?_
                 rintro e v1 ⟨V1, rfl, ho1⟩
                 obtain ⟨a1, k1, rfl, hr1⟩ := ho1.arg
                 have hb1 := ho1.2.1
                 refine hK1 _ _ hb1 ?_
                 have P1 := Lib.hid hr1
                 replace S1 := Lib.hid (S1.out.below hb1)
                 replace R1 := Lib.hid (R1.out.below hb1)
                 replace XB := Lib.hid (XB.out.below hb1 XB.out.lt)
                 replace BW := Lib.hid (Below.step BW.out hb1)
                 clear hK1 K1 ho1 hr1 hb1 CJ
                 try simp only [Act.put, List.setIfInBounds_toArray, List.set_cons_zero, List.set_cons_succ])
              | (refine ord_sole rfl (by rfl) (fun K1 hK1 => ?_)
                 go_simp
                 refine (CS.out _ _ _ _ _ P1.out LJ.out S1.out).mono ?_
                 rintro e v2 ⟨rfl, hb2⟩
                 refine hK1 _ _ hb2 ?_
                 replace R1 := Lib.hid (R1.out.below hb2)
                 replace XB := Lib.hid (XB.out.below hb2 XB.out.lt)
                 replace BW := Lib.hid (Below.step BW.out hb2)
                 clear hK1 K1 hb2 CS P1
                 rw [hs]
                 try simp only [Act.put, List.setIfInBounds_toArray, List.set_cons_zero, List.set_cons_succ]))
            refine ord_end ?_
            go_wp2_with fail
            go_ret
            exact ⟨by rw [E2.out]; rfl, BW.out⟩
          · have t3 : decide ((m : Int) ≤ 400) = true := decide_eq_true (by omega)
            have t3b : decide (m ≤ 400) = true := decide_eq_true (by omega)
            rw [if_neg (by omega)] at e
            have E2 := Lib.hid e
            clear e ER h0
            repeat (first
              | (refine ord_skip rfl (by rfl) ?_; simp only [Act.put, List.setIfInBounds_toArray, List.set_cons_zero, List.set_cons_succ])
              | (refine ord_take _ rfl (by rfl) (fun W hW => yields_spans (.tmp 15) rfl g 1 (.slice a n c) rfl (Blk.cell (XB.out.below hW XB.out.lt) 1)) ?_; simp only [Act.put, List.setIfInBounds_toArray, List.set_cons_zero, List.set_cons_succ])
              | (refine ord_take _ rfl (by rfl) (fun W hW => yields_spans (.tmp 24) rfl g 1 (.slice a n c) rfl (Blk.cell (XB.out.below hW XB.out.lt) 1)) ?_; simp only [Act.put, List.setIfInBounds_toArray, List.set_cons_zero, List.set_cons_succ])
              | (refine ord_take _ rfl (by rfl) (fun W hW => yields_spans (.tmp 30) rfl g 1 (.slice a n c) rfl (Blk.cell (XB.out.below hW XB.out.lt) 1)) ?_; simp only [Act.put, List.setIfInBounds_toArray, List.set_cons_zero, List.set_cons_succ])
              | (refine ord_take _ rfl (by rfl) (fun W hW => yields_spans (.tmp 32) rfl g 1 (.slice a n c) rfl (Blk.cell (XB.out.below hW XB.out.lt) 1)) ?_; simp only [Act.put, List.setIfInBounds_toArray, List.set_cons_zero, List.set_cons_succ])
              | (refine ord_take _ rfl (by rfl) (fun W hW => yields_ranges (.tmp 18) rfl g 2 (.slice b m d) rfl (Blk.cell (XB.out.below hW XB.out.lt) 2)) ?_; simp only [Act.put, List.setIfInBounds_toArray, List.set_cons_zero, List.set_cons_succ])
              | (refine ord_take _ rfl (by rfl) (fun W hW => yields_ranges (.tmp 38) rfl g 2 (.slice b m d) rfl (Blk.cell (XB.out.below hW XB.out.lt) 2)) ?_; simp only [Act.put, List.setIfInBounds_toArray, List.set_cons_zero, List.set_cons_succ])
              | (refine ord_take _ rfl (by rfl) (fun W hW => yields_ranges (.tmp 44) rfl g 2 (.slice b m d) rfl (Blk.cell (XB.out.below hW XB.out.lt) 2)) ?_; simp only [Act.put, List.setIfInBounds_toArray, List.set_cons_zero, List.set_cons_succ])
              | (refine ord_take _ rfl (by rfl) (fun W hW => yields_ranges (.tmp 46) rfl g 2 (.slice b m d) rfl (Blk.cell (XB.out.below hW XB.out.lt) 2)) ?_; simp only [Act.put, List.setIfInBounds_toArray, List.set_cons_zero, List.set_cons_succ])
              | (refine ord_take _ rfl (by rfl) (fun W hW => by go_simp; first | done | rfl) ?_; simp only [Act.put, List.setIfInBounds_toArray, List.set_cons_zero, List.set_cons_succ])
              | (refine ord_sole rfl (by rfl) (fun K1 hK1 => ?_)
                 go_simp
                 refine (CJ.out _ S1.out).mono ?_
                 rintro e v1 ⟨V1, rfl, ho1⟩
                 obtain ⟨a1, k1, rfl, hr1⟩ := ho1.arg
                 have hb1 := ho1.2.1
                 refine hK1 _ _ hb1 ?_
                 have P1 := Lib.hid hr1
                 replace S1 := Lib.hid (S1.out.below hb1)
                 replace R1 := Lib.hid (R1.out.below hb1)
                 replace XB := Lib.hid (XB.out.below hb1 XB.out.lt)
                 replace BW := Lib.hid (Below.step BW.out hb1)
                 clear hK1 K1 ho1 hr1 hb1 CJ
                 try simp only [Act.put, List.setIfInBounds_toArray, List.set_cons_zero, List.set_cons_succ])
              | (refine ord_sole rfl (by rfl) (fun K1 hK1 => ?_)
                 go_simp
                 refine (CS.out _ _ _ _ _ P1.out LJ.out S1.out).mono ?_
                 rintro e v2 ⟨rfl, hb2⟩
                 refine hK1 _ _ hb2 ?_
                 replace R1 := Lib.hid (R1.out.below hb2)
                 replace XB := Lib.hid (XB.out.below hb2 XB.out.lt)
                 replace BW := Lib.hid (Below.step BW.out hb2)
                 clear hK1 K1 hb2 CS P1
                 rw [hs]
                 try simp only [Act.put, List.setIfInBounds_toArray, List.set_cons_zero, List.set_cons_succ])
              | (refine ord_sole rfl (by rfl) (fun K1 hK1 => ?_)
                 go_simp
                 refine (CI.out _ R1.out (by omega)).mono ?_
                 rintro e v3 ⟨V3, rfl, ho3⟩
                 obtain ⟨a3, k3, rfl, hr3⟩ := ho3.arg
                 have hb3 := ho3.2.1
                 refine hK1 _ _ hb3 ?_
                 have P3 := Lib.hid hr3
                 replace R1 := Lib.hid (R1.out.below hb3)
                 replace XB := Lib.hid (XB.out.below hb3 XB.out.lt)
                 replace BW := Lib.hid (Below.step BW.out hb3)
                 clear hK1 K1 ho3 hr3 hb3 CI
                 try simp only [Act.put, List.setIfInBounds_toArray, List.set_cons_zero, List.set_cons_succ])
              | (refine ord_sole rfl (by rfl) (fun K1 hK1 => ?_)
                 go_simp
                 refine (CT.out _ _ _ _ _ P3.out LI.out R1.out).mono ?_
                 rintro e v4 ⟨rfl, hb4⟩
                 refine hK1 _ _ hb4 ?_
                 replace BW := Lib.hid (Below.step BW.out hb4)
                 clear hK1 K1 hb4 CT P3
                 try simp only [Act.put, List.setIfInBounds_toArray, List.set_cons_zero, List.set_cons_succ]))
            refine ord_end ?_
            go_wp2_with fail
            go_ret
            exact ⟨by rw [E2.out]; rfl, BW.out⟩
end Go.Proofs.YtlmndmfebgaidaaGreatDoor
