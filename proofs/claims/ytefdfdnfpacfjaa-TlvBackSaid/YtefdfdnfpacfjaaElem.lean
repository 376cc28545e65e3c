/-
  What the reference's element answers, for stage 4 (tlv).
-/
import Derived.Test.YtefdfdnfpacfjaaHead
import Derived.Test.YtefdfdnfpacfjaaTreeP
import Derived.Laws.ResultCell
import Derived.Deep.LoopGhost
namespace Go.Proofs.Ytefdfdnfpacfjaa
open Go.RowKit
set_option linter.unusedVariables false

theorem head_err {l : List Int} {z : Int} (e : headL l = .error z) : z = 2 ∨ z = 3 := by
  unfold headL at e
  repeat (first | (split at e) | (cases e; omega) | (cases e))
theorem elemC_bad {deep : Nat} {l : List Int} {z : Int} (e : headL l = .error z) : elemC deep l = .error z := by
  unfold elemC elemW
  rw [e]
theorem elemC_short {deep h m : Nat} {l : List Int} (e : headL l = .ok (h, m)) (hs : (l.drop h).length < m) : elemC deep l = .error 3 := by
  unfold elemC elemW
  rw [e]
  simp only
  rw [if_pos hs]
theorem elemC_deep {deep h m : Nat} {l : List Int} (e : headL l = .ok (h, m)) (hs : ¬ (l.drop h).length < m) (hd : 32 ≤ deep) : elemC deep l = .error 4 := by
  unfold elemC elemW
  rw [e]
  simp only
  rw [if_neg hs, if_pos hd]
theorem elemC_leaf {deep h m : Nat} {l : List Int} (e : headL l = .ok (h, m)) (hs : ¬ (l.drop h).length < m) (hd : ¬ 32 ≤ deep) (hw : withinB (at0 l 0) = false) : elemC deep l = .ok (.node (at0 l 0) ((l.drop h).take m) [], (l.drop h).drop m) := by
  unfold elemC elemW
  rw [e]
  simp only
  rw [if_neg hs, if_neg hd, if_neg (by rw [hw]; simp)]
theorem elemC_in_bad {deep h m : Nat} {l : List Int} {z : Int} (e : headL l = .ok (h, m)) (hs : ¬ (l.drop h).length < m) (hd : ¬ 32 ≤ deep) (hw : withinB (at0 l 0) = true) (hk : kidsC (deep + 1) ((l.drop h).take m) = .error z) : elemC deep l = .error (if z = 3 then 2 else z) := by
  unfold elemC elemW
  rw [e]
  simp only
  rw [if_neg hs, if_neg hd, if_pos hw, hk]
theorem elemC_in_ok {deep h m : Nat} {l : List Int} {ks : List T} (e : headL l = .ok (h, m)) (hs : ¬ (l.drop h).length < m) (hd : ¬ 32 ≤ deep) (hw : withinB (at0 l 0) = true) (hk : kidsC (deep + 1) ((l.drop h).take m) = .ok ks) : elemC deep l = .ok (.node (at0 l 0) [] ks, (l.drop h).drop m) := by
  unfold elemC elemW
  rw [e]
  simp only
  rw [if_neg hs, if_neg hd, if_pos hw, hk]
theorem elemW_err {rec : Nat → List Int → Except Int (List T)} (hrec : ∀ d l z, rec d l = .error z → z = 2 ∨ z = 3 ∨ z = 4) {deep : Nat} {l : List Int} {z : Int} (e : elemW rec deep l = .error z) : z = 2 ∨ z = 3 ∨ z = 4 := by
  unfold elemW at e
  split at e
  · rename_i hh
    cases e
    have := head_err hh
    omega
  split at e
  · cases e
    omega
  split at e
  · cases e
    omega
  split at e
  · split at e
    · rename_i hk
      cases e
      have := hrec _ _ _ hk
      split <;> omega
    · cases e
  · cases e
theorem kidsZ_err : ∀ (f d : Nat) (l : List Int) (z : Int), kidsZ f d l = .error z → z = 2 ∨ z = 3 ∨ z = 4 := by
  intro f
  induction f with
  | zero => intro d l z e; rw [kidsZ] at e; cases e
  | succ f ih =>
    intro d l z e
    rw [kidsZ] at e
    split at e
    · cases e
    split at e
    · rename_i he
      cases e
      exact elemW_err ih he
    split at e
    · rename_i he
      cases e
      exact ih _ _ _ he
    · cases e
theorem elemC_err {deep : Nat} {l : List Int} {z : Int} (e : elemC deep l = .error z) : z = 2 ∨ z = 3 ∨ z = 4 := elemW_err (fun d l z h => kidsZ_err _ d l z h) e

theorem head_m {l : List Int} {h m : Nat} (hb : ∀ z ∈ l, 0 ≤ z ∧ z ≤ 255) (e : headL l = .ok (h, m)) : m ≤ 65535 := by
  have h1 := at0_byte hb 1
  have h2 := at0_byte hb 2
  have h3 := at0_byte hb 3
  unfold headL at e
  split at e
  · cases e
  split at e
  · cases e
  split at e
  · cases e
  split at e
  · cases e; omega
  split at e
  · split at e
    · cases e
    split at e
    · cases e
    · cases e; omega
  split at e
  · split at e
    · cases e
    split at e
    · cases e
    · cases e; omega
  · cases e
theorem below_start (w : World) (q : Nat) : Below w.heap.size w ((w.alloc (.cells #[.int .i64 0, .slice none 0 0, .slice none 0 0] 26)).drewN q) :=
  Below.step ((Below.refl _ _).alloc (Nat.le_refl _) _) (drewN_below _ q)/-- The two boxes that a call lays, in a world of its own. -/
def bare (w : World) (q : Nat) (x : Int) : World := ((w.alloc (.cells #[.int .i64 0, .slice none 0 0, .slice none 0 0] 26)).drewN q).alloc (.cells #[.int .i64 x, .slice none 0 0, .slice none 0 0] 26)
theorem bare_size (w : World) (q : Nat) (x : Int) : (bare w q x).heap.size = w.heap.size + 2 := by simp [bare]
theorem bare_below (w : World) (q : Nat) (x : Int) : Below w.heap.size w (bare w q x) := Below.step (below_start w q) ((Below.refl _ _).alloc (Nat.le_refl _) _)
theorem bare_res (w : World) (q : Nat) (x : Int) : Blk (bare w q x) w.heap.size 26 #[.int .i64 0, .slice none 0 0, .slice none 0 0] :=
  Blk.alloc (Blk.drewN (Blk.new w _ _) q) _
theorem bare_box (w : World) (q : Nat) (x : Int) : Blk (bare w q x) (w.heap.size + 1) 26 #[.int .i64 x, .slice none 0 0, .slice none 0 0] := by
  have h := Blk.new ((w.alloc (.cells #[.int .i64 0, .slice none 0 0, .slice none 0 0] 26)).drewN q) 26 #[.int .i64 x, .slice none 0 0, .slice none 0 0]
  rw [show ((w.alloc (.cells #[.int .i64 0, .slice none 0 0, .slice none 0 0] 26)).drewN q).heap.size = w.heap.size + 1 by simp] at h
  exact h
theorem bare_out (w : World) (q : Nat) (x : Int) : Out (bare w q x) ((bare w q x).alloc (.cells #[] 5)) (.slice (some ⟨w.heap.size + 1 + 1, 0, none⟩) 0 0) [] := by
  have h := Out.made (W0 := bare w q x) 0 (by omega)
  rw [bare_size, show madeCells #[.int .u8 0] 0 = #[] by simp [madeCells]] at h
  exact h
theorem results_cell_two {fn : Func} {p u v : Tmp} {ty : TypeId} (h : fn.results = #[.cell p ty, .tmp u, .tmp v]) (tmps : Array Value) (P : Program) (w : World) :
    (results fn tmps).run P w =
      ((asAddr (tmps.getD p undef)).run P w).andThen fun a w₁ => ((loadVar ty a).run P w₁).andThen fun x w₂ => .ok (.tuple #[x, tmps.getD u undef, tmps.getD v undef]) w₂ := by
  simp only [results, h]
  simp [Sem.run_bind, Result.andThen]
/-- A struct that lies in memory, and two values more. -/
theorem results_three {P : Program} {fn : Func} {p u v : Tmp} {ty : TypeId} (h : fn.results = #[.cell p ty, .tmp u, .tmp v]) (tmps : Array Value) (w : World) (g : Nat) (t : TypeId) (cs : Array Value) (fr : Nat × Nat) (d : TypeDesc)
    (hp : tmps.getD p undef = .pointer (some ⟨g, 0, none⟩)) (hg : w.heap[g]? = some (.cells cs t fr))
    (hu : P.underlying ty = some d) (hd : (match d with | .struct _ | .array _ _ => true | _ => false) = true) (hi : (P.info? ty).map (·.size) = some cs.size) :
    (results fn tmps).run P w = .ok (.tuple #[.agg cs, tmps.getD u undef, tmps.getD v undef]) w := by
  rw [results_cell_two h, hp]
  simp [asAddr, run_loadVar_row w g t ty cs fr d hg hu hd hi, Result.andThen]
theorem Row.far {w : World} {a : Option Addr} {n : Nat} {zs : List Int} (h : Row w a n zs) {g : Nat} (hb : 0 < n → ∃ b off, a = some ⟨b, off, none⟩ ∧ g < b) (j : Nat) (v : Value) : Row (w.setCell ⟨g, j, none⟩ v) a n zs := by
  refine ⟨h.1, h.2.1, fun h0 => ?_⟩
  obtain ⟨b, off, e, hlt, hc⟩ := h.2.2 h0
  obtain ⟨b', off', e', hg⟩ := hb h0
  rw [e] at e'
  obtain ⟨rfl, rfl⟩ : b = b' ∧ off = off' := by simpa using e'
  refine ⟨b, off, e, by simpa using hlt, fun i hi => ?_⟩
  rw [World.cell?_setCell_other _ _ _ _ (fun e => by
    have he : g = b := congrArg Addr.block e
    omega)]
  exact hc i hi
def leafW (w w1 : World) (x0 : Int) (V : Value) : World := (((w1.setCell ⟨w.heap.size + 1, 1, none⟩ V).setCell ⟨w.heap.size, 0, none⟩ (.int .i64 x0)).setCell ⟨w.heap.size, 1, none⟩ V).setCell ⟨w.heap.size, 2, none⟩ (.slice none 0 0)
theorem leaf_blk {w w1 : World} (h : Blk w1 w.heap.size 26 #[.int .i64 0, .slice none 0 0, .slice none 0 0]) (x0 : Int) (V : Value) : Blk (leafW w w1 x0 V) w.heap.size 26 #[.int .i64 x0, V, .slice none 0 0] :=
  (((h.far (by omega) 1 V).set 0 (.int .i64 x0)).set 1 V).set 2 (.slice none 0 0)
theorem leaf_below {w w1 : World} (h : Below w.heap.size w w1) (x0 : Int) (V : Value) : Below w.heap.size w (leafW w w1 x0 V) :=
  (((h.setCell (by show w.heap.size ≤ w.heap.size + 1; omega) _).setCell (Nat.le_refl _) _).setCell (Nat.le_refl _) _).setCell (Nat.le_refl _) _
theorem leaf_in {w w1 : World} {x0 : Int} {body : List Int} {a1 : Option Addr} {cc1 : Nat} (hx : (Lit.int .i64 x0).wf = true) (hr : Row w1 a1 body.length body) (hl : body.length ≤ maxLen) (hn : a1 = none → cc1 = 0) (hb : 0 < body.length → ∃ b off, a1 = some ⟨b, off, none⟩ ∧ w.heap.size + 1 < b) :
    (T.node x0 body []).InP (w.heap.size ≤ ·) (leafW w w1 x0 (.slice a1 body.length cc1)) (.agg #[.int .i64 x0, .slice a1 body.length cc1, .slice none 0 0]) := by
  unfold T.InP
  have hb0 : 0 < body.length → ∃ b off, a1 = some ⟨b, off, none⟩ ∧ w.heap.size < b := fun h => by
    obtain ⟨b, off, e, hg⟩ := hb h
    exact ⟨b, off, e, by omega⟩
  refine ⟨a1, body.length, cc1, none, 0, 0, rfl, hx, (((hr.far hb _ _).far hb0 _ _).far hb0 _ _).far hb0 _ _, hl, hn, rfl, Nat.zero_le _, fun h0 => ?_, fun h => absurd h (by omega)⟩
  obtain ⟨b, off, e, hg⟩ := hb h0
  exact ⟨b, off, e, by omega⟩
theorem Try.sizeNode : (Try.prog.info? 26).map (·.size) = some 3 := by kernel_rfl
theorem Blk.facts {w : World} {g : Nat} {t : TypeId} {a b c : Value} (h : Blk w g t #[a, b, c]) : w.cell? ⟨g, 0, none⟩ = some a ∧ w.cell? ⟨g, 1, none⟩ = some b ∧ w.cell? ⟨g, 2, none⟩ = some c ∧ w.frozen? ⟨g, 0, none⟩ = false ∧ w.frozen? ⟨g, 1, none⟩ = false ∧ w.frozen? ⟨g, 2, none⟩ = false :=
  ⟨h.cell 0, h.cell 1, h.cell 2, h.free 0, h.free 1, h.free 2⟩
theorem out_far {w wr : World} {q : Nat} {x : Int} {a : Option Addr} {n c : Nat} {L : List Int} (h : Out (bare w q x) wr (.slice a n c) L) : 0 < L.length → ∃ b off, a = some ⟨b, off, none⟩ ∧ w.heap.size + 1 < b := by
  intro h0
  obtain ⟨g, cap, e, hg⟩ := h.form h0
  rw [bare_size] at hg
  injection e with e1
  exact ⟨g, 0, e1, by omega⟩
theorem row_piece {w : World} {b off n : Nat} {zs : List Int} (h : Row w (some ⟨b, off, none⟩) n zs) (k m : Nat) (hk : k + m ≤ n) : Row w (some ⟨b, off + k, none⟩) m ((zs.drop k).take m) := by
  have hl := h.1
  refine ⟨by rw [List.length_take, List.length_drop]; omega, fun x hx => h.2.1 x (List.mem_of_mem_drop (List.mem_of_mem_take hx)), fun h0 => ?_⟩
  obtain ⟨b', off', e, hb, hc⟩ := h.2.2 (by omega)
  obtain ⟨rfl, rfl⟩ : b = b' ∧ off = off' := by simpa using e
  refine ⟨b, off + k, rfl, hb, fun i hi => ?_⟩
  have := hc (k + i) (by omega)
  rw [List.getElem?_take, if_pos hi, List.getElem?_drop, Nat.add_assoc, this]
theorem below_zero (w : World) (q : Nat) : Below w.heap.size w (((((w.alloc (.cells #[.int .i64 0, .slice none 0 0, .slice none 0 0] 26)).drewN q).setCell ⟨w.heap.size, 0, none⟩ (.int .i64 0)).setCell ⟨w.heap.size, 1, none⟩ (.slice none 0 0)).setCell ⟨w.heap.size, 2, none⟩ (.slice none 0 0)) :=
  (((below_start w q).setCell (Nat.le_refl _) _).setCell (Nat.le_refl _) _).setCell (Nat.le_refl _) _
def GivesElem (deep : Nat) (zs : List Int) (k n : Nat) (w : World) (e : Ending) (w' : World) : Prop :=
  Below w.heap.size w w' ∧
  ((∃ z : Int, elemC deep (zs.drop k) = .error z ∧ e = .returned (.tuple #[.agg #[.int .i64 0, .slice none 0 0, .slice none 0 0], .int .i64 0, .int .i64 z])) ∨
   (∃ (t : T) (nx : Nat) (v : Value), elemC deep (zs.drop k) = .ok (t, zs.drop nx) ∧ k < nx ∧ nx ≤ n ∧ e = .returned (.tuple #[v, .int .i64 (nx : Int), .int .i64 0]) ∧ t.InP (w.heap.size ≤ ·) w' v))

set_option maxRecDepth 100000 in
set_option maxHeartbeats 1000000 in
theorem elem_err (a : Option Addr) (n ca k deep : Nat) (zs : List Int) (w : World) (hr : Row w a n zs) (hnc : n ≤ ca) (hn : n ≤ 30000) (hk : k ≤ n) (hd : deep ≤ 32) {z : Int} (hh : headL (zs.drop k) = .error z) :
    Calls Try.prog 19 #[.slice a n ca, .int .i64 (k : Int), .int .i64 (n : Int), .int .i64 (deep : Int)] w (GivesElem deep zs k n w) := by
  have R0 := Lib.hid (hr.below (w' := w.alloc (.cells #[.int .i64 0, .slice none 0 0, .slice none 0 0] 26)) ((Below.refl _ _).alloc (Nat.le_refl _) _))
  have HE := Lib.hid hh
  have hz := head_err hh
  have F := Lib.hid (elemC_bad (deep := deep) hh)
  have hz0 : (z != 0) = true := by simp; omega
  clear hh
  go_enter Try.func19, Try.ntmps19
  go_wp2_with fail
  refine (head_any _ n ca k zs _ R0.out hn hk).mono ?_
  rw [HE.out]
  rintro e w2 ⟨rfl, q, rfl⟩
  go_wp2_with fail
  exact bodyPost_ret (v := .tuple #[.agg #[.int .i64 0, .slice none 0 0, .slice none 0 0], .int .i64 0, .int .i64 z]) (by simp [results, Try.results19, go_sem]) rfl ⟨below_zero w q, .inl ⟨z, F.out, rfl⟩⟩

set_option maxRecDepth 100000 in
set_option maxHeartbeats 1000000 in
theorem elem_short (a : Option Addr) (n ca k deep : Nat) (zs : List Int) (w : World) (hr : Row w a n zs) (hnc : n ≤ ca) (hn : n ≤ 30000) (hk : k ≤ n) (hd : deep ≤ 32) {h m : Nat} (hh : headL (zs.drop k) = .ok (h, m)) (hs : n < k + h + m) :
    Calls Try.prog 19 #[.slice a n ca, .int .i64 (k : Int), .int .i64 (n : Int), .int .i64 (deep : Int)] w (GivesElem deep zs k n w) := by
  have R0 := Lib.hid (hr.below (w' := w.alloc (.cells #[.int .i64 0, .slice none 0 0, .slice none 0 0] 26)) ((Below.refl _ _).alloc (Nat.le_refl _) _))
  have HE := Lib.hid hh
  have hhk := head_ok hh
  have hlen : (zs.drop k).length = n - k := by rw [List.length_drop, hr.1]
  rw [hlen] at hhk
  have hm := head_m (fun z hz => hr.2.1 z (List.mem_of_mem_drop hz)) hh
  have hl2 : ((zs.drop k).drop h).length = n - (k + h) := by rw [List.length_drop, hlen]; omega
  have F := Lib.hid (elemC_short (deep := deep) hh (by rw [hl2]; omega))
  clear hh hlen hl2
  go_enter Try.func19, Try.ntmps19
  go_wp2_with fail
  refine (head_any _ n ca k zs _ R0.out hn hk).mono ?_
  rw [HE.out]
  rintro e w2 ⟨rfl, q, rfl⟩
  go_wp2_with fail
  exact bodyPost_ret (v := .tuple #[.agg #[.int .i64 0, .slice none 0 0, .slice none 0 0], .int .i64 0, .int .i64 3]) (by simp [results, Try.results19, go_sem]) rfl ⟨below_zero w q, .inl ⟨3, F.out, rfl⟩⟩

set_option maxRecDepth 100000 in
set_option maxHeartbeats 1000000 in
theorem elem_deep (a : Option Addr) (n ca k deep : Nat) (zs : List Int) (w : World) (hr : Row w a n zs) (hnc : n ≤ ca) (hn : n ≤ 30000) (hk : k ≤ n) (hd : deep ≤ 32) {h m : Nat} (hh : headL (zs.drop k) = .ok (h, m)) (hs : ¬ n < k + h + m) (hdp : 32 ≤ deep) :
    Calls Try.prog 19 #[.slice a n ca, .int .i64 (k : Int), .int .i64 (n : Int), .int .i64 (deep : Int)] w (GivesElem deep zs k n w) := by
  have R0 := Lib.hid (hr.below (w' := w.alloc (.cells #[.int .i64 0, .slice none 0 0, .slice none 0 0] 26)) ((Below.refl _ _).alloc (Nat.le_refl _) _))
  have HE := Lib.hid hh
  have hhk := head_ok hh
  have hlen : (zs.drop k).length = n - k := by rw [List.length_drop, hr.1]
  rw [hlen] at hhk
  have hm := head_m (fun z hz => hr.2.1 z (List.mem_of_mem_drop hz)) hh
  have hl2 : ((zs.drop k).drop h).length = n - (k + h) := by rw [List.length_drop, hlen]; omega
  have hs' : ¬ ((zs.drop k).drop h).length < m := by rw [hl2]; omega
  have F := Lib.hid (elemC_deep (deep := deep) hh hs' hdp)
  clear hh hlen hl2 hs'
  go_enter Try.func19, Try.ntmps19
  go_wp2_with fail
  refine (head_any _ n ca k zs _ R0.out hn hk).mono ?_
  rw [HE.out]
  rintro e w2 ⟨rfl, q, rfl⟩
  go_wp2_with fail
  exact bodyPost_ret (v := .tuple #[.agg #[.int .i64 0, .slice none 0 0, .slice none 0 0], .int .i64 0, .int .i64 4]) (by simp [results, Try.results19, go_sem]) rfl ⟨below_zero w q, .inl ⟨4, F.out, rfl⟩⟩

set_option maxRecDepth 100000 in
set_option maxHeartbeats 1000000 in
theorem elem_leaf (a : Option Addr) (n ca k deep : Nat) (zs : List Int) (w : World) (hr : Row w a n zs) (hnc : n ≤ ca) (hn : n ≤ 30000) (hk : k ≤ n) (hd : deep ≤ 32) {h m : Nat} (hh : headL (zs.drop k) = .ok (h, m)) (hs : ¬ n < k + h + m) (hdp : ¬ 32 ≤ deep) (hw : withinB (zs[k]?.getD 0) = false) :
    Calls Try.prog 19 #[.slice a n ca, .int .i64 (k : Int), .int .i64 (n : Int), .int .i64 (deep : Int)] w (GivesElem deep zs k n w) := by
  have R0 := Lib.hid (hr.below (w' := w.alloc (.cells #[.int .i64 0, .slice none 0 0, .slice none 0 0] 26)) ((Below.refl _ _).alloc (Nat.le_refl _) _))
  have HE := Lib.hid hh
  have hhk := head_ok hh
  have hlen : (zs.drop k).length = n - k := by rw [List.length_drop, hr.1]
  rw [hlen] at hhk
  have hm := head_m (fun z hz => hr.2.1 z (List.mem_of_mem_drop hz)) hh
  have hl2 : ((zs.drop k).drop h).length = n - (k + h) := by rw [List.length_drop, hlen]; omega
  have hs' : ¬ ((zs.drop k).drop h).length < m := by rw [hl2]; omega
  obtain ⟨b, off, rfl, hb, hcell⟩ := R0.out.2.2 (by omega)
  have c0 := hcell k (by omega)
  have z0 := hr.byte k
  have e0 : at0 (zs.drop k) 0 = zs[k]?.getD 0 := by rw [at0_drop]; rfl
  have F := Lib.hid (elemC_leaf (deep := deep) hh hs' hdp (by rw [e0]; exact hw))
  rw [e0] at F
  have WI := Lib.hid hw
  clear hh hlen hl2 hs' e0 hw hcell
  generalize zs[k]?.getD 0 = x0 at c0 z0 F WI
  go_enter Try.func19, Try.ntmps19
  go_wp2_with fail
  refine (head_any _ n ca k zs _ R0.out hn hk).mono ?_
  rw [HE.out]
  rintro e w2 ⟨rfl, q, rfl⟩
  go_wp2_with fail
  refine (within_any x0 _ (WalkArith.wf_i64 (by omega))).mono ?_
  rintro e w3 ⟨rfl, rfl⟩
  rw [WI.out]
  by_cases hca : k + h = ca
  · obtain rfl : m = 0 := by omega
    subst hca
    have F2 : Hid (elemC deep (zs.drop k) = .ok (.node x0 [] [], zs.drop (k + h))) := by
      rw [F.out, List.take_zero, List.drop_zero, List.drop_drop]
      exact Lib.hid rfl
    clear F
    go_wp2_with (at_builtin; refine out_append (W0 := bare w q x0) (L := []) (zs := []) rfl _ _ rfl rfl (bare_out w q x0) rfl (Row.nil _ _) (fun e => by cases e) (by simp only [List.length_nil]; omega) ?_; intro V1 w1 ho1; simp only [List.nil_append] at ho1; obtain ⟨a1, cc1, rfl, hr1⟩ := ho1.row (fun z hz => by simp at hz); have N1 := Lib.hid ho1.nilc; have Q1 := Lib.hid (out_far ho1); have R1 := Lib.hid hr1; have K0 := Lib.hid ((bare_res w q x0).below ho1.2 (bare_res w q x0).lt); have K1 := Lib.hid ((bare_box w q x0).below ho1.2 (bare_box w q x0).lt); have B1 := Lib.hid (Below.step (bare_below w q x0) ho1.2); clear ho1 hr1; obtain ⟨p0, p1, p2, f0, f1, f2⟩ := K0.out.facts; obtain ⟨s0, s1, s2, g0, g1, g2⟩ := K1.out.facts)
    have ML0 : ([] : List Int).length ≤ maxLen := by simp
    have LI := Lib.hid (leaf_in (w := w) (w1 := w1) (x0 := x0) (body := []) (WalkArith.wf_i64 (by omega)) R1.out ML0 N1.out Q1.out)
    exact bodyPost_ret (results_three rfl _ _ w.heap.size 26 #[.int .i64 x0, .slice a1 0 cc1, .slice none 0 0] (0, 0) _ rfl (leaf_blk K0.out x0 (.slice a1 0 cc1)) Try.underlying26 rfl Try.sizeNode) rfl ⟨leaf_below B1.out x0 (.slice a1 0 cc1), .inr ⟨.node x0 [] [], k + h, .agg #[.int .i64 x0, .slice a1 0 cc1, .slice none 0 0], F2.out, by omega, by omega, rfl, LI.out⟩⟩
  have RP : Hid (Row ((bare w q x0).alloc (.cells #[] 5)) (some ⟨b, off + (k + h), none⟩) (k + h + m - (k + h)) ((zs.drop (k + h)).take m)) := by
    rw [show k + h + m - (k + h) = m by omega]
    exact ((row_piece R0.out (k + h) m (by omega)).below (w' := bare w q x0) (show Below _ _ _ from (drewN_below _ q).trans ((Below.refl _ _).alloc (by simp) _))).below (w' := (bare w q x0).alloc (.cells #[] 5)) ((Below.refl _ _).alloc (Nat.le_refl _) _)
  have zl : ((zs.drop (k + h)).take m).length = m := by rw [List.length_take, List.length_drop, hr.1]; omega
  have ZL := Lib.hid zl
  have zb : ∀ z ∈ (zs.drop (k + h)).take m, 0 ≤ z ∧ z ≤ 255 := fun z hz => hr.2.1 z (List.mem_of_mem_drop (List.mem_of_mem_take hz))
  have ZB := Lib.hid zb
  have F2 : Hid (elemC deep (zs.drop k) = .ok (.node x0 ((zs.drop (k + h)).take m) [], zs.drop (k + h + m))) := by
    rw [F.out, List.drop_drop, List.drop_drop]
    exact Lib.hid rfl
  clear zl zb F
  generalize (zs.drop (k + h)).take m = body at RP ZL ZB F2
  go_wp2_with (at_builtin; refine out_append (W0 := bare w q x0) (L := []) (zs := body) rfl _ _ rfl rfl (bare_out w q x0) rfl RP.out (fun e => by cases e) (by simp only [List.length_nil]; omega) ?_; intro V1 w1 ho1; simp only [List.nil_append] at ho1; obtain ⟨a1, cc1, rfl, hr1⟩ := ho1.row ZB.out; have N1 := Lib.hid ho1.nilc; have Q1 := Lib.hid (out_far ho1); have R1 := Lib.hid hr1; have K0 := Lib.hid ((bare_res w q x0).below ho1.2 (bare_res w q x0).lt); have K1 := Lib.hid ((bare_box w q x0).below ho1.2 (bare_box w q x0).lt); have B1 := Lib.hid (Below.step (bare_below w q x0) ho1.2); clear ho1 hr1; obtain ⟨p0, p1, p2, f0, f1, f2⟩ := K0.out.facts; obtain ⟨s0, s1, s2, g0, g1, g2⟩ := K1.out.facts)
  have ML : body.length ≤ maxLen := by rw [ZL.out]; unfold maxLen; omega
  exact bodyPost_ret (results_three rfl _ _ w.heap.size 26 #[.int .i64 x0, .slice a1 body.length cc1, .slice none 0 0] (0, 0) _ rfl (leaf_blk K0.out x0 _) Try.underlying26 rfl Try.sizeNode) rfl ⟨leaf_below B1.out x0 _, .inr ⟨_, k + h + m, _, F2.out, by omega, by omega, rfl, leaf_in (WalkArith.wf_i64 (by omega)) R1.out ML N1.out Q1.out⟩⟩

end Go.Proofs.Ytefdfdnfpacfjaa
