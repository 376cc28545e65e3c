/-
  What the reference's element and Read answer, for stage 4 (tlv).
-/
import Derived.Test.YtefdfdnfpacfjaaElem
namespace Go.Proofs.Ytefdfdnfpacfjaa
open Go.RowKit
set_option linter.unusedVariables false

/-- What was read first stands ahead. -/
def app (ks : List T) : Except Int (List T) → Except Int (List T)
  | .error e => .error e
  | .ok l => .ok (ks ++ l)
theorem app_nil (r : Except Int (List T)) : app [] r = r := by cases r <;> rfl
theorem kids_bad {deep : Nat} {l : List Int} {z : Int} (h0 : l ≠ []) (e : elemC deep l = .error z) : kidsC deep l = .error z := by
  rw [kidsC_eq h0, e]
theorem kids_one {deep : Nat} {l r : List Int} {t : T} {ks : List T} (h0 : l ≠ []) (e : elemC deep l = .ok (t, r)) : app ks (kidsC deep l) = app (ks ++ [t]) (kidsC deep r) := by
  rw [kidsC_eq h0, e]
  simp only
  cases kidsC deep r with
  | error z => rfl
  | ok x => simp [app]

theorem drop_ne {zs : List Int} {j n : Nat} (hl : zs.length = n) (hj : j < n) : zs.drop j ≠ [] := by
  intro e
  have := congrArg List.length e
  rw [List.length_drop] at this
  simp at this
  omega

/-- Where the loop over the elements within one stands. -/
structure Mid (w wr : World) (x0 : Int) (deep s e : Nat) (zs' : List Int) (j : Nat) (V : Value) (ks : List T) : Prop where
  lo : s ≤ j
  hi : j ≤ e
  few : ks.length ≤ j - s
  kids : kidsC (deep + 1) (zs'.drop s) = app ks (kidsC (deep + 1) (zs'.drop j))
  res : Blk wr w.heap.size 26 #[.int .i64 0, .slice none 0 0, .slice none 0 0]
  box : Blk wr (w.heap.size + 1) 26 #[.int .i64 x0, .slice none 0 0, V]
  out : NOut w wr (w.heap.size + 1) V ks
  offA : V.ownBlock ≠ some w.heap.size
  offB : V.ownBlock ≠ some (w.heap.size + 1)
theorem Mid.start (w : World) (q : Nat) (x0 : Int) (deep s e : Nat) (zs' : List Int) (h : s ≤ e) : Mid w (bare w q x0) x0 deep s e zs' s (.slice none 0 0) [] :=
  ⟨Nat.le_refl _, h, by simp, (app_nil _).symm, bare_res w q x0, bare_box w q x0, NOut.start (bare_below w q x0) _, by simp [Value.ownBlock], by simp [Value.ownBlock]⟩
theorem Mid.go {w wr w2 : World} {x0 : Int} {deep s e : Nat} {zs' : List Int} {j : Nat} {V : Value} {ks : List T} (h : Mid w wr x0 deep s e zs' j V ks) (hb : Below wr.heap.size wr w2) : Mid w w2 x0 deep s e zs' j V ks :=
  ⟨h.lo, h.hi, h.few, h.kids, h.res.below hb h.res.lt, h.box.below hb h.box.lt, h.out.below hb, h.offA, h.offB⟩
/-- One more. -/
theorem Mid.next {w w2 w3 : World} {x0 : Int} {deep s e : Nat} {zs' : List Int} {j nx : Nat} {V V' : Value} {ks : List T} {t : T} (h : Mid w w2 x0 deep s e zs' j V ks) (h0 : zs'.drop j ≠ []) (he : elemC (deep + 1) (zs'.drop j) = .ok (t, zs'.drop nx)) (h1 : j < nx) (h2 : nx ≤ e)
    (ho : NOut w w3 (w.heap.size + 1) V' (ks ++ [t])) (hat : V'.ownBlock = V.ownBlock ∨ V'.ownBlock = some (w2.heap.size + 1)) (hk : ∀ b, b < w2.heap.size → V.ownBlock ≠ some b → w3.heap[b]? = w2.heap[b]?) : Mid w (w3.setCell ⟨w.heap.size + 1, 2, none⟩ V') x0 deep s e zs' nx V' (ks ++ [t]) := by
  have b1 : Blk w3 (w.heap.size + 1) 26 #[.int .i64 x0, .slice none 0 0, V] := (hk _ h.box.lt h.offB).trans h.box
  have b0 : Blk w3 w.heap.size 26 #[.int .i64 0, .slice none 0 0, .slice none 0 0] := (hk _ h.res.lt h.offA).trans h.res
  have hlt := h.box.lt
  have oA : V'.ownBlock ≠ some w.heap.size := by
    rcases hat with e | e
    · rw [e]; exact h.offA
    · rw [e]; intro e'; injection e' with e'; omega
  have oB : V'.ownBlock ≠ some (w.heap.size + 1) := by
    rcases hat with e | e
    · rw [e]; exact h.offB
    · rw [e]; intro e'; injection e' with e'; omega
  refine ⟨by have := h.lo; omega, h2, ?_, (h.kids).trans (kids_one h0 he), b0.far (by omega) _ _, b1.set 2 V', ho.store (by omega) oB 2 V', oA, oB⟩
  rw [List.length_append]
  have := h.few
  have := h.lo
  simp
  omega

theorem nown_lt {W0 wr : World} {g : Nat} {V : Value} {ks : List T} (h : NOut W0 wr g V ks) : ∀ b, V.ownBlock = some b → b < wr.heap.size := by
  obtain ⟨_, xs, h2, _⟩ := h
  intro b e
  exact (h2.lt b e).2
theorem content_eq (zs : List Int) (k h m : Nat) : ((zs.drop k).drop h).take m = (zs.take (k + h + m)).drop (k + h) := by
  rw [List.drop_drop, List.drop_take]
  congr 1
  omega
/-- The end of a way without an element. -/
def zeroed (w W : World) : World := ((W.setCell ⟨w.heap.size, 0, none⟩ (.int .i64 0)).setCell ⟨w.heap.size, 1, none⟩ (.slice none 0 0)).setCell ⟨w.heap.size, 2, none⟩ (.slice none 0 0)
theorem zeroed_blk {w W : World} (h : Blk W w.heap.size 26 #[.int .i64 0, .slice none 0 0, .slice none 0 0]) : Blk (zeroed w W) w.heap.size 26 #[.int .i64 0, .slice none 0 0, .slice none 0 0] :=
  ((h.set 0 (.int .i64 0)).set 1 (.slice none 0 0)).set 2 (.slice none 0 0)
theorem zeroed_below {w W : World} (h : Below w.heap.size w W) : Below w.heap.size w (zeroed w W) := ((h.setCell (Nat.le_refl _) _).setCell (Nat.le_refl _) _).setCell (Nat.le_refl _) _
/-- The end of a way with an element that has others within. -/
def given (w W : World) (x0 : Int) (V : Value) : World := ((W.setCell ⟨w.heap.size, 0, none⟩ (.int .i64 x0)).setCell ⟨w.heap.size, 1, none⟩ (.slice none 0 0)).setCell ⟨w.heap.size, 2, none⟩ V
theorem given_blk {w W : World} (h : Blk W w.heap.size 26 #[.int .i64 0, .slice none 0 0, .slice none 0 0]) (x0 : Int) (V : Value) : Blk (given w W x0 V) w.heap.size 26 #[.int .i64 x0, .slice none 0 0, V] :=
  ((h.set 0 (.int .i64 x0)).set 1 (.slice none 0 0)).set 2 V
theorem given_below {w W : World} (h : Below w.heap.size w W) (x0 : Int) (V : Value) : Below w.heap.size w (given w W x0 V) := ((h.setCell (Nat.le_refl _) _).setCell (Nat.le_refl _) _).setCell (Nat.le_refl _) _
theorem given_in {w W : World} {x0 : Int} {V : Value} {ks : List T} (h : NOut w W (w.heap.size + 1) V ks) (hA : V.ownBlock ≠ some w.heap.size) (hx : (Lit.int .i64 x0).wf = true) : (T.node x0 [] ks).InP (w.heap.size ≤ ·) (given w W x0 V) (.agg #[.int .i64 x0, .slice none 0 0, V]) := by
  have h' : NOut w (given w W x0 V) (w.heap.size + 1) V ks := by
    obtain ⟨hb, xs, hown, hks⟩ := h
    have hne : ∀ b, b ≠ w.heap.size → (given w W x0 V).heap[b]? = W.heap[b]? := fun b hb => by
      unfold given
      rw [heap_setCell_other _ ⟨w.heap.size, 2, none⟩ b V hb, heap_setCell_other _ ⟨w.heap.size, 1, none⟩ b _ hb, heap_setCell_other _ ⟨w.heap.size, 0, none⟩ b _ hb]
    refine ⟨given_below hb x0 V, xs, ⟨hown.1, ?_⟩, fun i hi => ?_⟩
    · rcases hown.2 with h' | ⟨g', cap, cur, e, h1, h2, h3⟩
      · exact .inl h'
      · refine .inr ⟨g', cap, cur, e, h1, ?_, h3⟩
        rw [← h2]
        exact hne g' (fun he => hA (by rw [e, he]; rfl))
    · obtain ⟨v0, v1, v2, e0, e1, e2, hin⟩ := hks i hi
      refine ⟨v0, v1, v2, e0, e1, e2, T.InP.keep (fun b _ hp => ⟨hp, hne b (fun he => ?_)⟩) (by simp [given]) _ hin⟩
      have := hp.1
      omega
  exact h'.done (by omega) hx

set_option maxRecDepth 100000 in
set_option maxHeartbeats 4000000 in
theorem elem_in (N : Nat) (ih : ∀ (a : Option Addr) (n ca k deep : Nat) (zs : List Int) (w : World), Row w a n zs → n ≤ ca → n ≤ 30000 → k ≤ n → deep ≤ 32 → n - k < N →
      Calls Try.prog 19 #[.slice a n ca, .int .i64 (k : Int), .int .i64 (n : Int), .int .i64 (deep : Int)] w (GivesElem deep zs k n w))
    (a : Option Addr) (n ca k deep : Nat) (zs : List Int) (w : World) (hr : Row w a n zs) (hnc : n ≤ ca) (hn : n ≤ 30000) (hk : k ≤ n) (hd : deep ≤ 32) (hN : n - k < N + 1) {h m : Nat} (hh : headL (zs.drop k) = .ok (h, m)) (hs : ¬ n < k + h + m) (hdp : ¬ 32 ≤ deep) (hw : withinB (zs[k]?.getD 0) = true) :
    Calls Try.prog 19 #[.slice a n ca, .int .i64 (k : Int), .int .i64 (n : Int), .int .i64 (deep : Int)] w (GivesElem deep zs k n w) := by
  have R0 := Lib.hid (hr.below (w' := w.alloc (.cells #[.int .i64 0, .slice none 0 0, .slice none 0 0] 26)) ((Below.refl _ _).alloc (Nat.le_refl _) _))
  have HE := Lib.hid hh
  have hhk := head_ok hh
  have hlen : (zs.drop k).length = n - k := by rw [List.length_drop, hr.1]
  rw [hlen] at hhk
  have hm := head_m (fun z hz => hr.2.1 z (List.mem_of_mem_drop hz)) hh
  have hl2 : ((zs.drop k).drop h).length = n - (k + h) := by rw [List.length_drop, hlen]; omega
  have hs' : ¬ ((zs.drop k).drop h).length < m := by rw [hl2]; omega
  obtain ⟨b, off, rfl, hb, hcell⟩ := R0.out.2.2 (by omega)
  have c0 := hcell k (by omega)
  have z0 := hr.byte k
  have e0 : at0 (zs.drop k) 0 = zs[k]?.getD 0 := by rw [at0_drop]; rfl
  have FB := Lib.hid (fun z => elemC_in_bad (deep := deep) (z := z) hh hs' hdp (by rw [e0]; exact hw))
  have FO := Lib.hid (fun ks => elemC_in_ok (deep := deep) (ks := ks) hh hs' hdp (by rw [e0]; exact hw))
  rw [content_eq, e0, List.drop_drop, List.drop_drop, ← Nat.add_assoc] at FO
  rw [content_eq] at FB
  have WI := Lib.hid hw
  have RZ := Lib.hid (hr.first (k + h + m) (by omega))
  have ZL : Hid ((zs.take (k + h + m)).length = k + h + m) := by rw [List.length_take, hr.1]; exact Lib.hid (by omega)
  have IH := Lib.hid ih
  clear hh hlen hl2 hs' e0 hw hcell ih
  generalize zs.take (k + h + m) = zs' at FB FO RZ ZL
  generalize zs[k]?.getD 0 = x0 at c0 z0 FO WI
  have XW : (Lit.int .i64 x0).wf = true := WalkArith.wf_i64 (by omega)
  go_enter Try.func19, Try.ntmps19
  go_wp2_with fail
  refine (head_any _ n ca k zs _ R0.out hn hk).mono ?_
  rw [HE.out]
  rintro e w2 ⟨rfl, q, rfl⟩
  go_wp2_with fail
  refine (within_any x0 _ XW).mono ?_
  rintro e w3 ⟨rfl, rfl⟩
  rw [WI.out]
  go_wp2_with fail
  go_loopw [15] (fun i wr => ∃ (j : Nat) (V : Value) (ks : List T), i = .int .i64 (j : Int) ∧ Mid w wr x0 deep (k + h) (k + h + m) zs' j V ks) (fun i _ => k + h + m - (intOf i).toNat)
  case atStart => exact ⟨k + h, _, _, rfl, Mid.start w q x0 deep (k + h) (k + h + m) zs' (by omega)⟩
  case round =>
    obtain ⟨j, V, ks, rfl, hmid⟩ := hrel
    have hlo := hmid.lo
    have hhi := hmid.hi
    have hfew := hmid.few
    obtain ⟨KA, KD, rfl⟩ := hmid.out.form
    have MD := Lib.hid hmid
    clear hmid
    by_cases hj : j < k + h + m
    · have RW := Lib.hid (RZ.out.below MD.out.out.1)
      have NE := Lib.hid (drop_ne ZL.out hj)
      have CI : Hid (∀ (nl : Nat) (ki ei di : Int), nl = k + h + m → ki = (j : Int) → ei = ((k + h + m : Nat) : Int) → di = ((deep + 1 : Nat) : Int) →
          Calls Try.prog 19 #[.slice (some ⟨b, off, none⟩) nl ca, .int .i64 ki, .int .i64 ei, .int .i64 di] wr (GivesElem (deep + 1) zs' j (k + h + m) wr)) := by
        intro nl ki ei di h0 h1 h2 h3
        subst h0
        subst h1
        subst h2
        subst h3
        exact IH.out (some ⟨b, off, none⟩) (k + h + m) ca j (deep + 1) zs' wr RW.out (by omega) (by omega) (by omega) (by omega) (by omega)
      go_wp2_with fail
      refine (CI.out _ _ _ _ (by omega) (by omega) (by omega) (by omega)).mono ?_
      rintro e w2 ⟨hb2, hways⟩
      have M2 := Lib.hid (MD.out.go hb2)
      clear CI RW
      rcases hways with ⟨z, hz, rfl⟩ | ⟨t, nx, v, ht, h1, h2, rfl, hin⟩
      · have zr := elemC_err hz
        have KB := Lib.hid (kids_bad NE.out hz)
        have F : Hid (elemC deep (zs.drop k) = .error (if z = 3 then 2 else z)) := FB.out z (by rw [MD.out.kids, KB.out]; rfl)
        have M3 := Lib.hid (M2.out.go (w2 := w2.alloc (.cells #[.int .i64 0, .slice none 0 0, .slice none 0 0] 26)) ((Below.refl _ _).alloc (Nat.le_refl _) _))
        obtain ⟨p0, p1, p2, f0, f1, f2⟩ := M3.out.res.facts
        clear hz MD hb2 M2
        by_cases hz3 : z = 3
        · subst hz3
          go_wp2_with fail
          exact bodyPost_ret (results_three rfl _ _ w.heap.size 26 #[.int .i64 0, .slice none 0 0, .slice none 0 0] (0, 0) _ rfl (zeroed_blk M3.out.res) Try.underlying26 rfl Try.sizeNode) rfl ⟨zeroed_below M3.out.out.1, .inl ⟨2, F.out, rfl⟩⟩
        · have t3 : (z == 3) = false := by simpa using hz3
          have t0 : (z != 0) = true := by simp; omega
          have F' : Hid (elemC deep (zs.drop k) = .error z) := by rw [F.out, if_neg hz3]; exact Lib.hid rfl
          clear hz3 F
          go_wp2_with fail
          exact bodyPost_ret (results_three rfl _ _ w.heap.size 26 #[.int .i64 0, .slice none 0 0, .slice none 0 0] (0, 0) _ rfl (zeroed_blk M3.out.res) Try.underlying26 rfl Try.sizeNode) rfl ⟨zeroed_below M3.out.out.1, .inl ⟨z, F'.out, rfl⟩⟩
      · obtain ⟨A, n', c', K', m', d', rfl⟩ := hin.form
        have V0 : Hid (t.InP (Apart (w.heap.size + 1) (.slice KA ks.length KD)) w2 (.agg #[.int .i64 t.tag, .slice A n' c', .slice K' m' d'])) := by
          refine T.InP.keep (fun b hb hp => ⟨⟨?_, fun e => ?_⟩, rfl⟩) (Nat.le_refl _) _ hin
          · have := MD.out.box.lt
            have hp' : wr.heap.size ≤ b := hp
            omega
          · have := nown_lt MD.out.out b e
            have hp' : wr.heap.size ≤ b := hp
            omega
        have M3 := Lib.hid (M2.out.go (w2 := w2.alloc (.cells #[.int .i64 t.tag, .slice A n' c', .slice K' m' d'] 26)) ((Below.refl _ _).alloc (Nat.le_refl _) _))
        have V3 := Lib.hid (T.InP.below (w' := w2.alloc (.cells #[.int .i64 t.tag, .slice A n' c', .slice K' m' d'] 26)) ((Below.refl _ _).alloc (Nat.le_refl _) _) (fun _ h => h) t V0.out)
        have HT := Lib.hid ht
        obtain ⟨p0, p1, p2, f0, f1, f2⟩ := M3.out.box.facts
        clear ht hin V0 MD hb2 M2
        go_wp2_with (at_builtin; refine nout_append (W0 := w) (g := w.heap.size + 1) (V := .slice KA ks.length KD) (ks := ks) (t := t) rfl _ _ rfl rfl M3.out.out V3.out (w2.heap.size + 1) (by simp) rfl (by omega) ?_; intro V4 w4 ho4 hat4 hk4 hb4; clear hb4 p0 p1 p2 f0 f1 f2; obtain ⟨K4, D4, rfl⟩ := ho4.form; rw [show (ks ++ [t]).length = ks.length + 1 by simp] at ho4 hat4; obtain ⟨p0, p1, p2, f0, f1, f2⟩ := (show Blk w4 _ _ _ from (hk4 _ M3.out.box.lt M3.out.offB).trans M3.out.box).facts; have HO4 := Lib.hid ho4; have HA4 := Lib.hid hat4; have HK4 := Lib.hid hk4; clear ho4 hat4 hk4)
        go_roundw
        case rel => exact ⟨nx, _, ks ++ [t], rfl, M3.out.next NE.out HT.out h1 h2 HO4.out (by rw [show (w2.alloc (.cells #[.int .i64 t.tag, .slice A n' c', .slice K' m' d'] 26)).heap.size = w2.heap.size + 1 by simp]; simpa using HA4.out) HK4.out⟩
        case measure => simp [intOf]; omega
    · obtain rfl : j = k + h + m := by omega
      have KN : Hid (kidsC (deep + 1) (zs'.drop (k + h)) = .ok ks) := by
        rw [MD.out.kids, List.drop_of_length_le (by rw [ZL.out]; exact Nat.le_refl _), kidsC_nil]
        simp [app, Hid]
      have F := Lib.hid (FO.out ks KN.out)
      obtain ⟨p0, p1, p2, f0, f1, f2⟩ := MD.out.res.facts
      obtain ⟨s0, s1, s2, g0, g1, g2⟩ := MD.out.box.facts
      go_wp2_with fail
      exact bodyPost_ret (results_three rfl _ _ w.heap.size 26 #[.int .i64 x0, .slice none 0 0, .slice KA ks.length KD] (0, 0) _ rfl (given_blk MD.out.res x0 _) Try.underlying26 rfl Try.sizeNode) rfl ⟨given_below MD.out.out.1 x0 _, .inr ⟨.node x0 [] ks, k + h + m, _, F.out, by omega, by omega, rfl, given_in MD.out.out MD.out.offA XW⟩⟩

end Go.Proofs.Ytefdfdnfpacfjaa
