/-
  Merged texts: TEls, ReadT, TElem, TRead, SkA, SkB, Pk11, TWrite, SkC.
-/
import Derived.Test.YtgmefdmeeihgoaaGreatDoorGrG
import Derived.Tactics2
import Derived.Defers
import Derived.Recover
import Derived.Test.YtgmefdmeeihgoaaGreatDoorGrE
import Derived.Test.YtgmefdmeeihgoaaGreatDoorGrF
namespace Go.Proofs.YtgmefdmeeihgoaaGreatDoor
open Go.RowKit
set_option linter.unusedVariables false
def GivesEl (gs lvl Bd : Nat) (zs : List Int) (w : World) (e : Ending) (w' : World) : Prop :=
  w.grownBy w' (some gs) ∧ ((∃ z : Int, elemC lvl zs = .error z ∧ e = .panicked (errP (norm lvl z))) ∨
    (∃ (t : T) (r : List Int) (v : Value), elemC lvl zs = .ok (t, r) ∧ e = .returned v ∧ t.InP (w.heap.size ≤ ·) w' v ∧ Rest w' gs lvl Bd r))
def GivesEls (W0 : World) (gs lvl : Nat) (zs : List Int) (w : World) (e : Ending) (w' : World) : Prop :=
  w.grownBy w' (some gs) ∧ ((∃ z : Int, kidsC lvl zs = .error z ∧ e = .panicked (errP (norm lvl z))) ∨
    (∃ (ks : List T) (V : Value), kidsC lvl zs = .ok ks ∧ e = .returned V ∧ NOut W0 w' gs V ks))
theorem NOut.grown {W0 wr w2 : World} {g : Nat} {V : Value} {ks : List T} (h : NOut W0 wr g V ks) (hg : W0.heap.size ≤ g) (hV : V.ownBlock ≠ some g) (hw : wr.grownBy w2 (some g)) : NOut W0 w2 g V ks := by
  obtain ⟨h1, xs, h2, h3⟩ := h
  refine ⟨Below.trans h1 (grown_below hw W0.heap.size hg h1.size), xs, ⟨h2.1, ?_⟩, fun i hi => ?_⟩
  · rcases h2.2 with h' | ⟨g', cap, cur, e, h1, h2, h3⟩
    · exact .inl h'
    · refine .inr ⟨g', cap, cur, e, h1, ?_, h3⟩
      rw [← h2]
      exact hw.block g' (Array.getElem?_eq_some_iff.1 h2).1 (fun he => hV (by injection he with he; rw [e, he]; rfl))
  · obtain ⟨v0, v1, v2, e0, e1, e2, hin⟩ := h3 i hi
    refine ⟨v0, v1, v2, e0, e1, e2, T.InP.keep (fun b hb hp => ⟨hp, hw.block b hb (fun he => ?_)⟩) hw.size _ hin⟩
    injection he with he
    have := hp.1
    omega
def lenAt (w : World) (gs : Nat) : Nat := match w.cell? ⟨gs, 0, none⟩ with | some (.slice _ n _) => n | _ => 0
theorem Rest.len {w : World} {gs lvl Bd : Nat} {zs : List Int} (h : Rest w gs lvl Bd zs) : lenAt w gs = zs.length := by
  obtain ⟨A, c, h1, _⟩ := h
  have := h1.cell 0
  unfold lenAt
  rw [this]
  rfl
structure ElMid (W0 w wr : World) (gs lvl Bd : Nat) (zs zs' : List Int) (V : Value) (ks : List T) : Prop where
  rest : Rest wr gs lvl Bd zs'
  kids : kidsC lvl zs = app ks (kidsC lvl zs')
  out : NOut W0 wr gs V ks
  new : ∀ b, V.ownBlock = some b → w.heap.size ≤ b
  grown : w.grownBy wr (some gs)
  few : ks.length + zs'.length ≤ zs.length
theorem ElMid.start {W0 w : World} {gs lvl Bd : Nat} {zs : List Int} (hr : Rest w gs lvl Bd zs) (hb : Below W0.heap.size W0 w) : ElMid W0 w w gs lvl Bd zs zs (.slice none 0 0) [] :=
  ⟨hr, (app_nil _).symm, NOut.start hb gs, fun b h => by simp [Value.ownBlock] at h, World.grownBy.refl _ _, by simp⟩
theorem ElMid.next {W0 w wr w2 w4 : World} {gs lvl Bd : Nat} {zs zs' r : List Int} {V V4 : Value} {ks : List T} {t : T} (h : ElMid W0 w wr gs lvl Bd zs zs' V ks) (hgw : gs < w.heap.size) (hBd : Bd ≤ gs) (hne : zs' ≠ []) (he : elemC lvl zs' = .ok (t, r)) (hg : wr.grownBy w2 (some gs)) (hr : Rest w2 gs lvl Bd r)
    (ho : NOut W0 w4 gs V4 (ks ++ [t])) (hat : V4.ownBlock = V.ownBlock ∨ V4.ownBlock = some (w2.heap.size + 1)) (hk : ∀ b, b < w2.heap.size → V.ownBlock ≠ some b → w4.heap[b]? = w2.heap[b]?) (hb4 : Below W0.heap.size w2 w4) : ElMid W0 w w4 gs lvl Bd zs r V4 (ks ++ [t]) := by
  have hs : w.heap.size ≤ w2.heap.size := Nat.le_trans h.grown.size hg.size
  have g2 := grown_trans h.grown hg
  have hV : ∀ b, b < w.heap.size → V.ownBlock ≠ some b := fun b hb e => by
    have := h.new b e
    omega
  refine ⟨hr.keep hb4.size (fun b hb hp => hk b hb (hV b (by omega))), h.kids.trans (kids_one hne he), ho, fun b e => ?_, ⟨hb4.os.trans g2.os, hb4.tape.trans g2.tape, hb4.output.trans g2.output, Nat.le_trans g2.size hb4.size, fun k hk1 hk2 => (hk k (by omega) (hV k hk1)).trans (g2.block k hk1 hk2)⟩, ?_⟩
  · rcases hat with e' | e'
    · exact h.new b (e'.symm.trans e)
    · rw [e'] at e
      injection e with e
      omega
  · rw [List.length_append]
    have := h.few
    have := elemC_rest he
    simp
    omega
set_option maxHeartbeats 2000000 in
theorem els_any (N : Nat) (ih : ∀ (gs lvl Bd : Nat) (zs : List Int) (w : World), zs.length < N → lvl ≤ 32 → zs.length ≤ 30000 → Rest w gs lvl Bd zs → Calls Tryz.prog 106 #[.pointer (some ⟨gs, 0, none⟩)] w (GivesEl gs lvl Bd zs w))
    (W0 : World) (gs lvl Bd : Nat) (zs : List Int) (w : World) (hN : zs.length < N) (hl : lvl ≤ 32) (hn : zs.length ≤ 30000) (hr : Rest w gs lvl Bd zs) (hW : W0.heap.size ≤ gs) (hB : Below W0.heap.size W0 w) :
    Calls Tryz.prog 123 #[.pointer (some ⟨gs, 0, none⟩)] w (GivesEls W0 gs lvl zs w) := by
  have M0 := Lib.hid (ElMid.start hr hB)
  have IH := Lib.hid ih
  have hgw : gs < w.heap.size := by
    obtain ⟨A, c, h, _⟩ := hr
    exact h.lt
  have hBd : Bd ≤ gs := by
    obtain ⟨A, c, _, _, _, _, h, _⟩ := hr
    exact h
  clear hr hB ih
  go_enter Tryz.func123, Tryz.ntmps123
  go_wp2_with fail
  go_loopw [3] (fun V wr => ∃ (zs' : List Int) (ks : List T), ElMid W0 w wr gs lvl Bd zs zs' V ks) (fun _ wr => lenAt wr gs)
  case atStart => exact ⟨zs, [], M0.out⟩
  case round =>
    obtain ⟨zs', ks, hmid⟩ := hrel
    have MD := Lib.hid hmid
    have hfew := hmid.few
    have HL := Lib.hid hmid.rest.len
    obtain ⟨KA, KD, rfl⟩ := hmid.out.form
    obtain ⟨A, c, hblk, _⟩ := hmid.rest
    have c0 := hblk.cell 0
    simp only [List.getElem?_toArray, List.getElem?_cons_zero] at c0
    clear hmid hblk M0
    by_cases h0 : zs'.length = 0
    · obtain rfl : zs' = [] := List.eq_nil_of_length_eq_zero h0
      have KN : Hid (kidsC lvl zs = .ok ks) := by
        rw [MD.out.kids, kidsC_nil]
        simp [app, Hid]
      simp only [List.length_nil] at c0
      clear h0 HL hfew
      go_wp2_with fail
      go_ret
      exact ⟨MD.out.grown, .inr ⟨ks, _, KN.out, rfl, MD.out.out⟩⟩
    · have NE : Hid (zs' ≠ []) := fun e => h0 (by rw [e]; rfl)
      have t0 : ((zs'.length : Int) != 0) = true := by simpa using h0
      have CI := Lib.hid (IH.out gs lvl Bd zs' wr (by omega) hl (by omega) MD.out.rest)
      go_wp2_with fail
      refine CI.out.mono ?_
      rintro e w2 ⟨hg2, hways⟩
      have G2 := Lib.hid hg2
      clear CI
      rcases hways with ⟨z, hz, rfl⟩ | ⟨t, r, v, ht, rfl, hin, hrest⟩
      · have F : Hid (kidsC lvl zs = .error z) := by
          rw [MD.out.kids, kids_bad NE.out hz]
          rfl
        exact ⟨rfl, grown_trans MD.out.grown G2.out, .inl ⟨z, F.out, rfl⟩⟩
      · obtain ⟨A', n', c', K', m', d', rfl⟩ := hin.form
        have hVg : ∀ b, (Value.slice KA ks.length KD).ownBlock = some b → w.heap.size ≤ b := MD.out.new
        have O2 : Hid (NOut W0 w2 gs (.slice KA ks.length KD) ks) := MD.out.out.grown hW (fun e => Nat.not_le.2 hgw (hVg gs e)) hg2
        have V0 : Hid (t.InP (Apart gs (.slice KA ks.length KD)) w2 (.agg #[.int .i64 t.tag, .slice A' n' c', .slice K' m' d'])) := by
          refine T.InP.keep (fun b hb hp => ⟨⟨?_, fun e => ?_⟩, rfl⟩) (Nat.le_refl _) _ hin
          · have hp' : wr.heap.size ≤ b := hp
            have := MD.out.grown.size
            omega
          · have := nown_lt MD.out.out b e
            have hp' : wr.heap.size ≤ b := hp
            omega
        have HT := Lib.hid ht
        have HR := Lib.hid hrest
        clear ht hin hrest hg2 hVg
        go_wp2_with (at_builtin; refine nout_append (W0 := W0) (g := gs) (V := .slice KA ks.length KD) (ks := ks) (t := t) rfl _ _ rfl rfl O2.out V0.out w2.heap.size rfl rfl (by omega) ?_; intro V4 w4 ho4 hat4 hk4 hb4; have MN := Lib.hid (MD.out.next hgw hBd NE.out HT.out G2.out HR.out ho4 hat4 hk4 hb4); clear ho4 hat4 hk4 hb4)
        go_roundw
        case rel => exact ⟨r, ks ++ [t], MN.out⟩
        case measure =>
          rw [MN.out.rest.len, HL.out]
          exact elemC_rest HT.out
end Go.Proofs.YtgmefdmeeihgoaaGreatDoor
namespace Go.Proofs.YtgmefdmeeihgoaaGreatDoor
open Go.RowKit
set_option linter.unusedVariables false
theorem elem_any : ∀ (N : Nat) (a : Option Addr) (n ca k deep : Nat) (zs : List Int) (w : World), Row w a n zs → n ≤ ca → n ≤ 30000 → k ≤ n → deep ≤ 32 → n - k < N →
    Calls Tryz.prog 62 #[.slice a n ca, .int .i64 (k : Int), .int .i64 (n : Int), .int .i64 (deep : Int)] w (GivesElem deep zs k n w) := by
  intro N
  induction N with
  | zero => intro a n ca k deep zs w _ _ _ _ _ h; omega
  | succ N ih =>
    intro a n ca k deep zs w hr hnc hn hk hd hN
    cases hh : headL (zs.drop k) with
    | error z => exact elem_err a n ca k deep zs w hr hnc hn hk hd hh
    | ok p =>
      obtain ⟨h, m⟩ := p
      by_cases hs : n < k + h + m
      · exact elem_short a n ca k deep zs w hr hnc hn hk hd hh hs
      by_cases hdp : 32 ≤ deep
      · exact elem_deep a n ca k deep zs w hr hnc hn hk hd hh hs hdp
      cases hw : withinB (zs[k]?.getD 0)
      · exact elem_leaf a n ca k deep zs w hr hnc hn hk hd hh hs hdp hw
      · exact elem_in N ih a n ca k deep zs w hr hnc hn hk hd hN hh hs hdp hw
def GivesRead (x : Except Int T) (w : World) (e : Ending) (w' : World) : Prop :=
  Below w.heap.size w w' ∧
  ((∃ z : Int, x = .error z ∧ e = .returned (.tuple #[.agg #[.int .i64 0, .slice none 0 0, .slice none 0 0], .int .i64 z])) ∨
   (∃ (t : T) (v : Value), x = .ok t ∧ e = .returned (.tuple #[v, .int .i64 0]) ∧ t.InP (w.heap.size ≤ ·) w' v))
theorem results_node {P : Program} {fn : Func} {p u : Tmp} {ty : TypeId} (h : fn.results = #[.cell p ty, .tmp u]) (tmps : Array Value) (w : World) (g : Nat) (t : TypeId) (cs : Array Value) (fr : Nat × Nat) (d : TypeDesc)
    (hp : tmps.getD p undef = .pointer (some ⟨g, 0, none⟩)) (hg : w.heap[g]? = some (.cells cs t fr))
    (hu : P.underlying ty = some d) (hd : (match d with | .struct _ | .array _ _ => true | _ => false) = true) (hi : (P.info? ty).map (·.size) = some cs.size) :
    (results fn tmps).run P w = .ok (.tuple #[.agg cs, tmps.getD u undef]) w := by
  rw [results_cell_tmp h, hp]
  simp [asAddr, run_loadVar_row w g t ty cs fr d hg hu hd hi, Result.andThen]
theorem read_large {l : List Int} (h : 20000 < l.length) : readZ l = .error 5 := if_pos h
theorem read_bad {l : List Int} {z : Int} (h : ¬ 20000 < l.length) (e : elemC 0 l = .error z) : readZ l = .error z := by rw [readZ, if_neg h, e]
theorem read_rest {l r : List Int} {t : T} (h : ¬ 20000 < l.length) (e : elemC 0 l = .ok (t, r)) (hr : r ≠ []) : readZ l = .error 2 := by
  rw [readZ, if_neg h, e]
  exact if_neg hr
theorem read_ok {l r : List Int} {t : T} (h : ¬ 20000 < l.length) (e : elemC 0 l = .ok (t, r)) (hr : r = []) : readZ l = .ok t := by
  rw [readZ, if_neg h, e]
  exact if_pos hr
def laidW (w W : World) (a b c : Value) : World := ((W.setCell ⟨w.heap.size, 0, none⟩ a).setCell ⟨w.heap.size, 1, none⟩ b).setCell ⟨w.heap.size, 2, none⟩ c
theorem laid_blk {w W : World} {x y z : Value} (h : Blk W w.heap.size 28 #[x, y, z]) (a b c : Value) : Blk (laidW w W a b c) w.heap.size 28 #[a, b, c] :=
  ((h.set 0 a).set 1 b).set 2 c
theorem laid_below {w W : World} (h : Below w.heap.size w W) (a b c : Value) : Below w.heap.size w (laidW w W a b c) := ((h.setCell (Nat.le_refl _) _).setCell (Nat.le_refl _) _).setCell (Nat.le_refl _) _
theorem laid_in {w W : World} {t : T} {v : Value} (h : t.InP (w.heap.size + 1 ≤ ·) W v) (a b c : Value) : t.InP (w.heap.size ≤ ·) (laidW w W a b c) v :=
  T.InP.keep (fun x _ hp => ⟨by have hp' : w.heap.size + 1 ≤ x := hp; show w.heap.size ≤ x; omega, by
    have hp' : w.heap.size + 1 ≤ x := hp
    have hx : x ≠ w.heap.size := by omega
    unfold laidW
    rw [heap_setCell_other _ ⟨w.heap.size, 2, none⟩ x c hx, heap_setCell_other _ ⟨w.heap.size, 1, none⟩ x b hx, heap_setCell_other _ ⟨w.heap.size, 0, none⟩ x a hx]⟩) (by simp [laidW]) _ h
set_option maxHeartbeats 2000000 in
theorem rread_any (a : Option Addr) (n ca : Nat) (zs : List Int) (w : World) (hr : Row w a n zs) (hnc : n ≤ ca) (hn : n ≤ 30000) : Calls Tryz.prog 31 #[.slice a n ca] w (GivesRead (readZ zs) w) := by
  have hlen := hr.1
  have B0 : Hid (Below w.heap.size w (w.alloc (.cells #[.int .i64 0, .slice none 0 0, .slice none 0 0] 28))) := (Below.refl _ _).alloc (Nat.le_refl _) _
  have K0 := Lib.hid (Blk.new w 28 #[.int .i64 0, .slice none 0 0, .slice none 0 0])
  by_cases h5 : 20000 < n
  · have F := Lib.hid (read_large (l := zs) (by omega))
    clear hlen
    go_enter Tryz.func31, Tryz.ntmps31
    go_wp2_with fail
    exact bodyPost_ret (results_node rfl _ _ w.heap.size 28 #[.int .i64 0, .slice none 0 0, .slice none 0 0] (0, 0) _ rfl K0.out Tryz.underlying28 rfl Tryz.sizeNode) rfl ⟨B0.out, .inl ⟨5, F.out, rfl⟩⟩
  have N5 : Hid (¬ 20000 < zs.length) := by rw [hlen]; exact Lib.hid h5
  have R0 := Lib.hid (hr.below (w' := w.alloc (.cells #[.int .i64 0, .slice none 0 0, .slice none 0 0] 28)) ((Below.refl _ _).alloc (Nat.le_refl _) _))
  have CI : Hid (∀ (ki ei di : Int), ki = ((0 : Nat) : Int) → ei = (n : Int) → di = ((0 : Nat) : Int) →
      Calls Tryz.prog 62 #[.slice a n ca, .int .i64 ki, .int .i64 ei, .int .i64 di] (w.alloc (.cells #[.int .i64 0, .slice none 0 0, .slice none 0 0] 28)) (GivesElem 0 zs 0 n (w.alloc (.cells #[.int .i64 0, .slice none 0 0, .slice none 0 0] 28)))) := by
    intro ki ei di h1 h2 h3
    subst h1
    subst h2
    subst h3
    exact elem_any (n + 1) a n ca 0 0 zs _ R0.out hnc hn (Nat.zero_le _) (by omega) (by omega)
  have HL := Lib.hid hlen
  clear hlen
  go_enter Tryz.func31, Tryz.ntmps31
  go_wp2_with fail
  refine (CI.out _ _ _ (by omega) (by omega) (by omega)).mono ?_
  rintro e w2 ⟨hb2, hways⟩
  have B2 := Lib.hid (Below.step B0.out hb2)
  have K2 := Lib.hid (K0.out.below hb2 (by simp))
  rcases hways with ⟨z, hz, rfl⟩ | ⟨t, nx, v, ht, h1, h2, rfl, hin⟩
  · rw [List.drop_zero] at hz
    have zr := elemC_err hz
    have F := Lib.hid (read_bad N5.out hz)
    have t0 : (z != 0) = true := by simp; omega
    have K3 := Lib.hid (K2.out.alloc (.cells #[.int .i64 0, .slice none 0 0, .slice none 0 0] 28))
    have B3 : Hid (Below w.heap.size w (w2.alloc (.cells #[.int .i64 0, .slice none 0 0, .slice none 0 0] 28))) := Below.step B2.out ((Below.refl _ _).alloc (Nat.le_refl _) _)
    obtain ⟨p0, p1, p2, f0, f1, f2⟩ := K3.out.facts
    clear hz hb2 CI K2 B2 K0
    go_wp2_with fail
    exact bodyPost_ret (results_node rfl _ _ w.heap.size 28 #[.int .i64 0, .slice none 0 0, .slice none 0 0] (0, 0) _ rfl (laid_blk K3.out _ _ _) Tryz.underlying28 rfl Tryz.sizeNode) rfl ⟨laid_below B3.out _ _ _, .inl ⟨z, F.out, rfl⟩⟩
  · rw [List.drop_zero] at ht
    obtain ⟨A, n', c', K', m', d', rfl⟩ := hin.form
    have K3 := Lib.hid (K2.out.alloc (.cells #[.int .i64 t.tag, .slice A n' c', .slice K' m' d'] 28))
    have B3 : Hid (Below w.heap.size w (w2.alloc (.cells #[.int .i64 t.tag, .slice A n' c', .slice K' m' d'] 28))) := Below.step B2.out ((Below.refl _ _).alloc (Nat.le_refl _) _)
    have V3 : Hid (t.InP (w.heap.size + 1 ≤ ·) (w2.alloc (.cells #[.int .i64 t.tag, .slice A n' c', .slice K' m' d'] 28)) (.agg #[.int .i64 t.tag, .slice A n' c', .slice K' m' d'])) :=
      T.InP.below ((Below.refl _ _).alloc (Nat.le_refl _) _) (fun b hb => by simpa using hb) t hin
    obtain ⟨p0, p1, p2, f0, f1, f2⟩ := K3.out.facts
    by_cases hnx : nx < n
    · have F := Lib.hid (read_rest N5.out ht (drop_ne HL.out hnx))
      clear ht hin hb2 CI K2 B2 K0
      go_wp2_with fail
      exact bodyPost_ret (results_node rfl _ _ w.heap.size 28 #[.int .i64 0, .slice none 0 0, .slice none 0 0] (0, 0) _ rfl (laid_blk K3.out _ _ _) Tryz.underlying28 rfl Tryz.sizeNode) rfl ⟨laid_below B3.out _ _ _, .inl ⟨2, F.out, rfl⟩⟩
    · have F := Lib.hid (read_ok N5.out ht (List.drop_of_length_le (by rw [HL.out]; omega)))
      clear ht hin hb2 CI K2 B2 K0
      go_wp2_with fail
      exact bodyPost_ret (results_node rfl _ _ w.heap.size 28 #[.int .i64 t.tag, .slice A n' c', .slice K' m' d'] (0, 0) _ rfl (laid_blk K3.out _ _ _) Tryz.underlying28 rfl Tryz.sizeNode) rfl ⟨laid_below B3.out _ _ _, .inr ⟨t, _, F.out, rfl, laid_in V3.out _ _ _⟩⟩
end Go.Proofs.YtgmefdmeeihgoaaGreatDoor
namespace Go.Proofs.YtgmefdmeeihgoaaGreatDoor
open Go.RowKit
set_option linter.unusedVariables false
structure ES (w W : World) (gs lvl Bd : Nat) (l : List Int) : Prop where
  rest : Rest W gs lvl Bd l
  box : Blk W w.heap.size 28 #[.int .i64 0, .slice none 0 0, .slice none 0 0]
  grown : w.grownBy W (some gs)
  lt : gs < w.heap.size
theorem ES.start {w : World} {gs lvl Bd : Nat} {l : List Int} (h : Rest w gs lvl Bd l) : ES w (w.alloc (.cells #[.int .i64 0, .slice none 0 0, .slice none 0 0] 28)) gs lvl Bd l :=
  ⟨h.below ((Below.refl _ _).alloc (Nat.le_refl _) _), Blk.new _ _ _, World.grownBy_alloc _ _ _, by obtain ⟨A, c, h1, _⟩ := h; exact h1.lt⟩
theorem ES.go {w W W' : World} {gs lvl Bd : Nat} {l l' : List Int} (h : ES w W gs lvl Bd l) (hg : W.grownBy W' (some gs)) (hr : Rest W' gs lvl Bd l') : ES w W' gs lvl Bd l' :=
  ⟨hr, h.box.grown hg (by have := h.lt; omega), grown_trans h.grown hg, h.lt⟩
theorem ES.below {w W W' : World} {gs lvl Bd : Nat} {l : List Int} (h : ES w W gs lvl Bd l) (hb : Below W.heap.size W W') : ES w W' gs lvl Bd l := h.go (grown_of hb) (h.rest.below hb)
theorem Rest.level {w : World} {gs lvl Bd : Nat} {zs : List Int} (h : Rest w gs lvl Bd zs) : w.cell? ⟨gs, 1, none⟩ = some (.int .i64 (lvl : Int)) := by
  obtain ⟨A, c, h1, _⟩ := h
  exact h1.cell 1
theorem Rest.low {w : World} {gs lvl Bd : Nat} {zs : List Int} (h : Rest w gs lvl Bd zs) : Bd ≤ gs := by
  obtain ⟨A, c, _, _, _, _, h, _⟩ := h
  exact h
theorem laid_grown {w W : World} {g : Nat} (h : w.grownBy W (some g)) (a b c : Value) : w.grownBy (laidW w W a b c) (some g) := by
  refine ⟨h.os, h.tape, h.output, by simpa [laidW] using h.size, fun k hk hne => ?_⟩
  have hx : k ≠ w.heap.size := by omega
  unfold laidW
  rw [heap_setCell_other _ ⟨w.heap.size, 2, none⟩ k c hx, heap_setCell_other _ ⟨w.heap.size, 1, none⟩ k b hx, heap_setCell_other _ ⟨w.heap.size, 0, none⟩ k a hx]
  exact h.block k hk hne
theorem laid_rest {w W : World} {gs lvl Bd : Nat} {l : List Int} (h : Rest W gs lvl Bd l) (hl : gs < w.heap.size) (a b c : Value) : Rest (laidW w W a b c) gs lvl Bd l := by
  have hB : Bd ≤ gs := by
    obtain ⟨A, cc, _, _, _, _, h, _⟩ := h
    exact h
  refine h.keep (by simp [laidW]) (fun k _ hk => ?_)
  have hx : k ≠ w.heap.size := by omega
  unfold laidW
  rw [heap_setCell_other _ ⟨w.heap.size, 2, none⟩ k c hx, heap_setCell_other _ ⟨w.heap.size, 1, none⟩ k b hx, heap_setCell_other _ ⟨w.heap.size, 0, none⟩ k a hx]
theorem norm_in (lvl : Nat) (z : Int) : norm (lvl + 1) z = norm lvl (if z = 3 then 2 else z) := by
  unfold norm
  by_cases h : z = 3
  · simp [h]
  · simp [h]
theorem norm4 (lvl : Nat) : norm lvl 4 = 4 := by simp [norm]
theorem leaf_of {W0 W : World} {V : Value} {zs : List Int} {z : Int} (h : Out W0 W V zs) (hz : (Lit.int .i64 z).wf = true) (hb : ∀ x ∈ zs, 0 ≤ x ∧ x ≤ 255) (hn : zs.length ≤ 1000000) : ∃ a c, V = .slice a zs.length c ∧ (T.node z zs []).InP (W0.heap.size ≤ ·) W (.agg #[.int .i64 z, .slice a zs.length c, .slice none 0 0]) := by
  obtain ⟨a, c, rfl, hr⟩ := h.row hb
  refine ⟨a, c, rfl, ?_⟩
  unfold T.InP
  refine ⟨a, zs.length, c, none, 0, 0, rfl, hz, hr, by unfold maxLen; omega, h.nilc, rfl, ⟨Nat.zero_le _, own_cap h.1, Nat.le_refl _⟩, fun h0 => ?_, fun h0 => absurd h0 (by omega)⟩
  obtain ⟨g, cap, e, hg⟩ := h.form h0
  injection e with e1 e2 e3
  exact ⟨g, 0, e1, hg⟩
set_option maxHeartbeats 4000000 in
set_option maxRecDepth 100000 in
theorem telem_step (N : Nat) (ih : ∀ (gs lvl Bd : Nat) (zs : List Int) (w : World), zs.length < N → lvl ≤ 32 → zs.length ≤ 30000 → Rest w gs lvl Bd zs → Calls Tryz.prog 106 #[.pointer (some ⟨gs, 0, none⟩)] w (GivesEl gs lvl Bd zs w))
    (gs lvl Bd : Nat) (zs : List Int) (w : World) (hN : zs.length < N + 1) (hl : lvl ≤ 32) (hn : zs.length ≤ 30000) (hr : Rest w gs lvl Bd zs) :
    Calls Tryz.prog 106 #[.pointer (some ⟨gs, 0, none⟩)] w (GivesEl gs lvl Bd zs w) := by
  have hby : ∀ z ∈ zs, 0 ≤ z ∧ z ≤ 255 := by
    obtain ⟨A, c, _, h, _⟩ := hr
    exact h.2.1
  have z0 := at0_byte hby 0
  have E0 := Lib.hid (ES.start hr)
  have HH := Lib.hid (head_len zs)
  clear hr
  by_cases h1 : zs.length < 1
  · have F : Hid (elemC lvl zs = .error 3) := elemC_bad (HH.out.trans (if_pos h1))
    have CI := Lib.hid (show Calls Tryz.prog 121 #[.pointer (some ⟨gs, 0, none⟩), .int .i64 1] _ _ from take_short gs lvl Bd 1 zs _ (by omega) E0.out.rest hn h1 (by omega))
    clear HH
    go_enter Tryz.func106, Tryz.ntmps106
    go_wp2_with fail
    refine CI.out.mono ?_
    rintro e w2 ⟨rfl, rfl⟩
    exact ⟨rfl, E0.out.grown, .inl ⟨3, F.out, rfl⟩⟩
  have CI := Lib.hid (show Calls Tryz.prog 121 #[.pointer (some ⟨gs, 0, none⟩), .int .i64 1] _ _ from take_ok gs lvl Bd 1 zs _ E0.out.rest hn (by omega))
  have el : (zs.drop 1).length = zs.length - 1 := List.length_drop
  have HH2 : Hid (headL zs = if at0 zs 0 % 32 = 31 then .error 2 else (match lenL (zs.drop 1) with | .error z => .error z | .ok (h, m) => .ok (h + 1, m))) := HH.out.trans (if_neg h1)
  clear HH
  by_cases c1 : at0 zs 0 % 32 = 31
  · have F : Hid (elemC lvl zs = .error 2) := elemC_bad (HH2.out.trans (if_pos c1))
    have TB : Hid (tagB (at0 zs 0) = false) := by simp [tagB, c1, Hid]
    clear HH2 el
    go_enter Tryz.func106, Tryz.ntmps106
    go_wp2_with fail
    refine CI.out.mono ?_
    intro e w2 h2
    obtain ⟨b, off, c, rfl, hcell, hrest, hg⟩ := take_one h2 (by omega)
    have E2 := Lib.hid (E0.out.go hg hrest)
    clear h2 hg hrest CI E0
    generalize at0 zs 0 = x0 at hcell z0 TB c1
    clear c1
    go_wp2_with fail
    refine (ttag_any x0 _ (WalkArith.wf_i64 (by omega))).mono ?_
    rintro e w3 ⟨rfl, rfl⟩
    rw [TB.out]
    go_wp2_with fail
    exact ⟨rfl, E2.out.grown, .inl ⟨2, F.out, by rw [norm2]; rfl⟩⟩
  have HH3 : Hid (headL zs = (match lenL (zs.drop 1) with | .error z => .error z | .ok (h, m) => .ok (h + 1, m))) := HH2.out.trans (if_neg c1)
  have TB : Hid (tagB (at0 zs 0) = true) := by
    have h2 : at0 zs 0 < 256 := by omega
    simp [tagB, c1, h2, z0.1, Hid]
  have EB := Lib.hid (fun (w2 : World) (hr2 : Rest w2 gs lvl Bd (zs.drop 1)) => len_any gs lvl Bd (zs.drop 1) w2 (by omega) hr2 (by omega))
  have EL := Lib.hid el
  clear HH2 c1 el
  go_enter Tryz.func106, Tryz.ntmps106
  go_wp2_with fail
  refine CI.out.mono ?_
  intro e w2 h2
  obtain ⟨b, off, c, rfl, hcell, hrest, hg⟩ := take_one h2 (by omega)
  have E2 := Lib.hid (E0.out.go hg hrest)
  have C3 := Lib.hid (EB.out w2 hrest)
  obtain ⟨x0, hx0⟩ : ∃ x0, x0 = at0 zs 0 := ⟨_, rfl⟩
  rw [← hx0] at hcell z0 TB
  have X0 := Lib.hid hx0
  clear h2 hg hrest CI E0 EB hx0
  have XW : (Lit.int .i64 x0).wf = true := WalkArith.wf_i64 (by omega)
  go_wp2_with fail
  refine (ttag_any x0 _ XW).mono ?_
  rintro e w3 ⟨rfl, rfl⟩
  rw [TB.out]
  clear TB
  go_wp2_with fail
  refine C3.out.mono ?_
  rintro e w3 ⟨hg3, hways⟩
  clear C3 hcell
  rcases hways with ⟨z, hz, rfl⟩ | ⟨h, m, hz, rfl, hr3⟩
  · have F : Hid (elemC lvl zs = .error z) := elemC_bad (by rw [HH3.out, hz])
    exact ⟨rfl, grown_trans E2.out.grown hg3, .inl ⟨z, F.out, rfl⟩⟩
  have HD : Hid (headL zs = .ok (h + 1, m)) := by rw [HH3.out, hz]; exact Lib.hid rfl
  have hhk := head_ok HD.out
  have hmm := head_m hby HD.out
  rw [List.drop_drop, Nat.add_comm 1 h] at hr3
  have E3 := Lib.hid (E2.out.go hg3 hr3)
  have hl3 : (zs.drop (h + 1)).length = zs.length - (h + 1) := List.length_drop
  clear HH3 E2 hg3 hr3 hz EL
  by_cases hs : (zs.drop (h + 1)).length < m
  · have F : Hid (elemC lvl zs = .error 3) := elemC_short HD.out hs
    have CI := Lib.hid (take_short gs lvl Bd m (zs.drop (h + 1)) w3 (by omega) E3.out.rest (by omega) hs (by omega))
    go_wp2_with fail
    refine CI.out.mono ?_
    rintro e w4 ⟨rfl, rfl⟩
    exact ⟨rfl, E3.out.grown, .inl ⟨3, F.out, rfl⟩⟩
  have CI := Lib.hid (take_ok gs lvl Bd m (zs.drop (h + 1)) w3 E3.out.rest (by omega) (by omega))
  go_wp2_with fail
  refine CI.out.mono ?_
  rintro e w4 ⟨A, c4, rfl, hrow, hmc, hAb, hA0, hrest, hg⟩
  have E4 := Lib.hid (E3.out.go hg hrest)
  have RW := Lib.hid hrow
  have AB := Lib.hid hAb
  have A0 := Lib.hid hA0
  have cl := hrest.level
  have hzl : ((zs.drop (h + 1)).take m).length = m := by rw [List.length_take]; omega
  clear hrest hrow hAb hA0 hg CI E3
  by_cases hd : 32 ≤ lvl
  · have F : Hid (elemC lvl zs = .error 4) := elemC_deep HD.out hs hd
    have t0 : decide ((32 : Int) ≤ (lvl : Int)) = true := by simp; omega
    go_wp2_with fail
    exact ⟨rfl, E4.out.grown, .inl ⟨4, F.out, by rw [norm4]; rfl⟩⟩
  cases hw : withinB x0
  · have F := Lib.hid (elemC_leaf HD.out hs hd (by rw [← X0.out]; exact hw))
    rw [← X0.out] at F
    have WI := Lib.hid hw
    clear hw
    go_wp2_with fail
    refine (twithin_any x0 _ XW).mono ?_
    rintro e w5 ⟨rfl, rfl⟩
    rw [WI.out]
    have HZ := Lib.hid hzl
    have O0 : Hid (Out w4 w4 (.slice none 0 0) []) := ⟨World.ownsRow_nil _ _ _ _, Below.refl _ _⟩
    have HB := Lib.hid (fun x (hx : x ∈ (zs.drop (h + 1)).take m) => hby x (List.mem_of_mem_drop (List.mem_of_mem_take hx)))
    clear hby hzl
    generalize (zs.drop (h + 1)).take m = zm at F RW HZ HB
    go_wp2_with (at_builtin; go_must (refine out_append (W0 := w4) (L := []) (zs := zm) rfl _ _ rfl rfl O0.out rfl RW.out A0.out (by simp; omega) ?_; intro V5 w5 ho5; rw [List.nil_append] at ho5; obtain ⟨a5, cc5, rfl, hin5⟩ := leaf_of ho5 XW HB.out (by rw [HZ.out]; omega); have E5 := Lib.hid (E4.out.below ho5.2); have I5 := Lib.hid (T.InP.keep (Q := (w.heap.size + 1 ≤ ·)) (fun b _ hp => ⟨by have hp' : w4.heap.size ≤ b := hp; have := E4.out.box.lt; show w.heap.size + 1 ≤ b; omega, rfl⟩) (Nat.le_refl _) _ hin5); clear ho5 hin5; obtain ⟨p0, p1, p2, f0, f1, f2⟩ := E5.out.box.facts))
    exact bodyPost_ret (results_cell_row rfl _ _ w.heap.size 28 #[.int .i64 x0, .slice a5 zm.length cc5, .slice none 0 0] (0, 0) _ rfl (laid_blk E5.out.box _ _ _) Tryz.underlying28 rfl Tryz.sizeNode) rfl ⟨laid_grown E5.out.grown _ _ _, .inr ⟨_, _, _, F.out, rfl, laid_in I5.out _ _ _, laid_rest E5.out.rest E5.out.lt _ _ _⟩⟩
  · have FB := Lib.hid (fun z => elemC_in_bad (z := z) HD.out hs hd (by rw [← X0.out]; exact hw))
    have FO := Lib.hid (fun ks => elemC_in_ok (ks := ks) HD.out hs hd (by rw [← X0.out]; exact hw))
    rw [← X0.out] at FO
    have WI := Lib.hid hw
    have HZ := Lib.hid hzl
    clear hw hby hzl
    generalize (zs.drop (h + 1)).take m = zm at FB FO RW HZ
    have C5 : Hid (∀ ii : Int, ii = ((lvl + 1 : Nat) : Int) → Calls Tryz.prog 123 #[.pointer (some ⟨w4.heap.size, 0, none⟩)] (w4.alloc (.cells #[.slice A m c4, .int .i64 ii] 112)) (GivesEls w4 w4.heap.size (lvl + 1) zm (w4.alloc (.cells #[.slice A m c4, .int .i64 ii] 112)))) := by
      intro ii hii
      subst hii
      have hbl : Below w4.heap.size w4 (w4.alloc (.cells #[.slice A m c4, .int .i64 ((lvl + 1 : Nat) : Int)] 112)) := (Below.refl _ _).alloc (Nat.le_refl _) _
      refine els_any N ih w4 w4.heap.size (lvl + 1) Bd zm _ (by rw [HZ.out]; omega) (by omega) (by rw [HZ.out]; omega) ⟨A, c4, by rw [HZ.out]; exact Blk.new _ _ _, by rw [HZ.out]; exact RW.out.below hbl, by rw [HZ.out]; exact hmc, by rw [HZ.out]; exact AB.out, ?_, A0.out⟩ (Nat.le_refl _) hbl
      have h1 := E4.out.rest.low
      have h2 := E4.out.lt
      have h3 := E4.out.grown.size
      omega
    clear ih
    go_wp2_with fail
    refine (twithin_any x0 _ XW).mono ?_
    rintro e w5 ⟨rfl, rfl⟩
    rw [WI.out]
    go_wp2_with fail
    refine (C5.out _ (by omega)).mono ?_
    rintro e w6 ⟨hg6, hways⟩
    have E6 := Lib.hid (E4.out.below (Below.trans ((Below.refl _ _).alloc (Nat.le_refl _) _) (grown_below hg6 w4.heap.size (Nat.le_refl _) (by simp))))
    clear hg6 C5
    rcases hways with ⟨z, hz, rfl⟩ | ⟨ks, V, hks, rfl, hout⟩
    · exact ⟨rfl, E6.out.grown, .inl ⟨_, FB.out z hz, by rw [norm_in]⟩⟩
    · have F := Lib.hid (FO.out ks hks)
      have I6 := Lib.hid (T.InP.keep (Q := (w.heap.size + 1 ≤ ·)) (fun b _ hp => ⟨by have hp' : w4.heap.size ≤ b := hp; have := E4.out.box.lt; show w.heap.size + 1 ≤ b; omega, rfl⟩) (Nat.le_refl _) _ (hout.done (Nat.le_refl _) XW))
      obtain ⟨K6, d6, rfl⟩ := hout.form
      clear hks hout FB FO
      obtain ⟨p0, p1, p2, f0, f1, f2⟩ := E6.out.box.facts
      go_wp2_with fail
      exact bodyPost_ret (results_cell_row rfl _ _ w.heap.size 28 #[.int .i64 x0, .slice none 0 0, .slice K6 ks.length d6] (0, 0) _ rfl (laid_blk E6.out.box _ _ _) Tryz.underlying28 rfl Tryz.sizeNode) rfl ⟨laid_grown E6.out.grown _ _ _, .inr ⟨_, _, _, F.out, rfl, laid_in I6.out _ _ _, laid_rest E6.out.rest E6.out.lt _ _ _⟩⟩
theorem telem_any : ∀ (N gs lvl Bd : Nat) (zs : List Int) (w : World), zs.length < N → lvl ≤ 32 → zs.length ≤ 30000 → Rest w gs lvl Bd zs → Calls Tryz.prog 106 #[.pointer (some ⟨gs, 0, none⟩)] w (GivesEl gs lvl Bd zs w) := by
  intro N
  induction N with
  | zero => intro gs lvl Bd zs w h; omega
  | succ N ih => exact fun gs lvl Bd zs w hN hl hn hr => telem_step N ih gs lvl Bd zs w hN hl hn hr
end Go.Proofs.YtgmefdmeeihgoaaGreatDoor
namespace Go.Proofs.YtgmefdmeeihgoaaGreatDoor
open Go.RowKit
set_option linter.unusedVariables false
def caught (w : World) (p q : Nat) (z : Int) : World := (((w.setCell ⟨p, 0, none⟩ (.int .i64 0)).setCell ⟨p, 1, none⟩ (.slice none 0 0)).setCell ⟨p, 2, none⟩ (.slice none 0 0)).setCell ⟨q, 0, none⟩ (.int .i64 z)
theorem assert_errno (z : Int) (w : World) : (Instr.typeAssert (.iface 32 (.int .i64 z)) 20 32 true).run Tryz.prog w = .ok (.tuple #[.int .i64 z, .bool true]) w := by
  simp [Instr.typeAssert, run_underlying Tryz.underlying32, Result.andThen]
set_option maxHeartbeats 1000000 in
theorem catch_panicking (p q : Nat) (z y : Int) (a b c : Value) (w : World) (hp : Blk w p 28 #[a, b, c]) (hq : Blk w q 32 #[.int .i64 y]) (hne : q ≠ p) :
    CallsD Tryz.prog 105 #[.pointer (some ⟨p, 0, none⟩), .pointer (some ⟨q, 0, none⟩)] (.panicking (errP z)) w fun e u' w' =>
      e = .returned (.tuple #[]) ∧ u' = .panicking [{ v := .iface 32 (.int .i64 z), recovered := true }] ∧ w' = caught w p q z := by
  obtain ⟨p0, p1, p2, f0, f1, f2⟩ := hp.facts
  have q0 := hq.cell 0
  have g0 := hq.free 0
  simp only [List.getElem?_toArray, List.getElem?_cons_zero] at q0
  refine callsD_of_wpS Tryz.func105 rfl fun c₀ cs hu => ?_
  unfold errP at hu
  apply wpS_seq
  apply wpS_region
  simp [wpOpsS, go_sem, recoverD, hu, Tryz.ntmps105, Exit.thenS]
  refine wpS_of_wp ?_
  change Code.wp Tryz.prog _ _ ⟨#[.pointer (some ⟨p, 0, none⟩), .pointer (some ⟨q, 0, none⟩), undef, undef, undef, .iface 32 (.int .i64 z), undef, undef, undef, undef, undef, undef, undef], []⟩ w
  have ta := assert_errno z w
  go_wp2_with fail
  exact ⟨rfl, _, rfl, .tuple #[], by simp [results, Tryz.results105], rfl, rfl, rfl⟩
theorem catch_idle (p q : Nat) (w : World) :
    CallsD Tryz.prog 105 #[.pointer (some ⟨p, 0, none⟩), .pointer (some ⟨q, 0, none⟩)] .returning w fun e u' w' => e = .returned (.tuple #[]) ∧ u' = .returning ∧ w' = w := by
  refine callsD_of_wpS Tryz.func105 rfl fun c₀ cs hu => ?_
  apply wpS_seq
  apply wpS_region
  simp [wpOpsS, go_sem, recoverD, hu, Tryz.ntmps105, Exit.thenS]
  refine wpS_of_wp ?_
  change Code.wp Tryz.prog _ _ ⟨#[.pointer (some ⟨p, 0, none⟩), .pointer (some ⟨q, 0, none⟩), undef, undef, undef, .nilIface, undef, undef, undef, undef, undef, undef, undef], []⟩ w
  go_wp2_with fail
  refine ⟨rfl, .returning, ?_, .tuple #[], by simp [results, Tryz.results105], rfl, rfl, rfl⟩
  cases c₀
  simp_all
theorem results_pair {P : Program} {fn : Func} {p q : Tmp} {ty t2 : TypeId} (h : fn.results = #[.cell p ty, .cell q t2]) (tmps : Array Value) (w : World) (g g2 : Nat) (t : TypeId) (cs : Array Value) (fr : Nat × Nat) (d : TypeDesc) (z : Int)
    (hp : tmps.getD p undef = .pointer (some ⟨g, 0, none⟩)) (hg : w.heap[g]? = some (.cells cs t fr)) (hq : tmps.getD q undef = .pointer (some ⟨g2, 0, none⟩)) (hg2 : w.cell? ⟨g2, 0, none⟩ = some (.int .i64 z))
    (hu : P.underlying ty = some d) (hd : (match d with | .struct _ | .array _ _ => true | _ => false) = true) (hi : (P.info? ty).map (·.size) = some cs.size) (hu2 : P.underlying t2 = some (.int .i64)) :
    (results fn tmps).run P w = .ok (.tuple #[.agg cs, .int .i64 z]) w := by
  have hp' : tmps[p]?.getD undef = .pointer (some ⟨g, 0, none⟩) := by simpa using hp
  have hq' : tmps[q]?.getD undef = .pointer (some ⟨g2, 0, none⟩) := by simpa using hq
  simp [results, h, hp', hq', asAddr, run_loadVar_row w g t ty cs fr d hg hu hd hi]
  simp [loadVar, isAgg, run_underlying hu2, go_sem, hg2, Result.andThen]
def wholeZ (l : List Int) : Except Int T :=
  match elemC 0 l with
  | .error z => .error z
  | .ok (t, r) => if r = [] then .ok t else .error 2
theorem readZ_whole {l : List Int} (h : ¬ 20000 < l.length) : readZ l = wholeZ l := if_neg h
def wholeW (w : World) (a : Option Addr) (n ca : Nat) : World := ((w.alloc (.cells #[.int .i64 0, .slice none 0 0, .slice none 0 0] 28)).alloc (.cells #[.int .i64 0] 32)).alloc (.cells #[.slice a n ca, .int .i64 0] 112)
theorem wholeW_below (w : World) (a : Option Addr) (n ca : Nat) : Below w.heap.size w (wholeW w a n ca) :=
  Below.step (Below.step ((Below.refl _ _).alloc (Nat.le_refl _) _) ((Below.refl _ _).alloc (Nat.le_refl _) _)) ((Below.refl _ _).alloc (Nat.le_refl _) _)
structure WS (w W : World) (x y z : Value) (e : Int) : Prop where
  below : Below w.heap.size w W
  box : Blk W w.heap.size 28 #[x, y, z]
  err : Blk W (w.heap.size + 1) 32 #[.int .i64 e]
theorem WS.start (w : World) (a : Option Addr) (n ca : Nat) : WS w (wholeW w a n ca) (.int .i64 0) (.slice none 0 0) (.slice none 0 0) 0 := by
  refine ⟨wholeW_below w a n ca, ((Blk.new w _ _).alloc _).alloc _, ?_⟩
  have h := (Blk.new (w.alloc (.cells #[.int .i64 0, .slice none 0 0, .slice none 0 0] 28)) 32 #[.int .i64 0]).alloc (.cells #[.slice a n ca, .int .i64 0] 112)
  rw [show (w.alloc (.cells #[.int .i64 0, .slice none 0 0, .slice none 0 0] 28)).heap.size = w.heap.size + 1 by simp] at h
  exact h
theorem WS.go {w W W' : World} {x y z : Value} {e : Int} {gs : Nat} (h : WS w W x y z e) (hg : W.grownBy W' (some gs)) (hs : w.heap.size + 1 < gs) : WS w W' x y z e :=
  ⟨Below.trans h.below (grown_below hg w.heap.size (by omega) h.below.size), h.box.grown hg (by omega), h.err.grown hg (by omega)⟩
theorem WS.laid {w W : World} {x y z : Value} {e : Int} (h : WS w W x y z e) (a b c : Value) : WS w (laidW w W a b c) a b c e :=
  ⟨laid_below h.below a b c, laid_blk h.box a b c, ((h.err.far (by omega) 0 a).far (by omega) 1 b).far (by omega) 2 c⟩
theorem WS.caught {w W : World} {x y z : Value} {e : Int} (h : WS w W x y z e) (k : Int) : WS w (caught W w.heap.size (w.heap.size + 1) k) (.int .i64 0) (.slice none 0 0) (.slice none 0 0) k :=
  ⟨(h.laid _ _ _).below.setCell (by show w.heap.size ≤ w.heap.size + 1; omega) _, (h.laid _ _ _).box.far (by omega) _ _, (h.laid _ _ _).err.set 0 _⟩
theorem WS.set {w W : World} {x y z : Value} {e : Int} (h : WS w W x y z e) (k : Int) : WS w (W.setCell ⟨w.heap.size + 1, 0, none⟩ (.int .i64 k)) x y z k :=
  ⟨h.below.setCell (by show w.heap.size ≤ w.heap.size + 1; omega) _, h.box.far (by omega) _ _, h.err.set 0 _⟩
theorem WS.results {w W : World} {x y z : Value} {e : Int} (h : WS w W x y z e) {tmps : Array Value} (hp : tmps.getD 2 undef = .pointer (some ⟨w.heap.size, 0, none⟩)) (hq : tmps.getD 3 undef = .pointer (some ⟨w.heap.size + 1, 0, none⟩)) :
    (results Tryz.f68 tmps).run Tryz.prog W = .ok (.tuple #[.agg #[x, y, z], .int .i64 e]) W :=
  results_pair rfl tmps W w.heap.size (w.heap.size + 1) 28 #[x, y, z] (0, 0) _ e hp h.box hq (h.err.cell 0) Tryz.underlying28 rfl Tryz.sizeNode Tryz.underlying32
theorem laid_far {w W : World} {t : T} {v : Value} (h : t.InP (w.heap.size + 2 ≤ ·) W v) (a b c : Value) : t.InP (w.heap.size + 2 ≤ ·) (laidW w W a b c) v :=
  T.InP.keep (fun x _ hp => ⟨hp, by
    have hp' : w.heap.size + 2 ≤ x := hp
    have hx : x ≠ w.heap.size := by omega
    unfold laidW
    rw [heap_setCell_other _ ⟨w.heap.size, 2, none⟩ x c hx, heap_setCell_other _ ⟨w.heap.size, 1, none⟩ x b hx, heap_setCell_other _ ⟨w.heap.size, 0, none⟩ x a hx]⟩) (by simp [laidW]) _ h
theorem set_far {w W : World} {t : T} {v : Value} (h : t.InP (w.heap.size + 2 ≤ ·) W v) (a : Value) : t.InP (w.heap.size ≤ ·) (W.setCell ⟨w.heap.size + 1, 0, none⟩ a) v :=
  T.InP.keep (fun x _ hp => ⟨by have hp' : w.heap.size + 2 ≤ x := hp; show w.heap.size ≤ x; omega, by
    have hp' : w.heap.size + 2 ≤ x := hp
    exact heap_setCell_other _ ⟨w.heap.size + 1, 0, none⟩ x a (by show x ≠ w.heap.size + 1; omega)⟩) (by simp) _ h
set_option maxHeartbeats 2000000 in
theorem whole_any (a : Option Addr) (n ca : Nat) (zs : List Int) (w : World) (hr : Row w a n zs) (hnc : n ≤ ca) (hn : n ≤ 30000) (hnil : a = none → ca = 0) : Calls Tryz.prog 68 #[.slice a n ca] w (GivesRead (wholeZ zs) w) := by
  have hmf : ∀ (fn : Fn) (first cap : Array Value) (w : World), (Instr.makeFunc fn first cap).run Tryz.prog w = .ok (.func fn first cap) w := fun _ _ _ _ => rfl
  have hlen := hr.1
  subst hlen
  have S0 := Lib.hid (WS.start w a zs.length ca)
  have CI : Hid (Calls Tryz.prog 106 #[.pointer (some ⟨w.heap.size + 1 + 1, 0, none⟩)] (wholeW w a zs.length ca) (GivesEl (w.heap.size + 1 + 1) 0 w.heap.size zs (wholeW w a zs.length ca))) := by
    refine telem_any (zs.length + 1) (w.heap.size + 1 + 1) 0 w.heap.size zs _ (by omega) (by omega) hn ⟨a, ca, ?_, hr.below (wholeW_below w a zs.length ca), hnc, fun h0 => ?_, by omega, hnil⟩
    · have h := Blk.new ((w.alloc (.cells #[.int .i64 0, .slice none 0 0, .slice none 0 0] 28)).alloc (.cells #[.int .i64 0] 32)) 112 #[.slice a zs.length ca, .int .i64 0]
      rw [show ((w.alloc (.cells #[.int .i64 0, .slice none 0 0, .slice none 0 0] 28)).alloc (.cells #[.int .i64 0] 32)).heap.size = w.heap.size + 1 + 1 by simp] at h
      exact h
    · obtain ⟨b, off, e, hb, _⟩ := hr.2.2 h0
      exact ⟨b, off, e, hb⟩
  have SZ : Hid (w.heap.size + 1 + 1 < (wholeW w a zs.length ca).heap.size) := by simp [wholeW, Hid]
  unfold wholeW at CI S0 SZ
  clear hr hnil
  go_enter_defers Tryz.func68, Tryz.ntmps68
  go_wp2_with fail
  refine CI.out.mono ?_
  rintro e w3 ⟨hg3, hways⟩
  have S3 := Lib.hid (S0.out.go hg3 (by omega))
  have Z3 : Hid (w.heap.size + 1 + 1 < w3.heap.size) := Nat.lt_of_lt_of_le SZ.out hg3.size
  clear CI hg3 SZ
  rcases hways with ⟨z, hz, rfl⟩ | ⟨t, r, v, ht, rfl, hin, hrest⟩
  · have zr := elemC_err hz
    have F : Hid (wholeZ zs = .error z) := by rw [wholeZ, hz]; exact Lib.hid rfl
    have nz : norm 0 z = z := by simp [norm]
    rw [nz]
    refine leaves_cons (f := 105) (args := #[.pointer (some ⟨w.heap.size, 0, none⟩), .pointer (some ⟨w.heap.size + 1, 0, none⟩)]) (by simp) (by simp [go_sem]) ?_
    refine (catch_panicking w.heap.size (w.heap.size + 1) z 0 _ _ _ _ S3.out.box S3.out.err (by omega)).mono ?_
    rintro e u' w5 ⟨rfl, rfl, rfl⟩
    exact ⟨_, (S3.out.caught z).results rfl rfl, (S3.out.caught z).below, .inl ⟨z, F.out, rfl⟩⟩
  · obtain ⟨A', n', c', K', m', d', rfl⟩ := hin.form
    obtain ⟨A9, c9, hblk, _⟩ := hrest
    have c0 := hblk.cell 0
    simp only [List.getElem?_toArray, List.getElem?_cons_zero] at c0
    obtain ⟨p0, p1, p2, f0, f1, f2⟩ := S3.out.box.facts
    have q0 := S3.out.err.cell 0
    have g0 := S3.out.err.free 0
    simp only [List.getElem?_toArray, List.getElem?_cons_zero] at q0
    have I3 : Hid (t.InP (w.heap.size + 2 ≤ ·) w3 (.agg #[.int .i64 t.tag, .slice A' n' c', .slice K' m' d'])) := T.InP.keep (fun x _ hp => ⟨by have hp' := hp; simp at hp'; show w.heap.size + 2 ≤ x; omega, rfl⟩) (Nat.le_refl _) _ hin
    have S4 := Lib.hid (S3.out.laid (.int .i64 t.tag) (.slice A' n' c') (.slice K' m' d'))
    clear hblk hin S0
    by_cases h0 : r = []
    · have F : Hid (wholeZ zs = .ok t) := by rw [wholeZ, ht]; exact if_pos h0
      subst h0
      simp only [List.length_nil] at c0
      clear ht
      go_wp2_with fail
      have S5 := Lib.hid ((S4.out.laid (.int .i64 t.tag) (.slice A' n' c') (.slice K' m' d')).set 0)
      have I5 := Lib.hid (set_far (laid_far (laid_far I3.out (.int .i64 t.tag) (.slice A' n' c') (.slice K' m' d')) (.int .i64 t.tag) (.slice A' n' c') (.slice K' m' d')) (.int .i64 0))
      refine leaves_cons (f := 105) (args := #[.pointer (some ⟨w.heap.size, 0, none⟩), .pointer (some ⟨w.heap.size + 1, 0, none⟩)]) (by simp) (by simp [go_sem]) ?_
      refine (catch_idle w.heap.size (w.heap.size + 1) _).mono ?_
      rintro e u' w5 ⟨rfl, rfl, rfl⟩
      exact ⟨_, S5.out.results rfl rfl, S5.out.below, .inr ⟨t, _, F.out, rfl, I5.out⟩⟩
    · have F : Hid (wholeZ zs = .error 2) := by rw [wholeZ, ht]; exact if_neg h0
      have t0 : ((r.length : Int) != 0) = true := by simpa using h0
      clear ht h0
      go_wp2_with fail
      refine leaves_cons (f := 105) (args := #[.pointer (some ⟨w.heap.size, 0, none⟩), .pointer (some ⟨w.heap.size + 1, 0, none⟩)]) (by simp) (by simp [go_sem]) ?_
      refine (catch_panicking w.heap.size (w.heap.size + 1) 2 0 _ _ _ _ S4.out.box S4.out.err (by omega)).mono ?_
      rintro e u' w5 ⟨rfl, rfl, rfl⟩
      exact ⟨_, (S4.out.caught 2).results rfl rfl, (S4.out.caught 2).below, .inl ⟨2, F.out, rfl⟩⟩
set_option maxHeartbeats 1000000 in
theorem tread_any (a : Option Addr) (n ca : Nat) (zs : List Int) (w : World) (hr : Row w a n zs) (hnc : n ≤ ca) (hn : n ≤ 30000) (hnil : a = none → ca = 0) : Calls Tryz.prog 36 #[.slice a n ca] w (GivesRead (readZ zs) w) := by
  have hlen := hr.1
  have B0 : Hid (Below w.heap.size w (w.alloc (.cells #[.int .i64 0, .slice none 0 0, .slice none 0 0] 28))) := (Below.refl _ _).alloc (Nat.le_refl _) _
  have K0 := Lib.hid (Blk.new w 28 #[.int .i64 0, .slice none 0 0, .slice none 0 0])
  by_cases h5 : 20000 < n
  · have F := Lib.hid (read_large (l := zs) (by omega))
    clear hlen
    go_enter Tryz.func36, Tryz.ntmps36
    go_wp2_with fail
    exact bodyPost_ret (results_node rfl _ _ w.heap.size 28 #[.int .i64 0, .slice none 0 0, .slice none 0 0] (0, 0) _ rfl K0.out Tryz.underlying28 rfl Tryz.sizeNode) rfl ⟨B0.out, .inl ⟨5, F.out, rfl⟩⟩
  have F : Hid (readZ zs = wholeZ zs) := readZ_whole (by rw [hlen]; exact h5)
  rw [F.out]
  have CI := Lib.hid (whole_any a n ca zs _ (hr.below B0.out) hnc hn hnil)
  clear hlen F hr
  go_enter Tryz.func36, Tryz.ntmps36
  go_wp2_with fail
  refine CI.out.mono ?_
  rintro e w2 ⟨hb2, hways⟩
  have B2 := Lib.hid (Below.step B0.out hb2)
  have K2 := Lib.hid (K0.out.below hb2 (by simp))
  obtain ⟨p0, p1, p2, f0, f1, f2⟩ := K2.out.facts
  clear hb2 CI
  rcases hways with ⟨z, hz, rfl⟩ | ⟨t, v, ht, rfl, hin⟩
  · go_wp2_with fail
    exact bodyPost_ret (results_node rfl _ _ w.heap.size 28 #[.int .i64 0, .slice none 0 0, .slice none 0 0] (0, 0) _ rfl (laid_blk K2.out _ _ _) Tryz.underlying28 rfl Tryz.sizeNode) rfl ⟨laid_below B2.out _ _ _, .inl ⟨z, hz, rfl⟩⟩
  · obtain ⟨A', n', c', K', m', d', rfl⟩ := hin.form
    have I2 : Hid (t.InP (w.heap.size + 1 ≤ ·) w2 (.agg #[.int .i64 t.tag, .slice A' n' c', .slice K' m' d'])) := T.InP.keep (fun x _ hp => ⟨by have hp' := hp; simp at hp'; show w.heap.size + 1 ≤ x; omega, rfl⟩) (Nat.le_refl _) _ hin
    clear hin
    go_wp2_with fail
    exact bodyPost_ret (results_node rfl _ _ w.heap.size 28 #[.int .i64 t.tag, .slice A' n' c', .slice K' m' d'] (0, 0) _ rfl (laid_blk K2.out _ _ _) Tryz.underlying28 rfl Tryz.sizeNode) rfl ⟨laid_below B2.out _ _ _, .inr ⟨t, _, ht, rfl, laid_in I2.out _ _ _⟩⟩
end Go.Proofs.YtgmefdmeeihgoaaGreatDoor
namespace Go.Proofs.YtgmefdmeeihgoaaGreatDoor
open Go.RowKit
set_option linter.unusedVariables false
set_option linter.unusedSimpArgs false
def KidsP (P : Nat → Prop) (w : World) (K : Option Addr) (m d : Nat) (ks : List T) : Prop :=
  ks.length = m ∧ (m ≤ maxLen ∧ m ≤ d) ∧ (0 < m → ∃ b off, K = some ⟨b, off, none⟩ ∧ b < w.heap.size ∧ P b ∧ T.InPAll P w ks b off)
theorem KidsP.node {P : Nat → Prop} {w : World} {K : Option Addr} {m d : Nat} {ks : List T} (h : KidsP P w K m d ks) {z : Int} (hz : (Lit.int .i64 z).wf = true) : (T.node z [] ks).InP P w (.agg #[.int .i64 z, .slice none 0 0, .slice K m d]) := by
  obtain ⟨h1, h2, h3⟩ := h
  unfold T.InP
  exact ⟨none, 0, 0, K, m, d, rfl, hz, Row.nil _ _, Nat.zero_le _, fun _ => rfl, h1, ⟨h2.1, Nat.le_refl _, h2.2⟩, fun h => absurd h (by omega), h3⟩
set_option maxHeartbeats 400000 in
theorem demand_yes (w : World) : Calls Tryz.prog 60 #[.bool true] w fun e w' => e = .returned (.tuple #[]) ∧ w' = w := by
  go_enter Tryz.func60, Tryz.ntmps60
  go_wp2_with fail
  exact bodyPost_end (results_none rfl _ _ _) rfl ⟨rfl, rfl⟩
set_option maxHeartbeats 400000 in
theorem demand_no (w : World) : Calls Tryz.prog 60 #[.bool false] w fun e w' => e = .panicked (errP 2) ∧ w' = w := by
  go_enter Tryz.func60, Tryz.ntmps60
  go_wp2_with fail
  exact ⟨rfl, rfl, rfl⟩
theorem demand_any (b : Bool) (w : World) : Calls Tryz.prog 60 #[.bool b] w fun e w' => w' = w ∧ ((b = true ∧ e = .returned (.tuple #[])) ∨ (b = false ∧ e = .panicked (errP 2))) := by
  cases b
  · exact (demand_no w).mono (fun e w' h => ⟨h.2, .inr ⟨rfl, h.1⟩⟩)
  · exact (demand_yes w).mono (fun e w' h => ⟨h.2, .inl ⟨rfl, h.1⟩⟩)
set_option maxHeartbeats 400000 in
theorem must_bytes (A : Option Addr) (n c : Nat) (w : World) : Calls Tryz.prog 56 #[.slice A n c, .int .i64 0] w fun e w' => e = .returned (.slice A n c) ∧ w' = w := by
  go_enter Tryz.func56, Tryz.ntmps56
  go_wp2_with fail
  refine (demand_yes _).mono ?_
  rintro e w2 ⟨rfl, rfl⟩
  go_wp2_with fail
  go_ret
  exact ⟨rfl, rfl⟩
set_option maxHeartbeats 400000 in
theorem must_bytes_no (A : Option Addr) (n c : Nat) (z : Int) (h : ¬ z = 0) (w : World) : Calls Tryz.prog 56 #[.slice A n c, .int .i64 z] w fun e w' => e = .panicked (errP 2) ∧ w' = w := by
  have F : Hid ((z == 0) = false) := by simpa [Hid] using h
  clear h
  go_enter Tryz.func56, Tryz.ntmps56
  go_wp2_with fail
  rw [F.out]
  refine (demand_no _).mono ?_
  rintro e w2 ⟨rfl, rfl⟩
  exact ⟨rfl, rfl, rfl⟩
theorem Tryz.resNode : (Tryz.prog.info? 28).map (·.size) = some 3 := by kernel_rfl
set_option maxHeartbeats 400000 in
theorem sequence_any (K : Option Addr) (m d : Nat) (w : World) : Calls Tryz.prog 19 #[.slice K m d] w fun e w' => e = .returned (.agg #[.int .i64 48, .slice none 0 0, .slice K m d]) ∧ Below w.heap.size w w' := by
  have G := Lib.hid (Blk.new w 28 #[.int .i64 48, .slice none 0 0, .slice K m d])
  have B := Lib.hid ((Below.refl w.heap.size w).alloc (Nat.le_refl _) (.cells #[.int .i64 48, .slice none 0 0, .slice K m d] 28))
  go_enter Tryz.func19, Tryz.ntmps19
  go_wp2_with fail
  exact bodyPost_ret (results_cell_row rfl _ _ w.heap.size 28 #[.int .i64 48, .slice none 0 0, .slice K m d] (0, 0) _ rfl G.out Tryz.underlying28 rfl Tryz.resNode) rfl ⟨rfl, B.out⟩
end Go.Proofs.YtgmefdmeeihgoaaGreatDoor
namespace Go.Proofs.YtgmefdmeeihgoaaGreatDoor
open Go.RowKit
set_option linter.unusedVariables false
set_option linter.unusedSimpArgs false
theorem arcs_range (last : Int) (h0 : 0 ≤ last) (h1 : last ≤ 1000) : ∀ x ∈ arcsK last, 0 ≤ x ∧ x ≤ 4294967295 := by
  intro x hx
  unfold arcsK at hx
  simp only [List.mem_cons, List.mem_nil_iff, or_false] at hx
  omega
theorem kids_two {P : Nat → Prop} {W : World} {g : Nat} {ty : TypeId} {t0 t1 : T} {a0 a1 a2 b0 b1 b2 : Value} (hb : Blk W g ty #[a0, a1, a2, b0, b1, b2]) (hg : P g) (h0 : t0.InP P W (.agg #[a0, a1, a2])) (h1 : t1.InP P W (.agg #[b0, b1, b2])) : KidsP P W (some ⟨g, 0, none⟩) 2 2 [t0, t1] := by
  refine ⟨rfl, ⟨by unfold maxLen; omega, Nat.le_refl _⟩, fun _ => ⟨g, 0, rfl, hb.lt, hg, ?_⟩⟩
  unfold T.InPAll T.InPAll T.InPAll
  exact ⟨⟨a0, a1, a2, hb.cell 0, hb.cell 1, hb.cell 2, h0⟩, ⟨b0, b1, b2, hb.cell 3, hb.cell 4, hb.cell 5, h1⟩, trivial⟩
theorem kids_three {P : Nat → Prop} {W : World} {g : Nat} {ty : TypeId} {t0 t1 t2 : T} {a0 a1 a2 b0 b1 b2 c0 c1 c2 : Value} (hb : Blk W g ty #[a0, a1, a2, b0, b1, b2, c0, c1, c2]) (hg : P g) (h0 : t0.InP P W (.agg #[a0, a1, a2])) (h1 : t1.InP P W (.agg #[b0, b1, b2])) (h2 : t2.InP P W (.agg #[c0, c1, c2])) : KidsP P W (some ⟨g, 0, none⟩) 3 3 [t0, t1, t2] := by
  refine ⟨rfl, ⟨by unfold maxLen; omega, Nat.le_refl _⟩, fun _ => ⟨g, 0, rfl, hb.lt, hg, ?_⟩⟩
  unfold T.InPAll T.InPAll T.InPAll T.InPAll
  exact ⟨⟨a0, a1, a2, hb.cell 0, hb.cell 1, hb.cell 2, h0⟩, ⟨b0, b1, b2, hb.cell 3, hb.cell 4, hb.cell 5, h1⟩, ⟨c0, c1, c2, hb.cell 6, hb.cell 7, hb.cell 8, h2⟩, trivial⟩
theorem KidsP.below {P Q : Nat → Prop} {w w' : World} {K : Option Addr} {m d : Nat} {ks : List T} (h : KidsP P w K m d ks) (hb : Below w.heap.size w w') (hq : ∀ b, P b → Q b) : KidsP Q w' K m d ks := by
  obtain ⟨h1, h2, h3⟩ := h
  refine ⟨h1, h2, fun h0 => ?_⟩
  obtain ⟨b, off, e, hlt, hp, hall⟩ := h3 h0
  refine ⟨b, off, e, Nat.lt_of_lt_of_le hlt hb.size, hq b hp, T.InPAll.of fun i hi => ?_⟩
  obtain ⟨v0, v1, v2, c0, c1, c2, hin⟩ := hall.at i hi
  exact ⟨v0, v1, v2, (hb.cell (p := ⟨b, off + i * 3, none⟩) hlt).trans c0, (hb.cell (p := ⟨b, off + i * 3 + 1, none⟩) hlt).trans c1, (hb.cell (p := ⟨b, off + i * 3 + 2, none⟩) hlt).trans c2, T.InP.below hb hq _ hin⟩
theorem null_inP (P : Nat → Prop) (w : World) : (T.node 5 [] []).InP P w (.agg #[.int .i64 5, .slice none 0 0, .slice none 0 0]) :=
  leaf_inP rfl (Row.nil _ _) (by simp) ⟨fun _ => rfl, Nat.le_refl _⟩ (fun h => absurd h (by simp))
theorem gives_seq {w W : World} {tmps : Array Value} {fn : Func} {p : Tmp} {ks : List T} {K : Option Addr} {m d : Nat} (hf : fn.results = #[.cell p 28]) (hp : tmps.getD p undef = .pointer (some ⟨w.heap.size, 0, none⟩)) (hrb : RB w W) (hk : KidsP (w.heap.size < ·) W K m d ks) :
    bodyPost Tryz.prog fn (GivesNode (.node 48 [] ks) w) .ret { tmps := tmps, defers := [] } (boxed w W (.int .i64 48) (.slice none 0 0) (.slice K m d)) := by
  obtain ⟨h1, h2⟩ := hrb.boxed (.int .i64 48) (.slice none 0 0) (.slice K m d)
  exact bodyPost_ret (results_cell_row hf _ _ w.heap.size 28 #[.int .i64 48, .slice none 0 0, .slice K m d] (0, 0) _ hp h1 Tryz.underlying28 rfl Tryz.sizeNode3) rfl ⟨none, 0, 0, K, m, d, rfl, T.InP.keep (fun x _ hp => ⟨by have hp' : w.heap.size < x := hp; show w.heap.size ≤ x; omega, by
    have hp' : w.heap.size < x := hp
    have hx : x ≠ w.heap.size := by omega
    unfold boxed
    rw [heap_setCell_other _ ⟨w.heap.size, 2, none⟩ x _ hx, heap_setCell_other _ ⟨w.heap.size, 1, none⟩ x _ hx, heap_setCell_other _ ⟨w.heap.size, 0, none⟩ x _ hx]⟩) (by simp [boxed]) _ (hk.node (by decide)), h2⟩
set_option maxHeartbeats 1000000 in
theorem algorithm_any (last : Int) (h0 : 0 ≤ last) (h1 : last ≤ 1000) (w : World) : Calls Tryz.prog 20 #[.int .u32 last] w (GivesNode (algT last) w) := by
  have S0 := Lib.hid (RB.start w)
  have R1 := row32_const (w.alloc (.cells #[.int .i64 0, .slice none 0 0, .slice none 0 0] 28)) (arcsK last) (arcs_range last h0 h1)
  have CO := oid_any _ _ 7 _ _ R1 (by simp [arcsK])
  rw [oid_is] at CO
  have S1 := Lib.hid (S0.out.go ((Below.refl _ _).alloc (Nat.le_refl _) (.cells ((arcsK last).map (Value.int .u32)).toArray 23)))
  unfold arcsK at CO S1
  simp only [World.size_alloc, List.length_cons, List.length_nil, List.map_cons, List.map_nil] at CO S1
  have CI := Lib.hid CO
  clear R1 CO
  go_enter Tryz.func20, Tryz.ntmps20
  go_wp2_with fail
  refine CI.out.mono ?_
  rintro e w3 ⟨A, n, c, K, m, d, rfl, hin, hb⟩
  have S3 := Lib.hid (S1.out.go hb)
  have I3 : Hid ((oidT last).InP (w.heap.size < ·) w3 (.agg #[.int .i64 6, .slice A n c, .slice K m d])) := T.InP.keep (fun x _ hp => ⟨by have hp' := hp; simp at hp'; show w.heap.size < x; omega, rfl⟩) (Nat.le_refl _) _ hin
  clear CI S1 S0 hin hb
  have B4 : Below w3.heap.size w3 ((w3.alloc (.cells #[.int .i64 (oidT last).tag, .slice A n c, .slice K m d] 28)).alloc (.cells #[.int .i64 (oidT last).tag, .slice A n c, .slice K m d, .int .i64 5, .slice none 0 0, .slice none 0 0] 28)) := ((Below.refl _ _).alloc (Nat.le_refl _) _).alloc (by simp) _
  have S4 := Lib.hid (S3.out.go B4)
  have K4 : Hid (KidsP (w.heap.size < ·) ((w3.alloc (.cells #[.int .i64 (oidT last).tag, .slice A n c, .slice K m d] 28)).alloc (.cells #[.int .i64 (oidT last).tag, .slice A n c, .slice K m d, .int .i64 5, .slice none 0 0, .slice none 0 0] 28)) (some ⟨w3.heap.size + 1, 0, none⟩) 2 2 [oidT last, .node 5 [] []]) := by
    have hb := Blk.new (w3.alloc (.cells #[.int .i64 (oidT last).tag, .slice A n c, .slice K m d] 28)) 28 #[.int .i64 (oidT last).tag, .slice A n c, .slice K m d, .int .i64 5, .slice none 0 0, .slice none 0 0]
    rw [show (w3.alloc (.cells #[.int .i64 (oidT last).tag, .slice A n c, .slice K m d] 28)).heap.size = w3.heap.size + 1 by simp] at hb
    exact kids_two hb (by have := S3.out.below.size; have := S3.out.box.lt; show w.heap.size < w3.heap.size + 1; omega) (T.InP.below B4 (fun _ h => h) _ I3.out) (null_inP _ _)
  clear B4 S3 I3
  go_wp2_with fail
  generalize (w3.alloc (.cells #[.int .i64 (oidT last).tag, .slice A n c, .slice K m d] 28)).alloc (.cells #[.int .i64 (oidT last).tag, .slice A n c, .slice K m d, .int .i64 5, .slice none 0 0, .slice none 0 0] 28) = w4 at *
  refine (sequence_any _ 2 2 w4).mono ?_
  rintro e w5 ⟨rfl, hb5⟩
  have S5 := Lib.hid (S4.out.go hb5)
  have K5 := Lib.hid (K4.out.below hb5 (fun _ h => h))
  obtain ⟨c0, c1, c2, f0, f1, f2⟩ := S5.out.box.facts
  clear hb5 S4 K4
  go_wp2_with fail
  exact gives_seq rfl rfl S5.out K5.out
set_option maxHeartbeats 1000000 in
theorem allBits_any (a : Option Addr) (n ca : Nat) (zs : List Int) (w : World) (hr : Row w a n zs) (hn : n ≤ 100000) (hnil : a = none → ca = 0) : Calls Tryz.prog 21 #[.slice a n ca] w (GivesNode (bitsT zs) w) := by
  have S0 := Lib.hid (RB.start w)
  have hlen := hr.1
  have CO := bits_any a n ca zs (8 * (n : Int)) (w.alloc (.cells #[.int .i64 0, .slice none 0 0, .slice none 0 0] 28)) (hr.below ((Below.refl _ _).alloc (Nat.le_refl _) _)) hn hnil (WalkArith.wf_i64 (by omega))
  have e : bitsZ zs (8 * (n : Int)) = (bitsT zs, 0) := by rw [← hlen]; exact bits_whole zs
  rw [e] at CO
  have CI := Lib.hid CO
  clear CO e hr hlen hnil
  go_enter Tryz.func21, Tryz.ntmps21
  go_wp2_with fail
  refine CI.out.mono ?_
  rintro e w3 ⟨A, n3, c3, K, m, d, rfl, hin, hb⟩
  have S3 := Lib.hid ((S0.out.go hb).go ((Below.refl _ _).alloc (Nat.le_refl _) (.cells #[.int .i64 (bitsT zs).tag, .slice A n3 c3, .slice K m d] 28)))
  have I3 := Lib.hid (T.InP.below ((Below.refl w3.heap.size w3).alloc (Nat.le_refl _) (.cells #[.int .i64 (bitsT zs).tag, .slice A n3 c3, .slice K m d] 28)) (fun _ h => h) _ hin)
  obtain ⟨c0, c1, c2, f0, f1, f2⟩ := S3.out.box.facts
  clear CI S0 hin hb
  go_wp2_with fail
  exact gives_copy (W0 := w.alloc (.cells #[.int .i64 0, .slice none 0 0, .slice none 0 0] 28)) rfl rfl S3.out I3.out (by simp)
end Go.Proofs.YtgmefdmeeihgoaaGreatDoor
namespace Go.Proofs.YtgmefdmeeihgoaaGreatDoor
open Go.RowKit
set_option linter.unusedVariables false
theorem bits_kids (zs : List Int) (many : Int) : (bitsZ zs many).1.kids = [] := by
  unfold bitsZ
  split
  · split <;> rfl
  · rfl
def ExtB (B : Nat) (a b : World) : Prop := Below B a b
theorem ExtB.refl (B : Nat) (w : World) : ExtB B w w := Below.refl _ _
theorem ExtB.trans {B : Nat} (a b c : World) (h : ExtB B a b) (k : ExtB B b c) : ExtB B a c := Below.trans h k
theorem ExtB.both {B : Nat} {a b : World} (h : Below B a b) : ExtB B a.drew b.drew := ⟨h.os, h.tape, h.output, h.size, h.block⟩
theorem alloc_both (w : World) (o o' : Obj) : Below w.heap.size (w.alloc o) (w.alloc o') := ⟨rfl, rfl, rfl, by simp, fun g hg => (Below.heap_alloc w o' g hg).trans (Below.heap_alloc w o g hg).symm⟩
theorem cell_laterB {wr : World} {b o : Nat} {v : Value} (h : wr.cell? ⟨b, o, none⟩ = some v) : ∀ W, ExtB wr.heap.size wr.drew W → W.cell? ⟨b, o, none⟩ = some v := by
  intro W hW
  have hb : b < wr.heap.size := by
    rcases Nat.lt_or_ge b wr.heap.size with h' | h'
    · exact h'
    · simp [World.cell?, Array.getElem?_eq_none h'] at h
  exact (Below.cell hW (p := ⟨b, o, none⟩) hb).trans h
theorem of1_any (a : Option Addr) (n ca : Nat) (zs : List Int) (many : Int) (p : Addr) (w : World) (hr : Row w a n zs) (hn : n ≤ 100000) (hnil : a = none → ca = 0) (hwf : (Lit.int .i64 many).wf = true) (hp : w.cell? p = some (.int .i64 many)) (hpl : p.block < w.heap.size) : Calls Tryz.prog 118 #[.slice a n ca, .pointer (some p)] w (GivesNodeE (bitsZ zs many) w) := by
  have S0 := Lib.hid (RB.start w)
  have CI := Lib.hid (bits_any a n ca zs many _ (hr.below S0.out.below) hn hnil hwf)
  have hp1 := (S0.out.below.cell (p := p) hpl).trans hp
  clear hr hnil hwf hp
  generalize bitsZ zs many = X at *
  go_enter Tryz.func118, Tryz.ntmps118
  go_wp2_with fail
  refine CI.out.mono ?_
  rintro e w3 ⟨A, n3, c3, K, m3, d3, rfl, hin, hb3⟩
  have S3 := Lib.hid (S0.out.go hb3)
  have IN := Lib.hid hin
  have W2 := Lib.hid (S0.out.box.lt)
  obtain ⟨p0, p1, p2, f0, f1, f2⟩ := S3.out.box.six
  clear hin hb3 CI hp1
  go_wp2_with fail
  exact gives_copye (x := X) rfl rfl rfl rfl S3.out IN.out W2.out
theorem of_is (t : T) (hby : ∀ x ∈ t.body, 0 ≤ x ∧ x ≤ 255) : ofZ t = if t.body = [] then ([], 0, 2) else if okE (bitsZ (t.body.drop 1) (8 * ((t.body.drop 1).length : Int) - t.body[(0 : Nat)]?.getD 0)) t = true then (t.body.drop 1, 8 * ((t.body.drop 1).length : Int) - t.body[(0 : Nat)]?.getD 0, 0) else ([], 0, 2) := by
  by_cases h0 : t.body = []
  · rw [if_pos h0]
    exact if_pos (.inl h0)
  rw [if_neg h0]
  have x0 : 0 ≤ t.body[(0 : Nat)]?.getD 0 := by
    rw [List.getElem?_eq_getElem (List.length_pos_iff.2 h0)]
    exact (hby _ (List.getElem_mem _)).1
  unfold ofZ
  by_cases h7 : 7 < t.body[(0 : Nat)]?.getD 0
  · rw [if_pos (.inr h7), if_neg]
    intro h
    have h2 := ((ok_iff _ _).1 h).1
    unfold bitsZ at h2
    have hn : ¬ FitBits (t.body.drop 1) (8 * ((t.body.drop 1).length : Int) - t.body[(0 : Nat)]?.getD 0) := by unfold FitBits; omega
    rw [if_neg hn] at h2
    cases h2
  · rw [if_neg (by rintro (h | h); exact h0 h; exact h7 h)]
    have hk : ∀ (X : T × Int), (okE X t = true) ↔ (X.2 = 0 ∧ sameT X.1 t = true) := fun X => by unfold okE; rw [decide_eq_true_iff]
    generalize bitsZ (t.body.drop 1) (8 * ((t.body.drop 1).length : Int) - t.body[(0 : Nat)]?.getD 0) = X
    by_cases h : okE X t = true
    · rw [if_pos h, if_pos ((hk X).1 h)]
    · rw [if_neg h, if_neg (fun k => h ((hk X).2 k))]
set_option maxHeartbeats 4000000 in
set_option maxRecDepth 100000 in
theorem of_any (t : T) (v : Value) (w : World) (hin : t.In w v) (hcap : Capped v) (hwt : t.body.length ≤ 30000) : Calls Tryz.prog 89 #[v] w (GivesOf (ofZ t) w) := by
  obtain ⟨A, n, c, K, m, d, rfl, hw, hr, hn, hc, hm, hm', hks⟩ := hin.open
  have hnc := hcap.is
  have BX := Lib.hid (Box.start hin)
  have GZ := Lib.hid (of_is t hr.2.1)
  have HL := Lib.hid hr.1
  have R0 := Lib.hid (hr.below BX.out.below)
  have HB := Lib.hid hr.2.1
  obtain ⟨g0, g1, g2⟩ := BX.out.cells
  have hln := hr.1
  clear hks hin hcap hm hm' hw hn hr
  go_enter Tryz.func89, Tryz.ntmps89
  generalize hw2 : w.alloc (.cells #[.int .i64 t.tag, .slice A n c, .slice K m d] 28) = w2 at *
  by_cases hn0 : n = 0
  · have F : Hid (ofZ t = ([], 0, 2)) := by rw [GZ.out]; exact if_pos (List.eq_nil_of_length_eq_zero (by omega))
    subst hn0
    go_wp2_with fail
    go_ret3
    exact gives_of_no F.out BX.out.below
  have GX : Hid (ofZ t = if okE (bitsZ (t.body.drop 1) (8 * ((t.body.drop 1).length : Int) - t.body[(0 : Nat)]?.getD 0)) t = true then (t.body.drop 1, 8 * ((t.body.drop 1).length : Int) - t.body[(0 : Nat)]?.getD 0, 0) else ([], 0, 2)) := by
    rw [GZ.out]
    exact if_neg (fun h => hn0 (by rw [← hln, h]; rfl))
  obtain ⟨b, off, rfl, hbl, hcell⟩ := R0.out.2.2 (by omega)
  have c0 := hcell 0 (by omega)
  rw [Nat.add_zero] at c0
  have z0 := R0.out.byte 0
  have hlt2 : w.heap.size < w2.heap.size := BX.out.blk.lt
  have RW := R0.out.rest 1 c (by omega) hnc
  have hrl : (t.body.drop 1).length = n - 1 := by rw [List.length_drop]; omega
  have BY := Lib.hid (fun y (hy : y ∈ t.body.drop 1) => HB.out y (List.mem_of_mem_drop hy))
  clear hcell GZ HB
  generalize t.body[(0 : Nat)]?.getD 0 = x at *
  generalize t.body.drop 1 = r at *
  obtain ⟨k, rfl⟩ : ∃ k, n = k + 1 := ⟨n - 1, by omega⟩
  have hrk : r.length = k := by omega
  clear hn0 hrl hln
  subst hrk
  have hrb : r.length ≤ 30000 := by have := HL.out; omega
  have KX := Lib.hid (bits_kids r (8 * (r.length : Int) - x))
  have t0 : ((r.length : Int) + 1 == 0) = false := by simp; omega
  have w1 : IntKind.i64.wrap (r.length : Int) = (r.length : Int) := IntWalk.i64_in _ (by omega)
  have w8 : IntKind.i64.wrap (8 * (r.length : Int)) = 8 * (r.length : Int) := IntWalk.i64_in _ (by omega)
  have wx : IntKind.i64.wrap x = x := IntWalk.i64_in _ (by omega)
  have wm : IntKind.i64.wrap (8 * (r.length : Int) - x) = 8 * (r.length : Int) - x := IntWalk.i64_in _ (by omega)
  have WF := Lib.hid (wf_wrap .i64 (8 * (r.length : Int) - x))
  rw [wm] at WF
  have kk : 0 < r.length + 1 := by omega
  have kz : (1 : Int) ≤ (r.length : Int) + 1 := by omega
  obtain ⟨A1, hA1⟩ : ∃ A1 : Option Addr, (if c = 1 then some (⟨b, off, none⟩ : Addr) else some ⟨b, off + 1, none⟩) = A1 := ⟨_, rfl⟩
  rw [Option.map_some, Addr.add_lit, hA1] at RW
  have N1 : Hid (A1 = none → c - 1 = 0) := Lib.hid (fun e => by rw [← hA1] at e; split at e <;> cases e)
  have R1 : Hid (Row w2 A1 r.length r) := Lib.hid (by simpa using RW)
  clear RW
  go_wp2_with fail
  clear hw2
  have m0 := cell_laterB c0
  have m1 := cell_laterB g1
  refine wp_region_ord (ExtB w2.heap.size) (ExtB.refl _) ExtB.trans ((0, false) :: (1, false) :: (2, false) :: (3, false) :: (4, false) :: (5, false) :: (6, false) :: (7, false) :: (8, false) :: (9, false) :: (10, false) :: (11, true) :: (12, true) :: []) (by kernel_rfl) (by kernel_rfl) rfl (by kernel_rfl) (fun _ _ _ _ _ h => h) ?_
  repeat (refine ord_take _ rfl (by rfl) (fun W hW => by go_simp; first | done | rfl) ?_; simp only [Act.put, List.setIfInBounds_toArray, List.set_cons_zero, List.set_cons_succ])
  clear m0 m1
  refine ord_sole rfl (by rfl) (fun K1 hK1 => ?_)
  go_simp
  refine hK1 _ _ (ExtB.both ((Below.refl _ _).alloc (Nat.le_refl _) _)) ?_
  clear hK1 K1
  refine ord_sole rfl (by rfl) (fun K1 hK1 => ?_)
  go_simp
  refine hK1 _ _ (ExtB.both (alloc_both _ _ _)) ?_
  clear hK1 K1
  refine ord_end ?_
  have E3 : Hid (Ext w2 (w2.alloc (.cells #[.int .i64 (8 * (r.length : Int) - x)] 3)).drew) := Ext.drew ((Below.refl _ _).alloc (Nat.le_refl _) _)
  have cp : (w2.alloc (.cells #[.int .i64 (8 * (r.length : Int) - x)] 3)).drew.cell? ⟨w2.heap.size, 0, none⟩ = some (.int .i64 (8 * (r.length : Int) - x)) := (Blk.new w2 3 #[.int .i64 (8 * (r.length : Int) - x)]).cell 0
  have hl3 : w2.heap.size < (w2.alloc (.cells #[.int .i64 (8 * (r.length : Int) - x)] 3)).drew.heap.size := by
    show w2.heap.size < (w2.alloc (.cells #[.int .i64 (8 * (r.length : Int) - x)] 3)).heap.size
    simp
  generalize (w2.alloc (.cells #[.int .i64 (8 * (r.length : Int) - x)] 3)).drew = w3 at *
  have B3 := Lib.hid (BX.out.go E3.out)
  have R3 := Lib.hid (R1.out.below E3.out)
  clear g0 g1 g2 BX R1 R0 E3 c0
  obtain ⟨g0, g1, g2⟩ := B3.out.cells
  go_wp2_with fail
  obtain ⟨l0, l1, l2⟩ := B3.out.laters
  have hmf : ∀ (fn : Fn) (first cap : Array Value) (w : World), (Instr.makeFunc fn first cap).run Tryz.prog w = .ok (.func fn first cap) w := fun _ _ _ _ => rfl
  refine wp_region_ord Ext Ext.refl (fun _ _ _ => Ext.trans) ((0, false) :: (1, false) :: (2, false) :: (3, false) :: (5, false) :: (4, true) :: (6, true) :: (7, false) :: (8, false) :: (9, false) :: (10, false) :: (11, false) :: []) (by kernel_rfl) (by kernel_rfl) rfl (by kernel_rfl) (fun _ _ _ _ _ h => h) ?_
  repeat (refine ord_take _ rfl (by rfl) (fun W hW => by go_simp; first | done | rfl) ?_; simp only [Act.put, List.setIfInBounds_toArray, List.set_cons_zero, List.set_cons_succ])
  clear l0 l1 l2
  refine ord_sole rfl (by rfl) (fun K1 hK1 => ?_)
  go_simp
  refine (clone_any A1 r.length (c - 1) r w3.drew R3.out (by omega) (by omega) N1.out).mono ?_
  rintro e w4 ⟨b4, c4, rfl, hr4, hn4, hc4, hb4⟩
  have E4 : Hid (Ext w3 w4) := Ext.of_drew hb4
  refine hK1 _ _ hb4 ?_
  clear hK1 K1 hb4
  have B4 := Lib.hid (B3.out.go E4.out)
  have R4 := Lib.hid hr4
  have N4 := Lib.hid hn4
  have cp4 := (E4.out.cell (p := ⟨w2.heap.size, 0, none⟩) hl3).trans cp
  have hl4 : w2.heap.size < w4.heap.size := Nat.lt_of_lt_of_le hl3 E4.out.size
  clear hr4 hn4 E4 cp hl3 B3 R3 g0 g1 g2
  have CX := Lib.hid (exact_of t _ w4 (bitsZ r (8 * (r.length : Int) - x)) b4 r.length c4 ⟨w2.heap.size, 0, none⟩ KX.out B4.out.has (fun W hW => (of1_any b4 _ c4 r _ _ W (R4.out.below hW) (by omega) N4.out WF.out ((hW.cell (p := ⟨w2.heap.size, 0, none⟩) hl4).trans cp4) (Nat.lt_of_lt_of_le hl4 hW.size)).mono fun e w' h => h.has))
  refine ord_sole rfl (by rfl) (fun K1 hK1 => ?_)
  go_simp
  refine CX.out.mono ?_
  intro e w5 h5
  clear CX
  rcases h5.ways with ⟨hok, rfl, hb5⟩ | ⟨hok, rfl, hb5⟩
  · have F : Hid (ofZ t = (r, 8 * (r.length : Int) - x, 0)) := by
      rw [GX.out, if_pos hok]
      exact Lib.hid rfl
    refine hK1 _ _ hb5 ?_
    have B5 := Lib.hid (B4.out.go hb5)
    have R5 := Lib.hid (R4.out.below hb5)
    have cp5 := (hb5.cell (p := ⟨w2.heap.size, 0, none⟩) hl4).trans cp4
    clear hK1 K1 hok hb5 h5 GX cp4
    repeat (refine ord_take _ rfl (by rfl) (fun W hW => by go_simp; first | done | rfl) ?_; simp only [Act.put, List.setIfInBounds_toArray, List.set_cons_zero, List.set_cons_succ])
    refine ord_end ?_
    go_wp2
    go_quiet (fail)
    go_wp2
    go_ret3
    rw [F.out]
    exact ⟨b4, c4, rfl, R5.out, N4.out, hc4, Below.step B5.out.below (drewN_below w5 _)⟩
  · have F : Hid (ofZ t = ([], 0, 2)) := by
      rw [GX.out, if_neg (by rw [hok]; simp)]
      exact Lib.hid rfl
    refine hK1 _ _ hb5 ?_
    have B5 := Lib.hid (B4.out.go hb5)
    clear hK1 K1 hok hb5 h5 GX cp4
    repeat (refine ord_take _ rfl (by rfl) (fun W hW => by go_simp; first | done | rfl) ?_; simp only [Act.put, List.setIfInBounds_toArray, List.set_cons_zero, List.set_cons_succ])
    refine ord_end ?_
    go_wp2_with fail
    go_ret3
    exact gives_of_no F.out B5.out.below
end Go.Proofs.YtgmefdmeeihgoaaGreatDoor
namespace Go.Proofs.YtgmefdmeeihgoaaGreatDoor
open Go.RowKit
def GivesWr (x : List Int × Int) (w : World) (e : Ending) (w' : World) : Prop :=
  ∃ a c, e = .returned (.tuple #[.slice a x.1.length c, .int .i64 x.2]) ∧ Row w' a x.1.length x.1 ∧ (a = none → c = 0) ∧ Below w.heap.size w w' ∧ x.1.length ≤ c
theorem gives_none' {x : List Int × Int} {w w' : World} {z : Int} (h : x = ([], z)) (hb : Below w.heap.size w w') : GivesWr x w (.returned (.tuple #[.slice none 0 0, .int .i64 z])) w' := by
  subst h
  exact ⟨none, 0, rfl, Row.nil _ _, fun _ => rfl, hb, Nat.le_refl _⟩
set_option maxHeartbeats 2000000 in
theorem twrite_big (t : T) (v : Value) (w : World) (hin : t.In w v) (hwt : wt t < 1000000) : Calls Tryz.prog 34 #[v] w (GivesWr (writeZ t) w) := by
  obtain ⟨A, n, c, K, m, d, rfl, _⟩ := hin.open
  have BX := Lib.hid (Box.start hin)
  clear hin
  cases hrt : rightT t
  · have F := Lib.hid (write_right hrt)
    have RT := Lib.hid hrt
    clear hrt
    go_enter Tryz.func34, Tryz.ntmps34
    go_wp2_with fail
    refine (tright_any t _ _ BX.out.has).mono ?_
    rintro e w2 ⟨rfl, hb2⟩
    rw [RT.out]
    have B2 := Lib.hid (Below.step BX.out.below hb2)
    clear hb2
    go_wp2_with fail
    go_ret2
    exact gives_none' F.out B2.out
  have RT := Lib.hid hrt
  have hsz := size_le t
  have key : ∃ x, x = writeZ t ∧ ((32 < deepT t ∧ x = ([], 4)) ∨ (¬ 32 < deepT t ∧ 20000 < bytesT t ∧ x = ([], 5)) ∨ (¬ 32 < deepT t ∧ ¬ 20000 < bytesT t ∧ x = (layT t, 0))) := by
    refine ⟨_, rfl, ?_⟩
    by_cases h1 : 32 < deepT t
    · exact .inl ⟨h1, write_deep hrt h1⟩
    · by_cases h2 : 20000 < bytesT t
      · exact .inr (.inl ⟨h1, h2, write_large hrt h1 h2⟩)
      · exact .inr (.inr ⟨h1, h2, write_ok hrt h1 h2⟩)
  obtain ⟨x, hx, hways⟩ := key
  rw [← hx]
  clear hx hrt
  rcases hways with ⟨h1, hx⟩ | ⟨h1, h2, hx⟩ | ⟨h1, h2, hx⟩
  all_goals
    have HX := Lib.hid hx
    clear hx
    go_enter Tryz.func34, Tryz.ntmps34
    go_wp2_with fail
    refine (tright_any t _ _ BX.out.has).mono ?_
    rintro e w2 ⟨rfl, hb2⟩
    rw [RT.out]
    have BX2 := Lib.hid (BX.out.go hb2)
    obtain ⟨g0, g1, g2⟩ := BX2.out.cells
    clear hb2
    go_wp2_with fail
    refine (tsize_big t _ _ BX2.out.has hwt).mono ?_
    rintro e w3 ⟨rfl, hb3⟩
    have BX3 := Lib.hid (BX2.out.go hb3)
    clear g0 g1 g2 hb3
    obtain ⟨g0, g1, g2⟩ := BX3.out.cells
    go_wp2_with fail
  · go_ret2
    exact gives_none' HX.out BX3.out.below
  · go_ret2
    exact gives_none' HX.out BX3.out.below
  · obtain ⟨N, hN⟩ : ∃ N : Nat, bytesT t = (N : Int) := ⟨(bytesT t).toNat, by omega⟩
    have LN := Lib.hid (lay_len t RT.out)
    have hwt : wt t < 30000 := by have := wt_le t RT.out; omega
    rw [hN] at LN h2
    rw [hN]
    have hlN : (layT t).length ≤ N := by have := LN.out; omega
    obtain ⟨B, hBe⟩ : ∃ B, B = w3.heap.size := ⟨_, rfl⟩
    have HBe := Lib.hid hBe
    have l0 : ∀ W, Past B w3.drew W → W.cell? ⟨w.heap.size, 0, none⟩ = some (.int .i64 t.tag) := fun W hW => BX3.out.blk.past (by rw [hBe]; exact BX3.out.blk.lt) hW 0 rfl
    have l1 : ∀ W, Past B w3.drew W → W.cell? ⟨w.heap.size, 1, none⟩ = some (.slice A n c) := fun W hW => BX3.out.blk.past (by rw [hBe]; exact BX3.out.blk.lt) hW 1 rfl
    have l2 : ∀ W, Past B w3.drew W → W.cell? ⟨w.heap.size, 2, none⟩ = some (.slice K m d) := fun W hW => BX3.out.blk.past (by rw [hBe]; exact BX3.out.blk.lt) hW 2 rfl
    clear g0 g1 g2 hBe hsz hN
    refine wp_region_ord (Past B) (Past.refl B) (fun _ _ _ => Past.trans) [(0, false), (2, false), (1, true), (3, true), (4, false), (5, false)] (by kernel_rfl) (by kernel_rfl) rfl (by kernel_rfl) (fun _ _ _ _ _ h => h) ?_
    repeat (refine ord_take _ rfl (by rfl) (fun W hW => by go_simp; first | done | rfl) ?_; simp only [Act.put, List.setIfInBounds_toArray, List.set_cons_zero, List.set_cons_succ])
    clear l0 l1 l2
    have mk := make_bytes N (by omega) w3.drew
    refine ord_sole rfl (by rfl) (fun K1 hK1 => ?_)
    go_simp
    have U1 : Hid (Buf B (w3.drew.alloc (.cells (madeCells #[.int .u8 0] N) 5)) B N []) := by
      rw [HBe.out]
      exact (Out.made (W0 := w3.drew) N (by omega)).1
    have I1 : Hid (t.InP (· ≠ B) (w3.drew.alloc (.cells (madeCells #[.int .u8 0] N) 5)) (.agg #[.int .i64 t.tag, .slice A n c, .slice K m d])) :=
      T.InP.keep (w := w3) (fun b hb hp => ⟨by rw [HBe.out]; omega, Below.heap_alloc w3.drew _ b hb⟩) (by simp) _ (T.In.inP _ BX3.out.has)
    have B1 : Hid (Below w3.heap.size w3 (w3.drew.alloc (.cells (madeCells #[.int .u8 0] N) 5))) := Past.real HBe.out (show Past B w3.drew _ from Past.alloc (by rw [HBe.out]; exact Nat.le_refl _) _)
    have CI : Hid (∀ gg : Nat, gg = B → Calls Tryz.prog 67 #[.slice (some ⟨gg, 0, none⟩) 0 N, .agg #[.int .i64 t.tag, .slice A n c, .slice K m d]] (w3.drew.alloc (.cells (madeCells #[.int .u8 0] N) 5)) (GivesIns B B N (layT t) (w3.drew.alloc (.cells (madeCells #[.int .u8 0] N) 5)))) := by
      intro gg hgg
      subst hgg
      have h := app_any t _ gg gg N [] _ I1.out U1.out RT.out hwt (by simpa using hlN) (by omega)
      simpa using h
    have hPB : B ≤ (w3.drew.alloc (.cells (madeCells #[.int .u8 0] N) 5)).heap.size := by rw [HBe.out]; simp
    refine hK1 _ _ (Past.alloc (by rw [HBe.out]; exact Nat.le_refl _) _) ?_
    clear hK1 K1 mk
    refine ord_sole rfl (by rfl) (fun K1 hK1 => ?_)
    go_simp
    refine (CI.out _ HBe.out.symm).mono ?_
    rintro e w4 ⟨rfl, hb4, hg4⟩
    have P4 : Hid (Past B (w3.drew.alloc (.cells (madeCells #[.int .u8 0] N) 5)) w4) := grown_below hg4 B (Nat.le_refl _) hPB
    have B4 := Lib.hid (Below.step BX3.out.below (Below.trans B1.out (show Below w3.heap.size _ w4 by have h := P4.out; rw [HBe.out] at h; exact h)))
    have U4 := Lib.hid hb4
    refine hK1 _ _ P4.out ?_
    clear hK1 K1 hb4 hg4 CI I1 U1 hPB
    repeat (refine ord_take _ rfl (by rfl) (fun W hW => by go_simp; first | done | rfl) ?_; simp only [Act.put, List.setIfInBounds_toArray, List.set_cons_zero, List.set_cons_succ])
    refine ord_end ?_
    go_wp2_with fail
    go_ret2
    rw [HX.out]
    exact ⟨_, _, rfl, Row.of_own U4.out (lay_byte t BX3.out.has RT.out), fun e => (by cases e), B4.out, hlN⟩
end Go.Proofs.YtgmefdmeeihgoaaGreatDoor
namespace Go.Proofs.YtgmefdmeeihgoaaGreatDoor
open Go.RowKit
set_option linter.unusedVariables false
set_option linter.unusedSimpArgs false
theorem T.InP.far {P Q : Nat → Prop} {W : World} {g : Nat} {t : T} {v : Value} (h : t.InP P W v) (hq : ∀ b, P b → Q b ∧ b ≠ g) (j : Nat) (x : Value) : t.InP Q (W.setCell ⟨g, j, none⟩ x) v :=
  T.InP.keep (fun b _ hp => ⟨(hq b hp).1, heap_setCell_other _ ⟨g, j, none⟩ b x (hq b hp).2⟩) (by simp) _ h
theorem has_boxed {w W : World} {tmps : Array Value} {fn : Func} {p : Tmp} {g : Nat} {t : T} {x y z : Value} {A : Option Addr} {n c : Nat} {K : Option Addr} {m d : Nat} (hf : fn.results = #[.cell p 28]) (hp : tmps.getD p undef = .pointer (some ⟨g, 0, none⟩)) (hblk : Blk W g 28 #[x, y, z]) (hg : w.heap.size ≤ g) (hb : Below w.heap.size w W) (hin : t.InP (· ≠ g) W (.agg #[.int .i64 t.tag, .slice A n c, .slice K m d])) :
    bodyPost Tryz.prog fn (HasNode t w) .ret { tmps := tmps, defers := [] } (((W.setCell ⟨g, 0, none⟩ (.int .i64 t.tag)).setCell ⟨g, 1, none⟩ (.slice A n c)).setCell ⟨g, 2, none⟩ (.slice K m d)) := by
  have h1 : Blk (((W.setCell ⟨g, 0, none⟩ (.int .i64 t.tag)).setCell ⟨g, 1, none⟩ (.slice A n c)).setCell ⟨g, 2, none⟩ (.slice K m d)) g 28 #[.int .i64 t.tag, .slice A n c, .slice K m d] := ((hblk.set 0 (.int .i64 t.tag)).set 1 (.slice A n c)).set 2 (.slice K m d)
  have h2 : Below w.heap.size w (((W.setCell ⟨g, 0, none⟩ (.int .i64 t.tag)).setCell ⟨g, 1, none⟩ (.slice A n c)).setCell ⟨g, 2, none⟩ (.slice K m d)) := ((hb.setCell hg _).setCell hg _).setCell hg _
  have hq : ∀ b : Nat, b ≠ g → b ≠ g ∧ b ≠ g := fun b h => ⟨h, h⟩
  exact bodyPost_ret (results_cell_row hf _ _ g 28 #[.int .i64 t.tag, .slice A n c, .slice K m d] (0, 0) _ hp h1 Tryz.underlying28 rfl Tryz.sizeNode3) rfl ⟨A, n, c, K, m, d, rfl, T.InP.in _ (((hin.far hq 0 _).far hq 1 _).far hq 2 _), h2⟩
theorem three_past {B g : Nat} (W : World) (hg : B ≤ g) (x y z : Value) : ExtB B W (((W.setCell ⟨g, 0, none⟩ x).setCell ⟨g, 1, none⟩ y).setCell ⟨g, 2, none⟩ z) :=
  (((Below.refl B W).setCell hg x).setCell hg y).setCell hg z
set_option maxHeartbeats 2000000 in
theorem sealed_any (t : T) (v : Value) (a : Option Addr) (n ca : Nat) (zs : List Int) (w : World) (hin : t.In w v) (hr : Row w a n zs) (hn : n ≤ 100000) (hnil : a = none → ca = 0) : Calls Tryz.prog 35 #[v, .slice a n ca] w (HasNode (sealT t zs) w) := by
  obtain ⟨A, nb, c, K, m, d, rfl⟩ := (T.In.inP t hin).form
  have BX := Lib.hid (Box.start hin)
  have I0 := Lib.hid (T.In.inP t hin)
  have R0 := Lib.hid hr
  have HN := Lib.hid hnil
  clear hr hin hnil
  go_enter Tryz.func35, Tryz.ntmps35
  go_wp2_with fail
  have b1 : Below w.heap.size w ((w.alloc (.cells #[.int .i64 t.tag, .slice A nb c, .slice K m d] 28)).alloc (.cells #[.int .i64 0, .slice none 0 0, .slice none 0 0] 28)) := ((Below.refl _ _).alloc (Nat.le_refl _) _).alloc (by simp) _
  have S0 := Blk.new (w.alloc (.cells #[.int .i64 t.tag, .slice A nb c, .slice K m d] 28)) 28 #[.int .i64 0, .slice none 0 0, .slice none 0 0]
  have X0 := (BX.out.blk.alloc (.cells #[.int .i64 0, .slice none 0 0, .slice none 0 0] 28))
  rw [show (w.alloc (.cells #[.int .i64 t.tag, .slice A nb c, .slice K m d] 28)).heap.size = w.heap.size + 1 by simp] at S0
  have B1 := Lib.hid b1
  have S1 := Lib.hid S0
  have X1 := Lib.hid X0
  clear b1 S0 X0 BX
  generalize (w.alloc (.cells #[.int .i64 t.tag, .slice A nb c, .slice K m d] 28)).alloc (.cells #[.int .i64 0, .slice none 0 0, .slice none 0 0] 28) = w2 at *
  have l0 : ∀ W, ExtB (w.heap.size + 1) w2.drew W → W.cell? ⟨w.heap.size, 0, none⟩ = some (.int .i64 t.tag) := fun W hW => (Below.cell hW (p := ⟨w.heap.size, 0, none⟩) (Nat.lt_succ_self _)).trans (X1.out.cell 0)
  have l1 : ∀ W, ExtB (w.heap.size + 1) w2.drew W → W.cell? ⟨w.heap.size, 1, none⟩ = some (.slice A nb c) := fun W hW => (Below.cell hW (p := ⟨w.heap.size, 1, none⟩) (Nat.lt_succ_self _)).trans (X1.out.cell 1)
  have l2 : ∀ W, ExtB (w.heap.size + 1) w2.drew W → W.cell? ⟨w.heap.size, 2, none⟩ = some (.slice K m d) := fun W hW => (Below.cell hW (p := ⟨w.heap.size, 2, none⟩) (Nat.lt_succ_self _)).trans (X1.out.cell 2)
  refine wp_region_ord (ExtB (w.heap.size + 1)) (ExtB.refl _) ExtB.trans ((0, false) :: (2, false) :: (1, true) :: (3, true) :: (4, true) :: (5, true) :: (6, true) :: []) (by kernel_rfl) (by kernel_rfl) rfl (by kernel_rfl) (fun _ _ _ _ _ h => h) ?_
  repeat (refine ord_take _ rfl (by rfl) (fun W hW => by go_simp; first | done | rfl) ?_; simp only [Act.put, List.setIfInBounds_toArray, List.set_cons_zero, List.set_cons_succ])
  clear l0 l1 l2 X1
  have B2 : Hid (Below w.heap.size w w2.drew) := B1.out.drew
  have S2 : Hid (Blk w2.drew (w.heap.size + 1) 28 #[.int .i64 0, .slice none 0 0, .slice none 0 0]) := S1.out
  clear B1 S1
  generalize w2.drew = w3 at *
  have hsz : Hid (w.heap.size + 1 < w3.heap.size) := S2.out.lt
  have I3 := Lib.hid (T.InP.below (Q := (· ≠ w.heap.size + 1)) B2.out (fun b (hb : b < w.heap.size) => (by omega)) _ I0.out)
  have CB := Lib.hid (fun W (hW : Below w.heap.size w W) => allBits_any a n ca zs W (R0.out.below hW) hn HN.out)
  clear I0 R0 HN
  refine ord_sole rfl (by rfl) (fun K1 hK1 => ?_)
  go_simp
  refine (algorithm_any 11 (by omega) (by omega) w3).mono ?_
  rintro e w4 ⟨A4, n4, c4, K4, m4, d4, rfl, hin4, hb4⟩
  refine hK1 _ _ (hb4.mono (by have := hsz.out; omega)) ?_
  clear hK1 K1
  have B4 := Lib.hid (B2.out.trans (hb4.mono B2.out.size))
  have S4 := Lib.hid (S2.out.below hb4 (by have := hsz.out; omega))
  have I4 := Lib.hid (T.InP.below hb4 (fun _ h => h) _ I3.out)
  have J4 := Lib.hid (T.InP.keep (Q := (· ≠ w.heap.size + 1)) (fun b _ (hp : w3.heap.size ≤ b) => ⟨by have := hsz.out; omega, rfl⟩) (Nat.le_refl _) _ hin4)
  have hs4 : Hid (w.heap.size + 1 < w4.heap.size) := Nat.lt_of_lt_of_le hsz.out hb4.size
  clear hb4 hin4 B2 S2 I3 hsz
  refine ord_sole rfl (by rfl) (fun K1 hK1 => ?_)
  go_simp
  refine (CB.out w4 B4.out).mono ?_
  rintro e w5 ⟨A5, n5, c5, K5, m5, d5, rfl, hin5, hb5⟩
  refine hK1 _ _ (hb5.mono (by have := hs4.out; omega)) ?_
  clear hK1 K1 CB
  have B5 := Lib.hid (B4.out.trans (hb5.mono B4.out.size))
  have S5 := Lib.hid (S4.out.below hb5 (by have := hs4.out; omega))
  have I5 := Lib.hid (T.InP.below hb5 (fun _ h => h) _ I4.out)
  have J5 := Lib.hid (T.InP.below hb5 (fun _ h => h) _ J4.out)
  have L5 := Lib.hid (T.InP.keep (Q := (· ≠ w.heap.size + 1)) (fun b _ (hp : w4.heap.size ≤ b) => ⟨by have := hs4.out; omega, rfl⟩) (Nat.le_refl _) _ hin5)
  have hs5 : Hid (w.heap.size + 1 < w5.heap.size) := Nat.lt_of_lt_of_le hs4.out hb5.size
  clear hb5 hin5 B4 S4 I4 J4 hs4
  refine ord_sole rfl (by rfl) (fun K1 hK1 => ?_)
  go_simp
  have A6 : Below w5.heap.size w5 (w5.alloc (.cells #[.int .i64 t.tag, .slice A nb c, .slice K m d, .int .i64 (algT 11).tag, .slice A4 n4 c4, .slice K4 m4 d4, .int .i64 (bitsT zs).tag, .slice A5 n5 c5, .slice K5 m5 d5] 28)) := (Below.refl _ _).alloc (Nat.le_refl _) _
  refine hK1 _ _ (A6.mono (by have := hs5.out; omega)) ?_
  clear hK1 K1
  have B6 := Lib.hid (B5.out.trans (A6.mono B5.out.size))
  have S6 := Lib.hid (S5.out.below A6 (by have := hs5.out; omega))
  have K6 := Lib.hid (kids_three (P := (· ≠ w.heap.size + 1)) (Blk.new w5 28 #[.int .i64 t.tag, .slice A nb c, .slice K m d, .int .i64 (algT 11).tag, .slice A4 n4 c4, .slice K4 m4 d4, .int .i64 (bitsT zs).tag, .slice A5 n5 c5, .slice K5 m5 d5]) (by have := hs5.out; show w5.heap.size ≠ w.heap.size + 1; omega) (T.InP.below A6 (fun _ h => h) _ I5.out) (T.InP.below A6 (fun _ h => h) _ J5.out) (T.InP.below A6 (fun _ h => h) _ L5.out))
  have hs6 : Hid (w.heap.size + 1 < (w5.alloc (.cells #[.int .i64 t.tag, .slice A nb c, .slice K m d, .int .i64 (algT 11).tag, .slice A4 n4 c4, .slice K4 m4 d4, .int .i64 (bitsT zs).tag, .slice A5 n5 c5, .slice K5 m5 d5] 28)).heap.size) := Nat.lt_of_lt_of_le hs5.out A6.size
  clear A6 B5 S5 I5 J5 L5 hs5
  generalize w5.alloc (.cells #[.int .i64 t.tag, .slice A nb c, .slice K m d, .int .i64 (algT 11).tag, .slice A4 n4 c4, .slice K4 m4 d4, .int .i64 (bitsT zs).tag, .slice A5 n5 c5, .slice K5 m5 d5] 28) = w6 at *
  refine ord_sole rfl (by rfl) (fun K1 hK1 => ?_)
  go_simp
  refine (sequence_any _ 3 3 w6).mono ?_
  rintro e w7 ⟨rfl, hb7⟩
  refine hK1 _ _ (hb7.mono (by have := hs6.out; omega)) ?_
  clear hK1 K1
  have B7 := Lib.hid (B6.out.trans (hb7.mono B6.out.size))
  have S7 := Lib.hid (S6.out.below hb7 (by have := hs6.out; omega))
  have K7 := Lib.hid (K6.out.below hb7 (fun _ h => h))
  clear hb7 B6 S6 K6 hs6
  obtain ⟨c0, c1, c2, f0, f1, f2⟩ := S7.out.facts
  refine ord_sole rfl (by rfl) (fun K1 hK1 => ?_)
  go_simp
  refine hK1 _ _ (three_past w7 (Nat.le_refl _) _ _ _) ?_
  clear hK1 K1
  refine ord_end ?_
  go_wp2_with fail
  exact has_boxed (t := sealT t zs) rfl rfl S7.out (Nat.le_succ _) B7.out (K7.out.node (by decide))
set_option maxHeartbeats 1000000 in
theorem seal_any (t : T) (v : Value) (a : Option Addr) (n ca : Nat) (zs : List Int) (w : World) (hin : t.In w v) (hwt : wt t < 100000) (hr : Row w a n zs) (hn : n ≤ 100000) (hnil : a = none → ca = 0) : Calls Tryz.prog 15 #[v, .slice a n ca] w (GivesWr (writeZ (sealT t zs)) w) := by
  obtain ⟨A, nb, c, K, m, d, rfl⟩ := (T.In.inP t hin).form
  have BX := Lib.hid (Box.start hin)
  have WS := wt_seal t zs
  have hl := hr.1
  have CS := Lib.hid (sealed_any t _ a n ca zs _ BX.out.has (hr.below BX.out.below) hn hnil)
  obtain ⟨g0, g1, g2⟩ := BX.out.cells
  clear hr hin hnil
  go_enter Tryz.func15, Tryz.ntmps15
  generalize hw2 : w.alloc (.cells #[.int .i64 t.tag, .slice A nb c, .slice K m d] 28) = w2 at *
  go_wp2_with fail
  refine CS.out.mono ?_
  rintro e w3 ⟨A3, n3, c3, K3, m3, d3, rfl, hin3, hb3⟩
  have B3 := Lib.hid (Below.step BX.out.below hb3)
  have CW := Lib.hid (twrite_big (sealT t zs) _ w3 hin3 (by omega))
  clear CS BX hb3 hin3 hw2 g0 g1 g2
  go_wp2_with fail
  refine CW.out.mono ?_
  rintro e w4 ⟨a4, c4, rfl, hr4, hnil4, hb4, hc4⟩
  have B4 := Lib.hid (Below.step B3.out hb4)
  have R4 := Lib.hid hr4
  have N4 := Lib.hid hnil4
  clear CW B3 hb4 hr4 hnil4
  go_wp2_with fail
  go_ret2
  exact ⟨a4, c4, rfl, R4.out, N4.out, B4.out, hc4⟩
end Go.Proofs.YtgmefdmeeihgoaaGreatDoor
