/-
  What the package's source.elements does, given what source.element does, for stage 4 (tlv).
-/
import Derived.Test.YtefdfdnfpacfjaaTLen
import Derived.Test.YtefdfdnfpacfjaaElemIn
namespace Go.Proofs.Ytefdfdnfpacfjaa
open Go.RowKit
set_option linter.unusedVariables false

/-- What element answers. -/
def GivesEl (gs lvl Bd : Nat) (zs : List Int) (w : World) (e : Ending) (w' : World) : Prop :=
  w.grownBy w' (some gs) ∧ ((∃ z : Int, elemC lvl zs = .error z ∧ e = .panicked (errP (norm lvl z))) ∨
    (∃ (t : T) (r : List Int) (v : Value), elemC lvl zs = .ok (t, r) ∧ e = .returned v ∧ t.InP (w.heap.size ≤ ·) w' v ∧ Rest w' gs lvl Bd r))
/-- What elements answers. -/
def GivesEls (W0 : World) (gs lvl : Nat) (zs : List Int) (w : World) (e : Ending) (w' : World) : Prop :=
  w.grownBy w' (some gs) ∧ ((∃ z : Int, kidsC lvl zs = .error z ∧ e = .panicked (errP (norm lvl z))) ∨
    (∃ (ks : List T) (V : Value), kidsC lvl zs = .ok ks ∧ e = .returned V ∧ NOut W0 w' gs V ks))

theorem NOut.grown {W0 wr w2 : World} {g : Nat} {V : Value} {ks : List T} (h : NOut W0 wr g V ks) (hg : W0.heap.size ≤ g) (hV : V.ownBlock ≠ some g) (hw : wr.grownBy w2 (some g)) : NOut W0 w2 g V ks := by
  obtain ⟨h1, xs, h2, h3⟩ := h
  refine ⟨Below.trans h1 (grown_below hw W0.heap.size hg h1.size), xs, ⟨h2.1, ?_⟩, fun i hi => ?_⟩
  · rcases h2.2 with h' | ⟨g', cap, cur, e, h1, h2, h3⟩
    · exact .inl h'
    · refine .inr ⟨g', cap, cur, e, h1, ?_, h3⟩
      rw [← h2]
      exact hw.block g' (Array.getElem?_eq_some_iff.1 h2).1 (fun he => hV (by injection he with he; rw [e, he]; rfl))
  · obtain ⟨v0, v1, v2, e0, e1, e2, hin⟩ := h3 i hi
    refine ⟨v0, v1, v2, e0, e1, e2, T.InP.keep (fun b hb hp => ⟨hp, hw.block b hb (fun he => ?_)⟩) hw.size _ hin⟩
    injection he with he
    have := hp.1
    omega

def lenAt (w : World) (gs : Nat) : Nat := match w.cell? ⟨gs, 0, none⟩ with | some (.slice _ n _) => n | _ => 0
theorem Rest.len {w : World} {gs lvl Bd : Nat} {zs : List Int} (h : Rest w gs lvl Bd zs) : lenAt w gs = zs.length := by
  obtain ⟨A, c, h1, _⟩ := h
  have := h1.cell 0
  unfold lenAt
  rw [this]
  rfl

/-- Where the loop of elements stands. -/
structure ElMid (W0 w wr : World) (gs lvl Bd : Nat) (zs zs' : List Int) (V : Value) (ks : List T) : Prop where
  rest : Rest wr gs lvl Bd zs'
  kids : kidsC lvl zs = app ks (kidsC lvl zs')
  out : NOut W0 wr gs V ks
  new : ∀ b, V.ownBlock = some b → w.heap.size ≤ b
  grown : w.grownBy wr (some gs)
  few : ks.length + zs'.length ≤ zs.length
theorem ElMid.start {W0 w : World} {gs lvl Bd : Nat} {zs : List Int} (hr : Rest w gs lvl Bd zs) (hb : Below W0.heap.size W0 w) : ElMid W0 w w gs lvl Bd zs zs (.slice none 0 0) [] :=
  ⟨hr, (app_nil _).symm, NOut.start hb gs, fun b h => by simp [Value.ownBlock] at h, World.grownBy.refl _ _, by simp⟩
theorem ElMid.next {W0 w wr w2 w4 : World} {gs lvl Bd : Nat} {zs zs' r : List Int} {V V4 : Value} {ks : List T} {t : T} (h : ElMid W0 w wr gs lvl Bd zs zs' V ks) (hgw : gs < w.heap.size) (hBd : Bd ≤ gs) (hne : zs' ≠ []) (he : elemC lvl zs' = .ok (t, r)) (hg : wr.grownBy w2 (some gs)) (hr : Rest w2 gs lvl Bd r)
    (ho : NOut W0 w4 gs V4 (ks ++ [t])) (hat : V4.ownBlock = V.ownBlock ∨ V4.ownBlock = some (w2.heap.size + 1)) (hk : ∀ b, b < w2.heap.size → V.ownBlock ≠ some b → w4.heap[b]? = w2.heap[b]?) (hb4 : Below W0.heap.size w2 w4) : ElMid W0 w w4 gs lvl Bd zs r V4 (ks ++ [t]) := by
  have hs : w.heap.size ≤ w2.heap.size := Nat.le_trans h.grown.size hg.size
  have g2 := grown_trans h.grown hg
  have hV : ∀ b, b < w.heap.size → V.ownBlock ≠ some b := fun b hb e => by
    have := h.new b e
    omega
  refine ⟨hr.keep hb4.size (fun b hb hp => hk b hb (hV b (by omega))), h.kids.trans (kids_one hne he), ho, fun b e => ?_, ⟨hb4.os.trans g2.os, hb4.tape.trans g2.tape, hb4.output.trans g2.output, Nat.le_trans g2.size hb4.size, fun k hk1 hk2 => (hk k (by omega) (hV k hk1)).trans (g2.block k hk1 hk2)⟩, ?_⟩
  · rcases hat with e' | e'
    · exact h.new b (e'.symm.trans e)
    · rw [e'] at e
      injection e with e
      omega
  · rw [List.length_append]
    have := h.few
    have := elemC_rest he
    simp
    omega

set_option maxHeartbeats 2000000 in
theorem els_any (N : Nat) (ih : ∀ (gs lvl Bd : Nat) (zs : List Int) (w : World), zs.length < N → lvl ≤ 32 → zs.length ≤ 30000 → Rest w gs lvl Bd zs → Calls Try.prog 30 #[.pointer (some ⟨gs, 0, none⟩)] w (GivesEl gs lvl Bd zs w))
    (W0 : World) (gs lvl Bd : Nat) (zs : List Int) (w : World) (hN : zs.length < N) (hl : lvl ≤ 32) (hn : zs.length ≤ 30000) (hr : Rest w gs lvl Bd zs) (hW : W0.heap.size ≤ gs) (hB : Below W0.heap.size W0 w) :
    Calls Try.prog 38 #[.pointer (some ⟨gs, 0, none⟩)] w (GivesEls W0 gs lvl zs w) := by
  have M0 := Lib.hid (ElMid.start hr hB)
  have IH := Lib.hid ih
  have hgw : gs < w.heap.size := by
    obtain ⟨A, c, h, _⟩ := hr
    exact h.lt
  have hBd : Bd ≤ gs := by
    obtain ⟨A, c, _, _, _, _, h, _⟩ := hr
    exact h
  clear hr hB ih
  go_enter Try.func38, Try.ntmps38
  go_wp2_with fail
  go_loopw [3] (fun V wr => ∃ (zs' : List Int) (ks : List T), ElMid W0 w wr gs lvl Bd zs zs' V ks) (fun _ wr => lenAt wr gs)
  case atStart => exact ⟨zs, [], M0.out⟩
  case round =>
    obtain ⟨zs', ks, hmid⟩ := hrel
    have MD := Lib.hid hmid
    have hfew := hmid.few
    have HL := Lib.hid hmid.rest.len
    obtain ⟨KA, KD, rfl⟩ := hmid.out.form
    obtain ⟨A, c, hblk, _⟩ := hmid.rest
    have c0 := hblk.cell 0
    simp only [List.getElem?_toArray, List.getElem?_cons_zero] at c0
    clear hmid hblk M0
    by_cases h0 : zs'.length = 0
    · obtain rfl : zs' = [] := List.eq_nil_of_length_eq_zero h0
      have KN : Hid (kidsC lvl zs = .ok ks) := by
        rw [MD.out.kids, kidsC_nil]
        simp [app, Hid]
      simp only [List.length_nil] at c0
      clear h0 HL hfew
      go_wp2_with fail
      go_ret
      exact ⟨MD.out.grown, .inr ⟨ks, _, KN.out, rfl, MD.out.out⟩⟩
    · have NE : Hid (zs' ≠ []) := fun e => h0 (by rw [e]; rfl)
      have t0 : ((zs'.length : Int) != 0) = true := by simpa using h0
      have CI := Lib.hid (IH.out gs lvl Bd zs' wr (by omega) hl (by omega) MD.out.rest)
      go_wp2_with fail
      refine CI.out.mono ?_
      rintro e w2 ⟨hg2, hways⟩
      have G2 := Lib.hid hg2
      clear CI
      rcases hways with ⟨z, hz, rfl⟩ | ⟨t, r, v, ht, rfl, hin, hrest⟩
      · have F : Hid (kidsC lvl zs = .error z) := by
          rw [MD.out.kids, kids_bad NE.out hz]
          rfl
        exact ⟨rfl, grown_trans MD.out.grown G2.out, .inl ⟨z, F.out, rfl⟩⟩
      · obtain ⟨A', n', c', K', m', d', rfl⟩ := hin.form
        have hVg : ∀ b, (Value.slice KA ks.length KD).ownBlock = some b → w.heap.size ≤ b := MD.out.new
        have O2 : Hid (NOut W0 w2 gs (.slice KA ks.length KD) ks) := MD.out.out.grown hW (fun e => Nat.not_le.2 hgw (hVg gs e)) hg2
        have V0 : Hid (t.InP (Apart gs (.slice KA ks.length KD)) w2 (.agg #[.int .i64 t.tag, .slice A' n' c', .slice K' m' d'])) := by
          refine T.InP.keep (fun b hb hp => ⟨⟨?_, fun e => ?_⟩, rfl⟩) (Nat.le_refl _) _ hin
          · have hp' : wr.heap.size ≤ b := hp
            have := MD.out.grown.size
            omega
          · have := nown_lt MD.out.out b e
            have hp' : wr.heap.size ≤ b := hp
            omega
        have HT := Lib.hid ht
        have HR := Lib.hid hrest
        clear ht hin hrest hg2 hVg
        go_wp2_with (at_builtin; refine nout_append (W0 := W0) (g := gs) (V := .slice KA ks.length KD) (ks := ks) (t := t) rfl _ _ rfl rfl O2.out V0.out w2.heap.size rfl rfl (by omega) ?_; intro V4 w4 ho4 hat4 hk4 hb4; have MN := Lib.hid (MD.out.next hgw hBd NE.out HT.out G2.out HR.out ho4 hat4 hk4 hb4); clear ho4 hat4 hk4 hb4)
        go_roundw
        case rel => exact ⟨r, ks ++ [t], MN.out⟩
        case measure =>
          rw [MN.out.rest.len, HL.out]
          exact elemC_rest HT.out

end Go.Proofs.Ytefdfdnfpacfjaa
