/-
  What the package's source.element does, for stage 4 (tlv).
-/
import Derived.Test.YtefdfdnfpacfjaaTEls
import Derived.Test.YtefdfdnfpacfjaaReadT
namespace Go.Proofs.Ytefdfdnfpacfjaa
open Go.RowKit
set_option linter.unusedVariables false

/-- Where element stands: what is not read, its result's box. -/
structure ES (w W : World) (gs lvl Bd : Nat) (l : List Int) : Prop where
  rest : Rest W gs lvl Bd l
  box : Blk W w.heap.size 26 #[.int .i64 0, .slice none 0 0, .slice none 0 0]
  grown : w.grownBy W (some gs)
  lt : gs < w.heap.size
theorem ES.start {w : World} {gs lvl Bd : Nat} {l : List Int} (h : Rest w gs lvl Bd l) : ES w (w.alloc (.cells #[.int .i64 0, .slice none 0 0, .slice none 0 0] 26)) gs lvl Bd l :=
  ⟨h.below ((Below.refl _ _).alloc (Nat.le_refl _) _), Blk.new _ _ _, World.grownBy_alloc _ _ _, by obtain ⟨A, c, h1, _⟩ := h; exact h1.lt⟩
theorem ES.go {w W W' : World} {gs lvl Bd : Nat} {l l' : List Int} (h : ES w W gs lvl Bd l) (hg : W.grownBy W' (some gs)) (hr : Rest W' gs lvl Bd l') : ES w W' gs lvl Bd l' :=
  ⟨hr, h.box.grown hg (by have := h.lt; omega), grown_trans h.grown hg, h.lt⟩
theorem ES.below {w W W' : World} {gs lvl Bd : Nat} {l : List Int} (h : ES w W gs lvl Bd l) (hb : Below W.heap.size W W') : ES w W' gs lvl Bd l := h.go (grown_of hb) (h.rest.below hb)
theorem Rest.level {w : World} {gs lvl Bd : Nat} {zs : List Int} (h : Rest w gs lvl Bd zs) : w.cell? ⟨gs, 1, none⟩ = some (.int .i64 (lvl : Int)) := by
  obtain ⟨A, c, h1, _⟩ := h
  exact h1.cell 1
theorem Rest.low {w : World} {gs lvl Bd : Nat} {zs : List Int} (h : Rest w gs lvl Bd zs) : Bd ≤ gs := by
  obtain ⟨A, c, _, _, _, _, h, _⟩ := h
  exact h
theorem laid_grown {w W : World} {g : Nat} (h : w.grownBy W (some g)) (a b c : Value) : w.grownBy (laidW w W a b c) (some g) := by
  refine ⟨h.os, h.tape, h.output, by simpa [laidW] using h.size, fun k hk hne => ?_⟩
  have hx : k ≠ w.heap.size := by omega
  unfold laidW
  rw [heap_setCell_other _ ⟨w.heap.size, 2, none⟩ k c hx, heap_setCell_other _ ⟨w.heap.size, 1, none⟩ k b hx, heap_setCell_other _ ⟨w.heap.size, 0, none⟩ k a hx]
  exact h.block k hk hne
theorem laid_rest {w W : World} {gs lvl Bd : Nat} {l : List Int} (h : Rest W gs lvl Bd l) (hl : gs < w.heap.size) (a b c : Value) : Rest (laidW w W a b c) gs lvl Bd l := by
  have hB : Bd ≤ gs := by
    obtain ⟨A, cc, _, _, _, _, h, _⟩ := h
    exact h
  refine h.keep (by simp [laidW]) (fun k _ hk => ?_)
  have hx : k ≠ w.heap.size := by omega
  unfold laidW
  rw [heap_setCell_other _ ⟨w.heap.size, 2, none⟩ k c hx, heap_setCell_other _ ⟨w.heap.size, 1, none⟩ k b hx, heap_setCell_other _ ⟨w.heap.size, 0, none⟩ k a hx]
theorem norm_in (lvl : Nat) (z : Int) : norm (lvl + 1) z = norm lvl (if z = 3 then 2 else z) := by
  unfold norm
  by_cases h : z = 3
  · simp [h]
  · simp [h]
theorem norm4 (lvl : Nat) : norm lvl 4 = 4 := by simp [norm]

/-- A body that was appended to nothing. -/
theorem leaf_of {W0 W : World} {V : Value} {zs : List Int} {z : Int} (h : Out W0 W V zs) (hz : (Lit.int .i64 z).wf = true) (hb : ∀ x ∈ zs, 0 ≤ x ∧ x ≤ 255) (hn : zs.length ≤ 1000000) : ∃ a c, V = .slice a zs.length c ∧ (T.node z zs []).InP (W0.heap.size ≤ ·) W (.agg #[.int .i64 z, .slice a zs.length c, .slice none 0 0]) := by
  obtain ⟨a, c, rfl, hr⟩ := h.row hb
  refine ⟨a, c, rfl, ?_⟩
  unfold T.InP
  refine ⟨a, zs.length, c, none, 0, 0, rfl, hz, hr, by unfold maxLen; omega, h.nilc, rfl, Nat.zero_le _, fun h0 => ?_, fun h0 => absurd h0 (by omega)⟩
  obtain ⟨g, cap, e, hg⟩ := h.form h0
  injection e with e1 e2 e3
  exact ⟨g, 0, e1, hg⟩

set_option maxHeartbeats 4000000 in
set_option maxRecDepth 100000 in
theorem telem_step (N : Nat) (ih : ∀ (gs lvl Bd : Nat) (zs : List Int) (w : World), zs.length < N → lvl ≤ 32 → zs.length ≤ 30000 → Rest w gs lvl Bd zs → Calls Try.prog 30 #[.pointer (some ⟨gs, 0, none⟩)] w (GivesEl gs lvl Bd zs w))
    (gs lvl Bd : Nat) (zs : List Int) (w : World) (hN : zs.length < N + 1) (hl : lvl ≤ 32) (hn : zs.length ≤ 30000) (hr : Rest w gs lvl Bd zs) :
    Calls Try.prog 30 #[.pointer (some ⟨gs, 0, none⟩)] w (GivesEl gs lvl Bd zs w) := by
  have hby : ∀ z ∈ zs, 0 ≤ z ∧ z ≤ 255 := by
    obtain ⟨A, c, _, h, _⟩ := hr
    exact h.2.1
  have z0 := at0_byte hby 0
  have E0 := Lib.hid (ES.start hr)
  have HH := Lib.hid (head_len zs)
  clear hr
  by_cases h1 : zs.length < 1
  · have F : Hid (elemC lvl zs = .error 3) := elemC_bad (HH.out.trans (if_pos h1))
    have CI := Lib.hid (show Calls Try.prog 36 #[.pointer (some ⟨gs, 0, none⟩), .int .i64 1] _ _ from take_short gs lvl Bd 1 zs _ (by omega) E0.out.rest hn h1 (by omega))
    clear HH
    go_enter Try.func30, Try.ntmps30
    go_wp2_with fail
    refine CI.out.mono ?_
    rintro e w2 ⟨rfl, rfl⟩
    exact ⟨rfl, E0.out.grown, .inl ⟨3, F.out, rfl⟩⟩
  have CI := Lib.hid (show Calls Try.prog 36 #[.pointer (some ⟨gs, 0, none⟩), .int .i64 1] _ _ from take_ok gs lvl Bd 1 zs _ E0.out.rest hn (by omega))
  have el : (zs.drop 1).length = zs.length - 1 := List.length_drop
  have HH2 : Hid (headL zs = if at0 zs 0 % 32 = 31 then .error 2 else (match lenL (zs.drop 1) with | .error z => .error z | .ok (h, m) => .ok (h + 1, m))) := HH.out.trans (if_neg h1)
  clear HH
  by_cases c1 : at0 zs 0 % 32 = 31
  · have F : Hid (elemC lvl zs = .error 2) := elemC_bad (HH2.out.trans (if_pos c1))
    have TB : Hid (tagB (at0 zs 0) = false) := by simp [tagB, c1, Hid]
    clear HH2 el
    go_enter Try.func30, Try.ntmps30
    go_wp2_with fail
    refine CI.out.mono ?_
    intro e w2 h2
    obtain ⟨b, off, c, rfl, hcell, hrest, hg⟩ := take_one h2 (by omega)
    have E2 := Lib.hid (E0.out.go hg hrest)
    clear h2 hg hrest CI E0
    generalize at0 zs 0 = x0 at hcell z0 TB c1
    clear c1
    go_wp2_with fail
    refine (ttag_any x0 _ (WalkArith.wf_i64 (by omega))).mono ?_
    rintro e w3 ⟨rfl, rfl⟩
    rw [TB.out]
    go_wp2_with fail
    exact ⟨rfl, E2.out.grown, .inl ⟨2, F.out, by rw [norm2]; rfl⟩⟩
  have HH3 : Hid (headL zs = (match lenL (zs.drop 1) with | .error z => .error z | .ok (h, m) => .ok (h + 1, m))) := HH2.out.trans (if_neg c1)
  have TB : Hid (tagB (at0 zs 0) = true) := by
    have h2 : at0 zs 0 < 256 := by omega
    simp [tagB, c1, h2, z0.1, Hid]
  have EB := Lib.hid (fun (w2 : World) (hr2 : Rest w2 gs lvl Bd (zs.drop 1)) => len_any gs lvl Bd (zs.drop 1) w2 (by omega) hr2 (by omega))
  have EL := Lib.hid el
  clear HH2 c1 el
  go_enter Try.func30, Try.ntmps30
  go_wp2_with fail
  refine CI.out.mono ?_
  intro e w2 h2
  obtain ⟨b, off, c, rfl, hcell, hrest, hg⟩ := take_one h2 (by omega)
  have E2 := Lib.hid (E0.out.go hg hrest)
  have C3 := Lib.hid (EB.out w2 hrest)
  obtain ⟨x0, hx0⟩ : ∃ x0, x0 = at0 zs 0 := ⟨_, rfl⟩
  rw [← hx0] at hcell z0 TB
  have X0 := Lib.hid hx0
  clear h2 hg hrest CI E0 EB hx0
  have XW : (Lit.int .i64 x0).wf = true := WalkArith.wf_i64 (by omega)
  go_wp2_with fail
  refine (ttag_any x0 _ XW).mono ?_
  rintro e w3 ⟨rfl, rfl⟩
  rw [TB.out]
  clear TB
  go_wp2_with fail
  refine C3.out.mono ?_
  rintro e w3 ⟨hg3, hways⟩
  clear C3 hcell
  rcases hways with ⟨z, hz, rfl⟩ | ⟨h, m, hz, rfl, hr3⟩
  · have F : Hid (elemC lvl zs = .error z) := elemC_bad (by rw [HH3.out, hz])
    exact ⟨rfl, grown_trans E2.out.grown hg3, .inl ⟨z, F.out, rfl⟩⟩
  have HD : Hid (headL zs = .ok (h + 1, m)) := by rw [HH3.out, hz]; exact Lib.hid rfl
  have hhk := head_ok HD.out
  have hmm := head_m hby HD.out
  rw [List.drop_drop, Nat.add_comm 1 h] at hr3
  have E3 := Lib.hid (E2.out.go hg3 hr3)
  have hl3 : (zs.drop (h + 1)).length = zs.length - (h + 1) := List.length_drop
  clear HH3 E2 hg3 hr3 hz EL
  by_cases hs : (zs.drop (h + 1)).length < m
  · have F : Hid (elemC lvl zs = .error 3) := elemC_short HD.out hs
    have CI := Lib.hid (take_short gs lvl Bd m (zs.drop (h + 1)) w3 (by omega) E3.out.rest (by omega) hs (by omega))
    go_wp2_with fail
    refine CI.out.mono ?_
    rintro e w4 ⟨rfl, rfl⟩
    exact ⟨rfl, E3.out.grown, .inl ⟨3, F.out, rfl⟩⟩
  have CI := Lib.hid (take_ok gs lvl Bd m (zs.drop (h + 1)) w3 E3.out.rest (by omega) (by omega))
  go_wp2_with fail
  refine CI.out.mono ?_
  rintro e w4 ⟨A, c4, rfl, hrow, hmc, hAb, hA0, hrest, hg⟩
  have E4 := Lib.hid (E3.out.go hg hrest)
  have RW := Lib.hid hrow
  have AB := Lib.hid hAb
  have A0 := Lib.hid hA0
  have cl := hrest.level
  have hzl : ((zs.drop (h + 1)).take m).length = m := by rw [List.length_take]; omega
  clear hrest hrow hAb hA0 hg CI E3
  by_cases hd : 32 ≤ lvl
  · have F : Hid (elemC lvl zs = .error 4) := elemC_deep HD.out hs hd
    have t0 : decide ((32 : Int) ≤ (lvl : Int)) = true := by simp; omega
    go_wp2_with fail
    exact ⟨rfl, E4.out.grown, .inl ⟨4, F.out, by rw [norm4]; rfl⟩⟩
  cases hw : withinB x0
  · have F := Lib.hid (elemC_leaf HD.out hs hd (by rw [← X0.out]; exact hw))
    rw [← X0.out] at F
    have WI := Lib.hid hw
    clear hw
    go_wp2_with fail
    refine (twithin_any x0 _ XW).mono ?_
    rintro e w5 ⟨rfl, rfl⟩
    rw [WI.out]
    have HZ := Lib.hid hzl
    have O0 : Hid (Out w4 w4 (.slice none 0 0) []) := ⟨World.ownsRow_nil _ _ _ _, Below.refl _ _⟩
    have HB := Lib.hid (fun x (hx : x ∈ (zs.drop (h + 1)).take m) => hby x (List.mem_of_mem_drop (List.mem_of_mem_take hx)))
    clear hby hzl
    generalize (zs.drop (h + 1)).take m = zm at F RW HZ HB
    go_wp2_with (at_builtin; go_must (refine out_append (W0 := w4) (L := []) (zs := zm) rfl _ _ rfl rfl O0.out rfl RW.out A0.out (by simp; omega) ?_; intro V5 w5 ho5; rw [List.nil_append] at ho5; obtain ⟨a5, cc5, rfl, hin5⟩ := leaf_of ho5 XW HB.out (by rw [HZ.out]; omega); have E5 := Lib.hid (E4.out.below ho5.2); have I5 := Lib.hid (T.InP.keep (Q := (w.heap.size + 1 ≤ ·)) (fun b _ hp => ⟨by have hp' : w4.heap.size ≤ b := hp; have := E4.out.box.lt; show w.heap.size + 1 ≤ b; omega, rfl⟩) (Nat.le_refl _) _ hin5); clear ho5 hin5; obtain ⟨p0, p1, p2, f0, f1, f2⟩ := E5.out.box.facts))
    exact bodyPost_ret (results_cell_row rfl _ _ w.heap.size 26 #[.int .i64 x0, .slice a5 zm.length cc5, .slice none 0 0] (0, 0) _ rfl (laid_blk E5.out.box _ _ _) Try.underlying26 rfl Try.sizeNode) rfl ⟨laid_grown E5.out.grown _ _ _, .inr ⟨_, _, _, F.out, rfl, laid_in I5.out _ _ _, laid_rest E5.out.rest E5.out.lt _ _ _⟩⟩
  · have FB := Lib.hid (fun z => elemC_in_bad (z := z) HD.out hs hd (by rw [← X0.out]; exact hw))
    have FO := Lib.hid (fun ks => elemC_in_ok (ks := ks) HD.out hs hd (by rw [← X0.out]; exact hw))
    rw [← X0.out] at FO
    have WI := Lib.hid hw
    have HZ := Lib.hid hzl
    clear hw hby hzl
    generalize (zs.drop (h + 1)).take m = zm at FB FO RW HZ
    have C5 : Hid (∀ ii : Int, ii = ((lvl + 1 : Nat) : Int) → Calls Try.prog 38 #[.pointer (some ⟨w4.heap.size, 0, none⟩)] (w4.alloc (.cells #[.slice A m c4, .int .i64 ii] 49)) (GivesEls w4 w4.heap.size (lvl + 1) zm (w4.alloc (.cells #[.slice A m c4, .int .i64 ii] 49)))) := by
      intro ii hii
      subst hii
      have hbl : Below w4.heap.size w4 (w4.alloc (.cells #[.slice A m c4, .int .i64 ((lvl + 1 : Nat) : Int)] 49)) := (Below.refl _ _).alloc (Nat.le_refl _) _
      refine els_any N ih w4 w4.heap.size (lvl + 1) Bd zm _ (by rw [HZ.out]; omega) (by omega) (by rw [HZ.out]; omega) ⟨A, c4, by rw [HZ.out]; exact Blk.new _ _ _, by rw [HZ.out]; exact RW.out.below hbl, by rw [HZ.out]; exact hmc, by rw [HZ.out]; exact AB.out, ?_, A0.out⟩ (Nat.le_refl _) hbl
      have h1 := E4.out.rest.low
      have h2 := E4.out.lt
      have h3 := E4.out.grown.size
      omega
    clear ih
    go_wp2_with fail
    refine (twithin_any x0 _ XW).mono ?_
    rintro e w5 ⟨rfl, rfl⟩
    rw [WI.out]
    go_wp2_with fail
    refine (C5.out _ (by omega)).mono ?_
    rintro e w6 ⟨hg6, hways⟩
    have E6 := Lib.hid (E4.out.below (Below.trans ((Below.refl _ _).alloc (Nat.le_refl _) _) (grown_below hg6 w4.heap.size (Nat.le_refl _) (by simp))))
    clear hg6 C5
    rcases hways with ⟨z, hz, rfl⟩ | ⟨ks, V, hks, rfl, hout⟩
    · exact ⟨rfl, E6.out.grown, .inl ⟨_, FB.out z hz, by rw [norm_in]⟩⟩
    · have F := Lib.hid (FO.out ks hks)
      have I6 := Lib.hid (T.InP.keep (Q := (w.heap.size + 1 ≤ ·)) (fun b _ hp => ⟨by have hp' : w4.heap.size ≤ b := hp; have := E4.out.box.lt; show w.heap.size + 1 ≤ b; omega, rfl⟩) (Nat.le_refl _) _ (hout.done (Nat.le_refl _) XW))
      obtain ⟨K6, d6, rfl⟩ := hout.form
      clear hks hout FB FO
      obtain ⟨p0, p1, p2, f0, f1, f2⟩ := E6.out.box.facts
      go_wp2_with fail
      exact bodyPost_ret (results_cell_row rfl _ _ w.heap.size 26 #[.int .i64 x0, .slice none 0 0, .slice K6 ks.length d6] (0, 0) _ rfl (laid_blk E6.out.box _ _ _) Try.underlying26 rfl Try.sizeNode) rfl ⟨laid_grown E6.out.grown _ _ _, .inr ⟨_, _, _, F.out, rfl, laid_in I6.out _ _ _, laid_rest E6.out.rest E6.out.lt _ _ _⟩⟩

theorem telem_any : ∀ (N gs lvl Bd : Nat) (zs : List Int) (w : World), zs.length < N → lvl ≤ 32 → zs.length ≤ 30000 → Rest w gs lvl Bd zs → Calls Try.prog 30 #[.pointer (some ⟨gs, 0, none⟩)] w (GivesEl gs lvl Bd zs w) := by
  intro N
  induction N with
  | zero => intro gs lvl Bd zs w h; omega
  | succ N ih => exact fun gs lvl Bd zs w hN hl hn hr => telem_step N ih gs lvl Bd zs w hN hl hn hr

end Go.Proofs.Ytefdfdnfpacfjaa
