/-
  Merged texts: RpJ, RpK, RpL, ReT, ReE.
-/
import Derived.Test.YtlmndmfebgaidaaGreatDoorGnR
import Derived.Test.YtlmndmfebgaidaaGreatDoorGnN
import Derived.Test.YtlmndmfebgaidaaGreatDoorGnP
import Derived.Test.YtlmndmfebgaidaaGreatDoorGnA
namespace Go.Proofs.YtlmndmfebgaidaaGreatDoor
open Go.RowKit
set_option linter.unusedVariables false
set_option linter.unusedSimpArgs false
set_option maxRecDepth 100000
theorem pairs_len {α : Type} (f : T → T → α) : ∀ l : List T, (pairsOf f l).length = l.length / 2
  | [] => rfl
  | [a] => by simp [pairsOf]
  | a :: b :: r => by
    rw [pairsOf, List.length_cons, pairs_len f r, List.length_cons, List.length_cons]
    omega
theorem pairs_at {α : Type} (f : T → T → α) : ∀ (l : List T) (k : Nat) (h : 2 * k + 1 < l.length), (pairsOf f l)[k]? = some (f (l[2 * k]'(by omega)) (l[2 * k + 1]'h))
  | [], k, h => absurd h (by simp)
  | [a], k, h => absurd h (by simp only [List.length_cons, List.length_nil]; omega)
  | a :: b :: r, 0, h => rfl
  | a :: b :: r, k + 1, h => by
    have hr : 2 * k + 1 < r.length := by simp only [List.length_cons] at h; omega
    rw [pairsOf, List.getElem?_cons_succ, pairs_at f r k hr]
    simp only [show 2 * (k + 1) = 2 * k + 1 + 1 by omega, List.getElem_cons_succ]
theorem pairs_next {α : Type} (f : T → T → α) (l : List T) (k : Nat) (h : 2 * k + 1 < l.length) (S : List α) : S ++ (pairsOf f l).take (k + 1) = (S ++ (pairsOf f l).take k) ++ [f (l[2 * k]'(by omega)) (l[2 * k + 1]'h)] := by
  have hk := pairs_at f l k h
  obtain ⟨hl, e⟩ := List.getElem?_eq_some_iff.1 hk
  rw [List.take_succ_eq_append_getElem hl, e, List.append_assoc]
theorem yields_nodeM {o : Oper} {a : Act} {W : World} (x : Operand) (ho : o.op = .load 29 x) (b off : Nat) (z : Int) (A : Option Addr) (n c : Nat) (K : Option Addr) (m d : Nat) (hx : a.eval x = .pointer (some ⟨b, off, none⟩)) (hc : W.rangeAt b off [.int .i64 z, .slice A n c, .slice K m d]) : (execOp a.eval o).run Tryz.prog W = .ok (.value (.agg (nodeC z (.slice A n c) (.slice K m d)))) W :=
  yields_partR 29 x ho b off [.int .i64 z, .slice A n c, .slice K m d] _ hx hc Tryz.underlying29 rfl (by kernel_rfl)
theorem range_heap {w W : World} {b o : Nat} {cs : List Value} (h : w.rangeAt b o cs) (hb : W.heap[b]? = w.heap[b]?) : W.rangeAt b o cs := fun i v hv => (World.cell?_of_block (a := ⟨b, o + i, none⟩) hb).trans (h i v hv)
set_option maxHeartbeats 8000000 in
theorem visit1_any (w u : World) (B R F : Nat) (i v : Bool) (V V2 : Value) (S : List SpanZ) (N : List (Nat × Nat)) (t : T) (x : Value) (h : PSt w B R u i V V2 S N) (hF : Blk u F 58 (famV v)) (hFR : F ≠ R) (hFV : V.ownBlock ≠ some F) (ht : t.In w x) (hl : S.length + t.kids.length ≤ 60000) :
    Calls Tryz.prog 57 #[x, .func (.func 58) #[] #[.pointer (some ⟨R, 0, none⟩), .pointer (some ⟨F, 0, none⟩)]] u fun e u' => e = .returned (.tuple #[]) ∧ ∃ V', PSt w B R u' i V' V2 (S ++ pairsOf (spanOf v) t.kids) N ∧ (∀ o, o < B → o ≠ R → u'.heap[o]? = u.heap[o]?) := by
  obtain ⟨A, n, c, K, m, d, rfl, _, _, _, _, hm, hm', _⟩ := ht.open
  change Calls _ _ #[.agg (nodeC t.tag (.slice A n c) (.slice K m d)), .func (.func 58) #[] #[.pointer (some ⟨R, 0, none⟩), .pointer (some ⟨F, 0, none⟩)]] u _
  have KI := Lib.hid (T.In.kidsIn ht)
  have bw := box_below u (.cells (nodeC t.tag (.slice A n c) (.slice K m d)) 29)
  have NB := Lib.hid (nodebox u t.tag (.slice A n c) (.slice K m d))
  have P0 := Lib.hid (h.below bw)
  have WR : Hid (w.heap.size ≤ R ∧ R < B) := Lib.hid ⟨h.lo, h.rb⟩
  have BL : Hid (B ≤ u.heap.size) := Lib.hid h.hi
  have V0 : Hid (∀ b, V.ownBlock = some b → b < u.heap.size) := Lib.hid (fun b e => (h.lt1 e).2)
  have KP : Hid (∀ o, o < B → o ≠ R → (u.alloc (.cells (nodeC t.tag (.slice A n c) (.slice K m d)) 29)).heap[o]? = u.heap[o]?) := Lib.hid (fun o ho _ => bw.block o (Nat.lt_of_lt_of_le ho h.hi))
  have FB := Lib.hid (hF.below bw hF.lt)
  have FR := Lib.hid hFR
  have VF := Lib.hid hFV
  have LN : Hid (S.length + m ≤ 60000) := Lib.hid (by rw [← hm]; exact hl)
  have hm6 : m ≤ 60000 := by omega
  clear h ht hl hm' bw hF hFR hFV
  have PN := Lib.hid (fun k (hk : 2 * k + 1 < t.kids.length) => pairs_next (spanOf v) t.kids k hk S)
  have PL : (pairsOf (spanOf v) t.kids).length = m / 2 := by rw [pairs_len, hm]
  have P1 : Hid (S ++ (pairsOf (spanOf v) t.kids).take 0 = S) := Lib.hid (by simp)
  have P2 : Hid (∀ k, 2 * k ≤ m → m ≤ 2 * k + 1 → (pairsOf (spanOf v) t.kids).take k = pairsOf (spanOf v) t.kids) := Lib.hid (fun k _ h2 => List.take_of_length_le (by rw [PL]; omega))
  have PK : Hid (∀ k, ((pairsOf (spanOf v) t.kids).take k).length ≤ m) := Lib.hid (fun k => by rw [List.length_take, PL]; omega)
  have HM := Lib.hid hm
  clear PL hm
  generalize pairsOf (spanOf v) t.kids = Y at *
  go_enter Tryz.func57, Tryz.ntmps57
  go_upto_region 1 with fail
  generalize u.alloc (.cells (nodeC t.tag (.slice A n c) (.slice K m d)) 29) = w2 at *
  obtain ⟨g, hg⟩ : ∃ g, u.heap.size = g := ⟨_, rfl⟩
  have HG := Lib.hid hg
  rw [hg] at NB BL V0
  try simp only [hg]
  go_wp2_with fail
  try simp only [hg]
  go_loopw [4] (fun iV wr => ∃ (k j : Nat) (V' : Value), iV = .int .i64 (j : Int) ∧ j = 2 * k + 1 ∧ 2 * k ≤ m ∧ PSt w B R wr i V' V2 (S ++ Y.take k) N ∧ Blk wr g 29 (nodeC t.tag (.slice A n c) (.slice K m d)) ∧ V'.ownBlock ≠ some g ∧ (∀ o, o < B → o ≠ R → wr.heap[o]? = u.heap[o]?) ∧ Blk wr F 58 (famV v) ∧ V'.ownBlock ≠ some F) (fun iV _ => ((60002 : Int) - intOf iV).toNat)
  case atStart => exact ⟨0, 1, V, rfl, rfl, Nat.zero_le _, by rw [P1.out]; exact P0.out, NB.out, (fun e => by have := V0.out g e; omega), KP.out, FB.out, VF.out⟩
  case round =>
    obtain ⟨k, j, V', rfl, hj, hk, hp, hnb, hvg, hkp, hfb, hvf⟩ := hrel
    clear P0 NB KP V0 P1 FB VF
    have P0 := Lib.hid hp
    have NB := Lib.hid hnb
    have HJ := Lib.hid hj
    have VG := Lib.hid hvg
    have KP := Lib.hid hkp
    have FB := Lib.hid hfb
    have VF := Lib.hid hvf
    have c2 : wr.cell? ⟨g, 2, none⟩ = some (.slice K m d) := Blk.cell hnb 2
    clear hp hnb hj hvg hkp hfb hvf
    by_cases hlt : j < m
    · have t0 : decide ((j : Int) < (m : Int)) = true := decide_eq_true (by omega)
      have t0' : decide (j < m) = true := decide_eq_true hlt
      obtain ⟨j1, hj1⟩ : ∃ j1, j = j1 + 1 := ⟨j - 1, by have := HJ.out; omega⟩
      have kS : IntKind.i64.wrap ((j : Int) - 1) = (j1 : Int) := by rw [IntWalk.i64_in _ (by omega)]; omega
      have kA : IntKind.i64.wrap ((j : Int) + 2) = ((j + 2 : Nat) : Int) := by rw [IntWalk.i64_in _ (by omega)]; omega
      have i0 : (0 : Int) ≤ (j : Int) := by omega
      have i1 : (j : Int) < (m : Int) := by omega
      have i2 : (0 : Int) ≤ (j1 : Int) := by omega
      have i3 : (j1 : Int) < (m : Int) := by omega
      have kl : 2 * k + 1 < t.kids.length := by rw [HM.out]; have := HJ.out; omega
      obtain ⟨p, b, off, z, A1, n1, c1, K1, m1, d1, hp1, hKe, hlb, hrg, hpin⟩ := KI.out.2 j1 (by omega)
      obtain ⟨q, b', off', z2, A2, n2, c2', K2, m2, d2, hq1, hKe2, hlb2, hrg2, hqin⟩ := KI.out.2 j hlt
      rw [hKe] at hKe2
      obtain ⟨rfl, rfl⟩ : b = b' ∧ off = off' := by simpa using hKe2
      have e1 : t.kids[2 * k]'(by omega) = p := by
        have h1 := hp1
        rw [show j1 = 2 * k by have := HJ.out; omega, List.getElem?_eq_getElem (by omega)] at h1
        exact Option.some.inj h1
      have e2 : t.kids[2 * k + 1]'kl = q := by
        have h1 := hq1
        rw [show j = 2 * k + 1 from HJ.out, List.getElem?_eq_getElem kl] at h1
        exact Option.some.inj h1
      have PM := PN.out k kl
      rw [e1, e2] at PM
      have PE := Lib.hid PM
      have HJ1 := Lib.hid hj1
      have BL3 := Lib.hid (P0.out.bel.size)
      have LB := Lib.hid hlb
      subst hKe
      clear PM e1 e2 hp1 hq1 hKe2 kl hj1 hlb2 hlb PN
      go_upto_region 4 with fail
      clear c2
      refine wp_region_ord (StillV R V') (StillV.refl _ _) StillV.trans ((0, false) :: (1, false) :: (2, false) :: (3, false) :: (4, false) :: (5, false) :: (6, false) :: (7, false) :: (8, false) :: (9, false) :: (10, false) :: (11, false) :: (12, true) :: []) (by kernel_rfl) (by kernel_rfl) rfl (by kernel_rfl) (fun _ _ _ _ _ h => h) ?_
      change wpOrd _ _ _ _ _ _ (wr.drewN 1)
      have D1 := drewN_below wr 1
      have BW3 := Lib.hid (Below.step P0.out.bel D1)
      replace P0 := Lib.hid (P0.out.below D1)
      replace NB := Lib.hid (NB.out.below D1 NB.out.lt)
      have KP2 : Hid (∀ o, o < B → o ≠ R → (wr.drewN 1).heap[o]? = u.heap[o]?) := Lib.hid KP.out
      replace FB := Lib.hid (FB.out.below D1 FB.out.lt)
      clear D1 KP
      generalize wr.drewN 1 = w3 at *
      have RG1 := Lib.hid (range_below hrg BW3.out LB.out)
      have RG2 := Lib.hid (range_below hrg2 BW3.out LB.out)
      have PI1 : Hid (p.In w3 (.agg (nodeC z (.slice A1 n1 c1) (.slice K1 m1 d1)))) := Lib.hid (T.In.below BW3.out p hpin)
      have PI2 : Hid (q.In w3 (.agg (nodeC z2 (.slice A2 n2 c2') (.slice K2 m2 d2)))) := Lib.hid (T.In.below BW3.out q hqin)
      have EN : Hid (∀ W, StillV R V' w3 W → Blk W g 29 (nodeC t.tag (.slice A n c) (.slice (some ⟨b, off, none⟩) m d))) := Lib.hid (fun W hW => (hW.2 g NB.out.lt (by have := WR.out; have := BL.out; omega) VG.out).trans NB.out)
      have EB : Hid (∀ W, StillV R V' w3 W → W.heap[b]? = w3.heap[b]?) := Lib.hid (fun W hW => hW.2 b (by have := LB.out; have := BW3.out.size; omega) (by have := WR.out; have := LB.out; omega) (fun e => by have := (P0.out.lt1 e).1; have := WR.out; have := LB.out; omega))
      clear hrg hrg2 hpin hqin BL3
      have LV : Hid ((S ++ Y.take k).length + 1 ≤ 100000) := Lib.hid (by rw [List.length_append]; have h1 := PK.out k; have h2 := LN.out; omega)
      have CC := Lib.hid (parse1_any w w3 B R F i v V' V2 (S ++ Y.take k) N p q _ _ P0.out FB.out FR.out VF.out PI1.out PI2.out LV.out)
      clear LV PI1 PI2
      repeat (first
        | (refine ord_skip rfl (by rfl) ?_; simp only [Act.put, List.setIfInBounds_toArray, List.set_cons_zero, List.set_cons_succ])
        | (refine ord_take _ rfl (by rfl) (fun W hW => yields_nodes (.tmp 13) rfl g 2 (.slice (some ⟨b, off, none⟩) m d) rfl (Blk.cell (EN.out W hW) 2)) ?_; simp only [Act.put, List.setIfInBounds_toArray, List.set_cons_zero, List.set_cons_succ])
        | (refine ord_take _ rfl (by rfl) (fun W hW => yields_nodes (.tmp 19) rfl g 2 (.slice (some ⟨b, off, none⟩) m d) rfl (Blk.cell (EN.out W hW) 2)) ?_; simp only [Act.put, List.setIfInBounds_toArray, List.set_cons_zero, List.set_cons_succ])
        | (refine ord_take _ rfl (by rfl) (fun W hW => yields_nodeM (.tmp 17) rfl b (off + j1 * 3) z A1 n1 c1 K1 m1 d1 rfl (range_heap RG1.out (EB.out W hW))) ?_; simp only [Act.put, List.setIfInBounds_toArray, List.set_cons_zero, List.set_cons_succ])
        | (refine ord_take _ rfl (by rfl) (fun W hW => yields_nodeM (.tmp 22) rfl b (off + j * 3) z2 A2 n2 c2' K2 m2 d2 rfl (range_heap RG2.out (EB.out W hW))) ?_; simp only [Act.put, List.setIfInBounds_toArray, List.set_cons_zero, List.set_cons_succ])
        | (refine ord_take _ rfl (by rfl) (fun W hW => by go_simp; first | done | rfl) ?_; simp only [Act.put, List.setIfInBounds_toArray, List.set_cons_zero, List.set_cons_succ])
        | (refine ord_sole rfl (by rfl) (fun K1 hK1 => ?_)
           go_simp
           refine CC.out.mono ?_
           rintro e w5 ⟨rfl, V5, hp5, hs5, hn5⟩
           refine hK1 _ _ hs5 ?_
           have N5 := Lib.hid (EN.out w5 hs5)
           have G5 : Hid (V5.ownBlock ≠ some g) := Lib.hid (fun e => hn5.elim (fun h => VG.out (h ▸ e)) (fun ⟨x, h1, h2⟩ => by rw [h1] at e; injection e with e; have := NB.out.lt; omega))
           have K5 : Hid (∀ o, o < B → o ≠ R → w5.heap[o]? = u.heap[o]?) := Lib.hid (fun c hc hr => (hs5.2 c (by have := P0.out.hi; omega) hr (fun e => by have := (P0.out.lt1 e).1; omega)).trans (KP2.out c hc hr))
           have P5 := Lib.hid hp5
           have FB5 := Lib.hid ((hs5.2 F FB.out.lt FR.out VF.out).trans FB.out)
           have VF5 : Hid (V5.ownBlock ≠ some F) := Lib.hid (fun e => hn5.elim (fun h => VF.out (h ▸ e)) (fun ⟨x, h1, h2⟩ => by rw [h1] at e; injection e with e; have := FB.out.lt; omega))
           clear FB VF
           clear hK1 K1 CC hp5 hs5 hn5 P0 NB VG KP2 EN EB RG1 RG2
           try simp only [Act.put, List.setIfInBounds_toArray, List.set_cons_zero, List.set_cons_succ]))
      refine ord_end ?_
      rw [← PE.out] at P5
      clear PE
      go_wp2_with fail
      go_roundw
      case rel => exact ⟨k + 1, j + 2, V5, by go_num, by have := HJ.out; omega, by have := HJ.out; have := hlt; omega, P5.out, N5.out, G5.out, K5.out, FB5.out, VF5.out⟩
      case measure => simp only [intOf]; omega
    · have t0 : decide ((j : Int) < (m : Int)) = false := decide_eq_false (by omega)
      have t0' : decide (j < m) = false := decide_eq_false hlt
      have EY := P2.out k hk (by have := HJ.out; omega)
      rw [EY] at P0
      clear EY
      go_wp2_with fail
      go_end0
      exact ⟨rfl, V', P0.out, KP.out⟩
set_option maxHeartbeats 8000000 in
theorem visit2_any (w u : World) (B R F : Nat) (i v : Bool) (V V2 : Value) (S : List SpanZ) (N : List (Nat × Nat)) (t : T) (x : Value) (h : PSt w B R u i V V2 S N) (hbl : ∀ q ∈ t.kids, q.body.length ≤ 1000000) (ht : t.In w x) (hl : N.length + t.kids.length ≤ 60000) :
    Calls Tryz.prog 57 #[x, .func (.func 60) #[] #[.pointer (some ⟨R, 0, none⟩)]] u fun e u' => e = .returned (.tuple #[]) ∧ ∃ V', PSt w B R u' i V V' S (N ++ pairsOf rangeOf t.kids) ∧ (∀ o, o < B → o ≠ R → u'.heap[o]? = u.heap[o]?) := by
  obtain ⟨A, n, c, K, m, d, rfl, _, _, _, _, hm, hm', _⟩ := ht.open
  change Calls _ _ #[.agg (nodeC t.tag (.slice A n c) (.slice K m d)), .func (.func 60) #[] #[.pointer (some ⟨R, 0, none⟩)]] u _
  have KI := Lib.hid (T.In.kidsIn ht)
  have bw := box_below u (.cells (nodeC t.tag (.slice A n c) (.slice K m d)) 29)
  have NB := Lib.hid (nodebox u t.tag (.slice A n c) (.slice K m d))
  have P0 := Lib.hid (h.below bw)
  have WR : Hid (w.heap.size ≤ R ∧ R < B) := Lib.hid ⟨h.lo, h.rb⟩
  have BL : Hid (B ≤ u.heap.size) := Lib.hid h.hi
  have V0 : Hid (∀ b, V2.ownBlock = some b → b < u.heap.size) := Lib.hid (fun b e => (h.lt2 e).2)
  have KP : Hid (∀ o, o < B → o ≠ R → (u.alloc (.cells (nodeC t.tag (.slice A n c) (.slice K m d)) 29)).heap[o]? = u.heap[o]?) := Lib.hid (fun o ho _ => bw.block o (Nat.lt_of_lt_of_le ho h.hi))
  have HB := Lib.hid hbl
  have LN : Hid (N.length + m ≤ 60000) := Lib.hid (by rw [← hm]; exact hl)
  have hm6 : m ≤ 60000 := by omega
  clear h ht hl hm' bw hbl
  have PN := Lib.hid (fun k (hk : 2 * k + 1 < t.kids.length) => pairs_next rangeOf t.kids k hk N)
  have PL : (pairsOf rangeOf t.kids).length = m / 2 := by rw [pairs_len, hm]
  have P1 : Hid (N ++ (pairsOf rangeOf t.kids).take 0 = N) := Lib.hid (by simp)
  have P2 : Hid (∀ k, 2 * k ≤ m → m ≤ 2 * k + 1 → (pairsOf rangeOf t.kids).take k = pairsOf rangeOf t.kids) := Lib.hid (fun k _ h2 => List.take_of_length_le (by rw [PL]; omega))
  have PK : Hid (∀ k, ((pairsOf rangeOf t.kids).take k).length ≤ m) := Lib.hid (fun k => by rw [List.length_take, PL]; omega)
  have HM := Lib.hid hm
  clear PL hm
  generalize pairsOf rangeOf t.kids = Y at *
  go_enter Tryz.func57, Tryz.ntmps57
  go_upto_region 1 with fail
  generalize u.alloc (.cells (nodeC t.tag (.slice A n c) (.slice K m d)) 29) = w2 at *
  obtain ⟨g, hg⟩ : ∃ g, u.heap.size = g := ⟨_, rfl⟩
  have HG := Lib.hid hg
  rw [hg] at NB BL V0
  try simp only [hg]
  go_wp2_with fail
  try simp only [hg]
  go_loopw [4] (fun iV wr => ∃ (k j : Nat) (V' : Value), iV = .int .i64 (j : Int) ∧ j = 2 * k + 1 ∧ 2 * k ≤ m ∧ PSt w B R wr i V V' S (N ++ Y.take k) ∧ Blk wr g 29 (nodeC t.tag (.slice A n c) (.slice K m d)) ∧ V'.ownBlock ≠ some g ∧ (∀ o, o < B → o ≠ R → wr.heap[o]? = u.heap[o]?)) (fun iV _ => ((60002 : Int) - intOf iV).toNat)
  case atStart => exact ⟨0, 1, V2, rfl, rfl, Nat.zero_le _, by rw [P1.out]; exact P0.out, NB.out, (fun e => by have := V0.out g e; omega), KP.out⟩
  case round =>
    obtain ⟨k, j, V', rfl, hj, hk, hp, hnb, hvg, hkp⟩ := hrel
    clear P0 NB KP V0 P1 
    have P0 := Lib.hid hp
    have NB := Lib.hid hnb
    have HJ := Lib.hid hj
    have VG := Lib.hid hvg
    have KP := Lib.hid hkp
    have c2 : wr.cell? ⟨g, 2, none⟩ = some (.slice K m d) := Blk.cell hnb 2
    clear hp hnb hj hvg hkp 
    by_cases hlt : j < m
    · have t0 : decide ((j : Int) < (m : Int)) = true := decide_eq_true (by omega)
      have t0' : decide (j < m) = true := decide_eq_true hlt
      obtain ⟨j1, hj1⟩ : ∃ j1, j = j1 + 1 := ⟨j - 1, by have := HJ.out; omega⟩
      have kS : IntKind.i64.wrap ((j : Int) - 1) = (j1 : Int) := by rw [IntWalk.i64_in _ (by omega)]; omega
      have kA : IntKind.i64.wrap ((j : Int) + 2) = ((j + 2 : Nat) : Int) := by rw [IntWalk.i64_in _ (by omega)]; omega
      have i0 : (0 : Int) ≤ (j : Int) := by omega
      have i1 : (j : Int) < (m : Int) := by omega
      have i2 : (0 : Int) ≤ (j1 : Int) := by omega
      have i3 : (j1 : Int) < (m : Int) := by omega
      have kl : 2 * k + 1 < t.kids.length := by rw [HM.out]; have := HJ.out; omega
      obtain ⟨p, b, off, z, A1, n1, c1, K1, m1, d1, hp1, hKe, hlb, hrg, hpin⟩ := KI.out.2 j1 (by omega)
      obtain ⟨q, b', off', z2, A2, n2, c2', K2, m2, d2, hq1, hKe2, hlb2, hrg2, hqin⟩ := KI.out.2 j hlt
      rw [hKe] at hKe2
      obtain ⟨rfl, rfl⟩ : b = b' ∧ off = off' := by simpa using hKe2
      have e1 : t.kids[2 * k]'(by omega) = p := by
        have h1 := hp1
        rw [show j1 = 2 * k by have := HJ.out; omega, List.getElem?_eq_getElem (by omega)] at h1
        exact Option.some.inj h1
      have e2 : t.kids[2 * k + 1]'kl = q := by
        have h1 := hq1
        rw [show j = 2 * k + 1 from HJ.out, List.getElem?_eq_getElem kl] at h1
        exact Option.some.inj h1
      have PM := PN.out k kl
      rw [e1, e2] at PM
      have PE := Lib.hid PM
      have L1 := Lib.hid (HB.out p (List.mem_of_getElem? hp1))
      have L2 := Lib.hid (HB.out q (List.mem_of_getElem? hq1))
      have HJ1 := Lib.hid hj1
      have BL3 := Lib.hid (P0.out.bel.size)
      have LB := Lib.hid hlb
      subst hKe
      clear PM e1 e2 hp1 hq1 hKe2 kl hj1 hlb2 hlb PN
      go_upto_region 4 with fail
      clear c2
      refine wp_region_ord (StillV R V') (StillV.refl _ _) StillV.trans ((0, false) :: (1, false) :: (2, false) :: (3, false) :: (4, false) :: (5, false) :: (6, false) :: (7, false) :: (8, false) :: (9, false) :: (10, false) :: (11, false) :: (12, true) :: []) (by kernel_rfl) (by kernel_rfl) rfl (by kernel_rfl) (fun _ _ _ _ _ h => h) ?_
      change wpOrd _ _ _ _ _ _ (wr.drewN 1)
      have D1 := drewN_below wr 1
      have BW3 := Lib.hid (Below.step P0.out.bel D1)
      replace P0 := Lib.hid (P0.out.below D1)
      replace NB := Lib.hid (NB.out.below D1 NB.out.lt)
      have KP2 : Hid (∀ o, o < B → o ≠ R → (wr.drewN 1).heap[o]? = u.heap[o]?) := Lib.hid KP.out
      clear D1 KP
      generalize wr.drewN 1 = w3 at *
      have RG1 := Lib.hid (range_below hrg BW3.out LB.out)
      have RG2 := Lib.hid (range_below hrg2 BW3.out LB.out)
      have PI1 : Hid (p.In w3 (.agg (nodeC z (.slice A1 n1 c1) (.slice K1 m1 d1)))) := Lib.hid (T.In.below BW3.out p hpin)
      have PI2 : Hid (q.In w3 (.agg (nodeC z2 (.slice A2 n2 c2') (.slice K2 m2 d2)))) := Lib.hid (T.In.below BW3.out q hqin)
      have EN : Hid (∀ W, StillV R V' w3 W → Blk W g 29 (nodeC t.tag (.slice A n c) (.slice (some ⟨b, off, none⟩) m d))) := Lib.hid (fun W hW => (hW.2 g NB.out.lt (by have := WR.out; have := BL.out; omega) VG.out).trans NB.out)
      have EB : Hid (∀ W, StillV R V' w3 W → W.heap[b]? = w3.heap[b]?) := Lib.hid (fun W hW => hW.2 b (by have := LB.out; have := BW3.out.size; omega) (by have := WR.out; have := LB.out; omega) (fun e => by have := (P0.out.lt2 e).1; have := WR.out; have := LB.out; omega))
      clear hrg hrg2 hpin hqin BL3
      have LV : Hid ((N ++ Y.take k).length + 1 ≤ 100000) := Lib.hid (by rw [List.length_append]; have h1 := PK.out k; have h2 := LN.out; omega)
      have CC := Lib.hid (parse2_any w w3 B R 0 i false V V' S (N ++ Y.take k) p q _ _ P0.out L1.out L2.out PI1.out PI2.out LV.out)
      clear LV PI1 PI2
      repeat (first
        | (refine ord_skip rfl (by rfl) ?_; simp only [Act.put, List.setIfInBounds_toArray, List.set_cons_zero, List.set_cons_succ])
        | (refine ord_take _ rfl (by rfl) (fun W hW => yields_nodes (.tmp 13) rfl g 2 (.slice (some ⟨b, off, none⟩) m d) rfl (Blk.cell (EN.out W hW) 2)) ?_; simp only [Act.put, List.setIfInBounds_toArray, List.set_cons_zero, List.set_cons_succ])
        | (refine ord_take _ rfl (by rfl) (fun W hW => yields_nodes (.tmp 19) rfl g 2 (.slice (some ⟨b, off, none⟩) m d) rfl (Blk.cell (EN.out W hW) 2)) ?_; simp only [Act.put, List.setIfInBounds_toArray, List.set_cons_zero, List.set_cons_succ])
        | (refine ord_take _ rfl (by rfl) (fun W hW => yields_nodeM (.tmp 17) rfl b (off + j1 * 3) z A1 n1 c1 K1 m1 d1 rfl (range_heap RG1.out (EB.out W hW))) ?_; simp only [Act.put, List.setIfInBounds_toArray, List.set_cons_zero, List.set_cons_succ])
        | (refine ord_take _ rfl (by rfl) (fun W hW => yields_nodeM (.tmp 22) rfl b (off + j * 3) z2 A2 n2 c2' K2 m2 d2 rfl (range_heap RG2.out (EB.out W hW))) ?_; simp only [Act.put, List.setIfInBounds_toArray, List.set_cons_zero, List.set_cons_succ])
        | (refine ord_take _ rfl (by rfl) (fun W hW => by go_simp; first | done | rfl) ?_; simp only [Act.put, List.setIfInBounds_toArray, List.set_cons_zero, List.set_cons_succ])
        | (refine ord_sole rfl (by rfl) (fun K1 hK1 => ?_)
           go_simp
           refine CC.out.mono ?_
           rintro e w5 ⟨rfl, V5, hp5, hs5, hn5⟩
           refine hK1 _ _ hs5 ?_
           have N5 := Lib.hid (EN.out w5 hs5)
           have G5 : Hid (V5.ownBlock ≠ some g) := Lib.hid (fun e => hn5.elim (fun h => VG.out (h ▸ e)) (fun ⟨x, h1, h2⟩ => by rw [h1] at e; injection e with e; have := NB.out.lt; omega))
           have K5 : Hid (∀ o, o < B → o ≠ R → w5.heap[o]? = u.heap[o]?) := Lib.hid (fun c hc hr => (hs5.2 c (by have := P0.out.hi; omega) hr (fun e => by have := (P0.out.lt2 e).1; omega)).trans (KP2.out c hc hr))
           have P5 := Lib.hid hp5
           clear hK1 K1 CC hp5 hs5 hn5 P0 NB VG KP2 EN EB RG1 RG2
           try simp only [Act.put, List.setIfInBounds_toArray, List.set_cons_zero, List.set_cons_succ]))
      refine ord_end ?_
      rw [← PE.out] at P5
      clear PE
      go_wp2_with fail
      go_roundw
      case rel => exact ⟨k + 1, j + 2, V5, by go_num, by have := HJ.out; omega, by have := HJ.out; have := hlt; omega, P5.out, N5.out, G5.out, K5.out⟩
      case measure => simp only [intOf]; omega
    · have t0 : decide ((j : Int) < (m : Int)) = false := decide_eq_false (by omega)
      have t0' : decide (j < m) = false := decide_eq_false hlt
      have EY := P2.out k hk (by have := HJ.out; omega)
      rw [EY] at P0
      clear EY
      go_wp2_with fail
      go_end0
      exact ⟨rfl, V', P0.out, KP.out⟩
end Go.Proofs.YtlmndmfebgaidaaGreatDoor
namespace Go.Proofs.YtlmndmfebgaidaaGreatDoor
open Go.RowKit
set_option linter.unusedVariables false
set_option linter.unusedSimpArgs false
set_option maxRecDepth 100000
def parseR (t : T) : ResZ := if t.kids.length = 3 then ⟨t.tag == 5, spansOf false (kidT t 0) ++ spansOf true (kidT t 1), pairsOf rangeOf (kidT t 2)⟩ else ⟨t.tag == 5, [], []⟩
theorem pairs_mem {α : Type} {f : T → T → α} {x : α} : ∀ {l : List T}, x ∈ pairsOf f l → ∃ a b, a ∈ l ∧ b ∈ l ∧ x = f a b
  | [], h => by cases h
  | [a], h => by simp [pairsOf] at h
  | a :: b :: r, h => by
    rw [pairsOf, List.mem_cons] at h
    rcases h with rfl | h
    · exact ⟨a, b, by simp, by simp, rfl⟩
    · obtain ⟨c, d, h1, h2, h3⟩ := pairs_mem h
      exact ⟨c, d, by simp [h1], by simp [h2], h3⟩
def Byte2 (t : T) : Prop := ∀ k, ∀ q ∈ kidT t k, ∀ x ∈ q.body, 0 ≤ x ∧ x ≤ 255
theorem T.In.kid {w : World} {t : T} {v : Value} (h : t.In w v) {k : T} (hk : k ∈ t.kids) : ∃ u, k.In w u := by
  obtain ⟨A, n, c, K, m, d, rfl, _⟩ := h.open
  obtain ⟨i, hi, rfl⟩ := List.mem_iff_getElem.1 hk
  have kin := T.In.kidsIn h
  obtain ⟨p, b, off, z, A', n', c', K', m', d', h1, _, _, _, h5⟩ := kin.2 i (by rw [← kin.1]; exact hi)
  rw [List.getElem?_eq_getElem hi] at h1
  injection h1 with h1
  rw [h1]
  exact ⟨_, h5⟩
theorem kidT_mem {t : T} {k : Nat} {q : T} (h : q ∈ kidT t k) : ∃ p ∈ t.kids, q ∈ p.kids := by
  unfold kidT at h
  cases hk : t.kids[k]? with
  | none =>
    rw [hk] at h
    simp [zeroT, T.kids] at h
  | some p =>
    rw [hk] at h
    exact ⟨p, List.mem_of_getElem? hk, h⟩
theorem T.In.byte2 {w : World} {t : T} {v : Value} (h : t.In w v) : Byte2 t := fun k q hq => by
  obtain ⟨p, hp, hq⟩ := kidT_mem hq
  obtain ⟨u, hu⟩ := h.kid hp
  obtain ⟨u2, hu2⟩ := hu.kid hq
  obtain ⟨A, n, c, K, m, d, _, _, rx, _⟩ := hu2.open
  exact rx.2.1
theorem spansOf_ok {v : Bool} {l : List T} (h : ∀ q ∈ l, ∀ x ∈ q.body, 0 ≤ x ∧ x ≤ 255) : SpansZ (spansOf v l) := fun s hs => by
  obtain ⟨a, b, ha, hb, rfl⟩ := pairs_mem hs
  exact ⟨full_six (h a ha), full_six (h b hb)⟩
theorem parse_ok {t : T} (h : Byte2 t) : ResOk (parseR t) := by
  unfold parseR
  split
  · refine ⟨fun s hs => ?_, fun p hp => ?_⟩
    · rcases List.mem_append.1 hs with hs | hs
      · exact spansOf_ok (h 0) s hs
      · exact spansOf_ok (h 1) s hs
    · obtain ⟨a, b, _, _, rfl⟩ := pairs_mem hp
      exact ⟨num32_lt a, num32_lt b⟩
  · exact ⟨fun s h => (by cases h), fun s h => (by cases h)⟩
theorem parse_read {t : T} (h : Byte2 t) : (if (nodeR (parseR t)).2 = 0 ∧ sameT (nodeR (parseR t)).1 t = true then (parseR t, 0) else (zeroRes, 2)) = readR t := by
  split
  · rename_i c
    have e := same_is _ _ c.2
    have := read_node (parse_ok h) ((node_ok _).1 c.1)
    rw [e] at this
    exact this.symm
  · rename_i c
    unfold readR
    cases ht : takeR t with
    | none => rfl
    | some r =>
      simp only
      split
      · rename_i k
        exfalso
        have e := same_is _ _ k.2
        apply c
        have : parseR t = r := by
          unfold takeR at ht
          have hr := (node_ok r).1 k.1
          have en : (nodeR r).1 = resT r := by unfold nodeR; rw [if_pos hr]
          rw [en] at e
          split at ht
          · rename_i h3
            unfold rangesOf at ht
            split at ht
            · simp only [Option.map_some, Option.some.injEq] at ht
              have hi : r.inh = false := by rw [← ht]
              rw [resT_own hi] at e
              unfold parseR
              rw [if_pos h3, ← ht, show (t.tag == 5) = false by rw [← e]; rfl]
            · cases ht
          · rename_i h3
            simp only [Option.some.injEq] at ht
            unfold parseR
            rw [if_neg h3, ← ht, show (t.tag == 5) = true by rw [← e, ← ht]; rfl]
        rw [this]
        exact k
      · rfl
theorem wt_kid {t k : T} (h : k ∈ t.kids) : wt k ≤ wt t := by
  have := wtAll_mem h
  rw [wt_eq t]
  omega
theorem wtAll_len : ∀ l : List T, (l.length : Int) ≤ wtAll l
  | [] => by rw [wtAll]; simp
  | x :: r => by
    have := wtAll_len r
    have := wt_ge x
    rw [wtAll, List.length_cons]
    omega
theorem wt_len (t : T) : (t.kids.length : Int) ≤ wt t ∧ (t.body.length : Int) ≤ wt t := by
  have h1 := wtAll_len t.kids
  have h2 := wtAll_pos t.kids
  rw [wt_eq t]
  omega
set_option maxHeartbeats 8000000 in
theorem parse13_any (t : T) (x : Value) (w : World) (ht : t.In w x) (hw : wt t < 30000) (hf : Fam w) : Calls Tryz.prog 33 #[x] w (GivesOwn (parseR t) w) := by
  have ht0 := ht
  obtain ⟨A, n, c, K, m, d, rfl, _, _, _, _, hm, hm', _⟩ := ht.open
  change Calls _ _ #[.agg (nodeC t.tag (.slice A n c) (.slice K m d))] w _
  have ws1 : (w.alloc (.cells (nodeC t.tag (.slice A n c) (.slice K m d)) 29)).heap.size = w.heap.size + 1 := by simp
  have ws2 : ((w.alloc (.cells (nodeC t.tag (.slice A n c) (.slice K m d)) 29)).alloc (.cells #[.bool false, .slice none 0 0, .slice none 0 0] 25)).heap.size = w.heap.size + 1 + 1 := by simp
  have K0 := Blk.alloc (Blk.new w 29 (nodeC t.tag (.slice A n c) (.slice K m d))) (.cells #[.bool false, .slice none 0 0, .slice none 0 0] 25)
  have K1 := Blk.new (w.alloc (.cells (nodeC t.tag (.slice A n c) (.slice K m d)) 29)) 25 #[.bool false, .slice none 0 0, .slice none 0 0]
  rw [ws1] at K1
  have bw := Below.step (box_below w (.cells (nodeC t.tag (.slice A n c) (.slice K m d)) 29)) (box_below _ (.cells #[.bool false, .slice none 0 0, .slice none 0 0] 25))
  have BW := Lib.hid bw
  have KI := Lib.hid (T.In.kidsIn ht0)
  have FF := Lib.hid (fun W (hb : Below w.heap.size w W) => hf.below hb)
  have HM := Lib.hid hm
  have WT := Lib.hid hw
  generalize hw2 : (w.alloc (.cells (nodeC t.tag (.slice A n c) (.slice K m d)) 29)).alloc (.cells #[.bool false, .slice none 0 0, .slice none 0 0] 25) = w2 at *
  obtain ⟨g, hg⟩ : ∃ g, w.heap.size = g := ⟨_, rfl⟩
  have HG := Lib.hid hg
  rw [hg] at K0 K1 ws2
  have HS := Lib.hid ws2
  have x0 : w2.cell? ⟨g, 0, none⟩ = some (.int .i64 t.tag) := Blk.cell K0 0
  have NB := Lib.hid K0
  have ZB : Hid (Blk w2 (g + 1) 25 (resC false (.slice none 0 0) (.slice none 0 0))) := Lib.hid K1
  have EP3 : Hid (m = 3 → parseR t = ⟨t.tag == 5, spansOf false (kidT t 0) ++ spansOf true (kidT t 1), pairsOf rangeOf (kidT t 2)⟩) := Lib.hid (fun h => by unfold parseR; rw [if_pos (by rw [hm]; exact h)])
  have EP0 : Hid (¬ m = 3 → parseR t = ⟨t.tag == 5, [], []⟩) := Lib.hid (fun h => by unfold parseR; rw [if_neg (by rw [hm]; exact h)])
  unfold maxLen at hm'
  clear K0 K1 ws1 ws2 bw ht ht0 hm hw hf
  generalize parseR t = rz at *
  go_enter Tryz.func33, Tryz.ntmps33
  go_upto_region 1 with fail
  clear hw2
  generalize hi : (t.tag == 5) = i at *
  go_upto_region 2 with (first
    | (with_reducible refine allocRes_at ?_)
    | ((with_reducible refine storeRes_new 3 9 w2 i none 0 0 none 0 0 ?_ ?_ ?_ ?_); (· rfl); (· rfl); (· rfl)))
  clear x0 hi
  have b3 := boxR_below w2 (.cells (resC i (.slice none 0 0) (.slice none 0 0)) 25)
  have RB := resbox w2 i (.slice none 0 0) (.slice none 0 0)
  have S3 : (w2.alloc (.cells (resC i (.slice none 0 0) (.slice none 0 0)) 25)).heap.size = w2.heap.size + 1 := by simp
  replace NB := Lib.hid (NB.out.below b3 NB.out.lt)
  replace ZB := Lib.hid (ZB.out.below b3 ZB.out.lt)
  replace BW := Lib.hid (Below.step BW.out b3)
  obtain ⟨R, hR⟩ : ∃ R, w2.heap.size = R := ⟨_, rfl⟩
  have HR : Hid (g + 1 < R) := Lib.hid (by have := HS.out; omega)
  rw [hR] at RB S3
  try simp only [hR]
  have P0 : Hid (PSt w (R + 1) R (w2.alloc (.cells (resC i (.slice none 0 0) (.slice none 0 0)) 25)) i (.slice none 0 0) (.slice none 0 0) [] []) := Lib.hid ⟨BW.out, by have := HR.out; have := HG.out; omega, by omega, by omega, RB, World.ownsRow_nil _ _ _ _, fun _ h => absurd h (by simp), World.ownsRow_nil _ _ _ _, fun _ h => absurd h (by simp), fun _ h => by cases h⟩
  generalize w2.alloc (.cells (resC i (.slice none 0 0) (.slice none 0 0)) 25) = w3 at *
  clear RB S3 b3 HS hR
  have x2 : w3.cell? ⟨g, 2, none⟩ = some (.slice K m d) := Blk.cell NB.out 2
  by_cases h3 : m = 3
  rotate_left
  · have e := EP0.out h3
    subst e
    have t3 : ((m : Int) != 3) = true := by simp; omega
    clear EP0 EP3 KI
    go_wp2_with (first
      | (refine load_res_any (by rfl) (.tmp 3) rfl R rfl P0.out.box ?_)
      | ((with_reducible refine store_res_at 2 14 (g + 1) i none 0 0 none 0 0 false (.slice none 0 0) (.slice none 0 0) ?_ ?_ ZB.out ?_); (· rfl); (· rfl)))
    exact bodyPost_ret (results_cell_row rfl _ _ (g + 1) 25 (resC i (.slice none 0 0) (.slice none 0 0)) (0, 0) _ rfl (setRow_heap _ _ _ _ 25 _ ZB.out) Tryz.underlying25 rfl (Tryz.sizeRes _ _ _)) rfl ⟨none, 0, 0, none, 0, 0, rfl, ⟨SpArg.nilS _, fun h => absurd h (by decide)⟩, ⟨⟨RgRow.nil _ _, fun _ => ⟨rfl, rfl⟩⟩, fun h => absurd h (by decide)⟩, below_setRow BW.out (by have := HG.out; omega) _⟩
  subst h3
  have e := EP3.out rfl
  have t3 : (((3 : Nat) : Int) != 3) = false := by decide
  obtain ⟨p0, b, off, z0, A0, n0, c0, L0, m0, d0, hp0, hKe, hlb, hr0, hi0⟩ := KI.out.2 0 (by decide)
  obtain ⟨p1, b1, off1, z1, A1, n1, c1, L1, m1, d1, hp1, hKe1, hlb1, hr1, hi1⟩ := KI.out.2 1 (by decide)
  obtain ⟨p2, b2, off2, z2, A2, n2, c2, L2, m2, d2, hp2, hKe2, hlb2, hr2, hi2⟩ := KI.out.2 2 (by decide)
  rw [hKe] at hKe1 hKe2
  obtain ⟨rfl, rfl⟩ : b = b1 ∧ off = off1 := by simpa using hKe1
  obtain ⟨rfl, rfl⟩ : b = b2 ∧ off = off2 := by simpa using hKe2
  have k0 : kidT t 0 = p0.kids := by unfold kidT; rw [hp0]; rfl
  have k1 : kidT t 1 = p1.kids := by unfold kidT; rw [hp1]; rfl
  have k2 : kidT t 2 = p2.kids := by unfold kidT; rw [hp2]; rfl
  have l0 : p0.kids.length ≤ 30000 := by have h1 := wt_kid (List.mem_of_getElem? hp0); have h2 := (wt_len p0).1; have h3 := WT.out; omega
  have l1 : p1.kids.length ≤ 30000 := by have h1 := wt_kid (List.mem_of_getElem? hp1); have h2 := (wt_len p1).1; have h3 := WT.out; omega
  have l2 : p2.kids.length ≤ 30000 := by have h1 := wt_kid (List.mem_of_getElem? hp2); have h2 := (wt_len p2).1; have h3 := WT.out; omega
  have lb : ∀ q ∈ p2.kids, q.body.length ≤ 1000000 := fun q hq => by have h1 := wt_kid (List.mem_of_getElem? hp2); have h2 := wt_kid hq; have h3 := (wt_len q).2; have h4 := WT.out; omega
  have y0 : (spansOf false p0.kids).length ≤ 15000 := by unfold spansOf; rw [pairs_len]; omega
  rw [k0, k1, k2] at e
  have ER := Lib.hid e
  clear e
  have C0 := Lib.hid (fun F u V (h : PSt w (R + 1) R u i V (.slice none 0 0) [] []) (hF : Blk u F 58 (famV false)) (hFR : F ≠ R) (hFV : V.ownBlock ≠ some F) => visit1_any w u (R + 1) R F i false V (.slice none 0 0) [] [] p0 _ h hF hFR hFV hi0 (by simp; omega))
  have C1 := Lib.hid (fun F u V (h : PSt w (R + 1) R u i V (.slice none 0 0) (spansOf false p0.kids) []) (hF : Blk u F 58 (famV true)) (hFR : F ≠ R) (hFV : V.ownBlock ≠ some F) => visit1_any w u (R + 1) R F i true V (.slice none 0 0) (spansOf false p0.kids) [] p1 _ h hF hFR hFV hi1 (by omega))
  have C2 := Lib.hid (fun u V (h : PSt w (R + 1) R u i V (.slice none 0 0) (spansOf false p0.kids ++ spansOf true p1.kids) []) => visit2_any w u (R + 1) R 0 i false V (.slice none 0 0) (spansOf false p0.kids ++ spansOf true p1.kids) [] p2 _ h lb hi2 (by simp; omega))
  change Hid (∀ F u V, PSt w (R + 1) R u i V (.slice none 0 0) [] [] → Blk u F 58 (famV false) → F ≠ R → V.ownBlock ≠ some F → Calls _ _ _ _ (fun e u' => e = .returned (.tuple #[]) ∧ ∃ V', PSt w (R + 1) R u' i V' (.slice none 0 0) ([] ++ spansOf false p0.kids) [] ∧ (∀ o, o < R + 1 → o ≠ R → u'.heap[o]? = u.heap[o]?))) at C0
  change Hid (∀ F u V, PSt w (R + 1) R u i V (.slice none 0 0) (spansOf false p0.kids) [] → Blk u F 58 (famV true) → F ≠ R → V.ownBlock ≠ some F → Calls _ _ _ _ (fun e u' => e = .returned (.tuple #[]) ∧ ∃ V', PSt w (R + 1) R u' i V' (.slice none 0 0) (spansOf false p0.kids ++ spansOf true p1.kids) [] ∧ (∀ o, o < R + 1 → o ≠ R → u'.heap[o]? = u.heap[o]?))) at C1
  have G0 := Lib.hid (fun W (hb : Below w.heap.size w W) => range_below hr0 hb hlb)
  have G1 := Lib.hid (fun W (hb : Below w.heap.size w W) => range_below hr1 hb hlb)
  have G2 := Lib.hid (fun W (hb : Below w.heap.size w W) => range_below hr2 hb hlb)
  subst hKe
  clear EP0 EP3 KI hp0 hp1 hp2 hKe1 hKe2 hlb hlb1 hlb2 hr0 hr1 hr2 hi0 hi1 hi2 k0 k1 k2 l0 l1 l2 lb y0 WT HM
  generalize spansOf false p0.kids = Y0 at *
  generalize spansOf true p1.kids = Y1 at *
  generalize pairsOf rangeOf p2.kids = Y2 at *
  obtain ⟨_, tt, fr, hF⟩ := FF.out _ BW.out
  have HF := Lib.hid hF
  clear hF FF
  go_wp2_with (refine wpList_load_row rfl 59 (.global 0) rfl 0 rfl tt #[.bool false, .int .i64 4, .bool true, .int .i64 16] fr _ HF.out Tryz.underlying59 rfl Tryz.sizeFam2 ?_)
  clear HF x2 BW
  go_loopw [16] (fun iV wr => ∃ (k : Nat) (V : Value), iV = .int .i64 (k : Int) ∧ k ≤ 2 ∧ PSt w (R + 1) R wr i V (.slice none 0 0) (if k = 0 then [] else if k = 1 then Y0 else Y0 ++ Y1) [] ∧ Blk wr g 29 (nodeC t.tag (.slice A n c) (.slice (some ⟨b, off, none⟩) 3 d)) ∧ Blk wr (g + 1) 25 (resC false (.slice none 0 0) (.slice none 0 0))) (fun iV _ => ((2 : Int) - intOf iV).toNat)
  case atStart => exact ⟨0, _, rfl, Nat.zero_le _, P0.out, NB.out, ZB.out⟩
  case round =>
    obtain ⟨k, V, rfl, hk, hp, hnb, hzb⟩ := hrel
    clear P0 NB ZB
    have P0 := Lib.hid hp
    have NB := Lib.hid hnb
    have ZB := Lib.hid hzb
    clear hp hnb hzb
    rcases k with _ | _ | _ | k
    · have t0 : decide (((0 : Nat) : Int) < 2) = true := by decide
      have kI : IntKind.i64.wrap (((0 : Nat) : Int) + 1) = ((0 : Nat) : Int) + 1 := by decide
      have VL := Lib.hid (fun b (e : V.ownBlock = some b) => (P0.out.lt1 e).2)
      have RL := Lib.hid P0.out.box.lt
      have x2 : ∀ o, (wr.alloc o).cell? ⟨g, 2, none⟩ = some (.slice (some ⟨b, off, none⟩) 3 d) := fun o => Blk.cell (NB.out.alloc o) 2
      go_wp2_with (first
      | ((with_reducible refine indexFam_at false 15 16 ?_ ?_ ?_); (· rfl); (· rfl))
      | (with_reducible refine allocFam_at ?_)
      | ((with_reducible refine storeFam_new 5 19 wr false ?_ ?_ ?_ ?_)
         (· rfl)
         (· rfl)
         (· rfl)
         have hb4 := boxR_below wr (.cells (famV false) 58)
         have FB : Hid (Blk (wr.alloc (.cells (famV false) 58)) wr.heap.size 58 (famV false)) := Lib.hid (Blk.new wr 58 (famV false))
         replace P0 := Lib.hid (P0.out.below hb4)
         replace NB := Lib.hid (NB.out.below hb4 NB.out.lt)
         replace ZB := Lib.hid (ZB.out.below hb4 ZB.out.lt)
         have RG := Lib.hid (G0.out _ P0.out.bel)
         have x2b := x2 (.cells (famV false) 58)
         clear hb4 x2
         generalize wr.alloc (.cells (famV false) 58) = w4 at *
         generalize wr.heap.size = h4 at *)
      | ((with_reducible refine load_nodeM_at 23 b (off + 0 * 3) z0 A0 n0 c0 L0 m0 d0 ?_ RG.out ?_); (· rfl))
      | (go_at_call 57
         refine (C0.out h4 w4 V P0.out FB.out (by have := RL.out; omega) (fun e => by have := VL.out h4 e; omega)).mono ?_
         rintro e w5 ⟨rfl, V5, hp5, hk5⟩
         have P5 := Lib.hid hp5
         have N5 := Lib.hid (show Blk w5 g 29 _ from (hk5 g (by have := HR.out; omega) (by have := HR.out; omega)).trans NB.out)
         have Z5 := Lib.hid (show Blk w5 (g + 1) 25 _ from (hk5 (g + 1) (by have := HR.out; omega) (by have := HR.out; omega)).trans ZB.out)
         clear hp5 hk5 P0 NB ZB FB))
      go_roundw
      case rel => exact ⟨1, V5, by go_num, by decide, P5.out, N5.out, Z5.out⟩
      case measure => decide
    · have t0 : decide (((1 : Nat) : Int) < 2) = true := by decide
      have kI : IntKind.i64.wrap (((1 : Nat) : Int) + 1) = ((1 : Nat) : Int) + 1 := by decide
      have VL := Lib.hid (fun b (e : V.ownBlock = some b) => (P0.out.lt1 e).2)
      have RL := Lib.hid P0.out.box.lt
      have x2 : ∀ o, (wr.alloc o).cell? ⟨g, 2, none⟩ = some (.slice (some ⟨b, off, none⟩) 3 d) := fun o => Blk.cell (NB.out.alloc o) 2
      go_wp2_with (first
      | ((with_reducible refine indexFam_at true 15 16 ?_ ?_ ?_); (· rfl); (· rfl))
      | (with_reducible refine allocFam_at ?_)
      | ((with_reducible refine storeFam_new 5 19 wr true ?_ ?_ ?_ ?_)
         (· rfl)
         (· rfl)
         (· rfl)
         have hb4 := boxR_below wr (.cells (famV true) 58)
         have FB : Hid (Blk (wr.alloc (.cells (famV true) 58)) wr.heap.size 58 (famV true)) := Lib.hid (Blk.new wr 58 (famV true))
         replace P0 := Lib.hid (P0.out.below hb4)
         replace NB := Lib.hid (NB.out.below hb4 NB.out.lt)
         replace ZB := Lib.hid (ZB.out.below hb4 ZB.out.lt)
         have RG := Lib.hid (G1.out _ P0.out.bel)
         have x2b := x2 (.cells (famV true) 58)
         clear hb4 x2
         generalize wr.alloc (.cells (famV true) 58) = w4 at *
         generalize wr.heap.size = h4 at *)
      | ((with_reducible refine load_nodeM_at 23 b (off + 1 * 3) z1 A1 n1 c1 L1 m1 d1 ?_ RG.out ?_); (· rfl))
      | (go_at_call 57
         refine (C1.out h4 w4 V P0.out FB.out (by have := RL.out; omega) (fun e => by have := VL.out h4 e; omega)).mono ?_
         rintro e w5 ⟨rfl, V5, hp5, hk5⟩
         have P5 := Lib.hid hp5
         have N5 := Lib.hid (show Blk w5 g 29 _ from (hk5 g (by have := HR.out; omega) (by have := HR.out; omega)).trans NB.out)
         have Z5 := Lib.hid (show Blk w5 (g + 1) 25 _ from (hk5 (g + 1) (by have := HR.out; omega) (by have := HR.out; omega)).trans ZB.out)
         clear hp5 hk5 P0 NB ZB FB))
      go_roundw
      case rel => exact ⟨2, V5, by go_num, by decide, P5.out, N5.out, Z5.out⟩
      case measure => decide
    · have t0 : decide (((2 : Nat) : Int) < 2) = false := by decide
      have x2 : wr.cell? ⟨g, 2, none⟩ = some (.slice (some ⟨b, off, none⟩) 3 d) := Blk.cell NB.out 2
      have RG := Lib.hid (G2.out _ P0.out.bel)
      replace P0 : Hid (PSt w (R + 1) R wr i V (.slice none 0 0) (Y0 ++ Y1) []) := Lib.hid P0.out
      go_upto_region 10 with (first
      | ((with_reducible refine load_nodeM_at 30 b (off + 2 * 3) z2 A2 n2 c2 L2 m2 d2 ?_ RG.out ?_); (· rfl))
      | (go_at_call 57
         refine (C2.out wr V P0.out).mono ?_
         rintro e w5 ⟨rfl, V5, hp5, hk5⟩
         have P5 := Lib.hid hp5
         have Z5 := Lib.hid (show Blk w5 (g + 1) 25 _ from (hk5 (g + 1) (by have := HR.out; omega) (by have := HR.out; omega)).trans ZB.out)
         clear hp5 hk5 P0 NB ZB C2 RG x2))
      rw [List.nil_append] at P5
      obtain ⟨a6, c6, rfl, hf1⟩ := P5.out.form1
      obtain ⟨a7, c7, rfl, hf2⟩ := P5.out.form2
      have F1 := Lib.hid hf1
      have F2 := Lib.hid hf2
      clear hf1 hf2
      have e1 : Hid ((Y0 ++ Y1).length = (Y0 ++ Y1).length) := Lib.hid rfl
      clear e1
      generalize hq1 : (Y0 ++ Y1).length = q1 at *
      generalize hq2 : Y2.length = q2 at *
      clear hq1 hq2
      go_wp2_with (first
        | (refine load_res_any (by rfl) (.tmp 3) rfl R rfl P5.out.box ?_)
        | ((with_reducible refine store_res_at 2 34 (g + 1) i a6 q1 c6 a7 q2 c7 false (.slice none 0 0) (.slice none 0 0) ?_ ?_ Z5.out ?_); (· rfl); (· rfl)))
      have e := ER.out
      subst e
      have ov := Over.rowS (B := R + 1) (g := g + 1) w5 (resC i (.slice a6 q1 c6) (.slice a7 q2 c7)) (by have := HR.out; omega)
      exact bodyPost_ret (results_cell_row rfl _ _ (g + 1) 25 (resC i (.slice a6 q1 c6) (.slice a7 q2 c7)) (0, 0) _ rfl (setRow_heap _ _ _ _ 25 _ Z5.out) Tryz.underlying25 rfl (Tryz.sizeRes _ _ _)) rfl ⟨_, _, _, _, _, _, rfl, (F1.out.over ov).mono (by have := HR.out; have := HG.out; omega), (F2.out.over ov).mono (by have := HR.out; have := HG.out; omega), below_setRow P5.out.bel (by have := HG.out; omega) _⟩
    · omega
end Go.Proofs.YtlmndmfebgaidaaGreatDoor
namespace Go.Proofs.YtlmndmfebgaidaaGreatDoor
open Go.RowKit
set_option linter.unusedVariables false
set_option linter.unusedSimpArgs false
set_option maxRecDepth 100000
theorem kidT_len {t : T} (hw : wt t < 30000) (k : Nat) : (kidT t k).length ≤ 30000 := by
  unfold kidT
  cases hk : t.kids[k]? with
  | none => simp [zeroT, T.kids]
  | some p =>
    have h1 := wt_kid (List.mem_of_getElem? hk)
    have h2 := (wt_len p).1
    show p.kids.length ≤ 30000
    omega
theorem parse_len {t : T} (hw : wt t < 30000) : (parseR t).sp.length ≤ 40000 ∧ (parseR t).ns.length ≤ 40000 := by
  unfold parseR
  split
  · have h0 := kidT_len hw 0
    have h1 := kidT_len hw 1
    have h2 := kidT_len hw 2
    simp only [List.length_append]
    unfold spansOf
    rw [pairs_len, pairs_len, pairs_len]
    omega
  · exact ⟨Nat.zero_le _, Nat.zero_le _⟩
set_option maxHeartbeats 8000000 in
theorem read13_any (t : T) (x : Value) (w : World) (ht : t.In w x) (hw : wt t < 30000) (hf : Fam w) : Calls Tryz.prog 14 #[x] w (GivesRes (readR t) w) := by
  have ht0 := ht
  have b2 := ht.byte2
  obtain ⟨A, n, c, K, m, d, rfl, _, _, _, _, hm, hm', _⟩ := ht.open
  change Calls _ _ #[.agg (nodeC t.tag (.slice A n c) (.slice K m d))] w _
  have ws1 : (w.alloc (.cells (nodeC t.tag (.slice A n c) (.slice K m d)) 29)).heap.size = w.heap.size + 1 := by simp
  have ws2 : ((w.alloc (.cells (nodeC t.tag (.slice A n c) (.slice K m d)) 29)).alloc (.cells #[.bool false, .slice none 0 0, .slice none 0 0] 25)).heap.size = w.heap.size + 1 + 1 := by simp
  have K0 := Blk.alloc (Blk.new w 29 (nodeC t.tag (.slice A n c) (.slice K m d))) (.cells #[.bool false, .slice none 0 0, .slice none 0 0] 25)
  have K1 := Blk.new (w.alloc (.cells (nodeC t.tag (.slice A n c) (.slice K m d)) 29)) 25 #[.bool false, .slice none 0 0, .slice none 0 0]
  rw [ws1] at K1
  have bw := Below.step (box_below w (.cells (nodeC t.tag (.slice A n c) (.slice K m d)) 29)) (box_below _ (.cells #[.bool false, .slice none 0 0, .slice none 0 0] 25))
  have PL := parse_len hw
  have CP := Lib.hid (parse13_any t (.agg (nodeC t.tag (.slice A n c) (.slice K m d))) _ (T.In.below bw t ht0) hw (hf.below bw))
  have CN := Lib.hid (fun W v (h : ResAt W v (parseR t)) (hb : Below w.heap.size w W) => node13_any (parseR t) v W h PL.1 PL.2 (hf.below hb))
  have CE := Lib.hid (fun W v (h : (nodeR (parseR t)).1.In W v) (hb : Below w.heap.size w W) => equal13_any (nodeR (parseR t)).1 t v (.agg (nodeC t.tag (.slice A n c) (.slice K m d))) W h (T.In.below hb t ht0))
  have BW := Lib.hid bw
  have ER := Lib.hid (parse_read b2)
  have AZ := Lib.hid (ResAt.zero w)
  generalize hw2 : (w.alloc (.cells (nodeC t.tag (.slice A n c) (.slice K m d)) 29)).alloc (.cells #[.bool false, .slice none 0 0, .slice none 0 0] 25) = w2 at *
  obtain ⟨g, hg⟩ : ∃ g, w.heap.size = g := ⟨_, rfl⟩
  rw [hg] at K0 K1 ws2
  have HG := Lib.hid hg
  have HS := Lib.hid ws2
  have NB := Lib.hid K0
  have ZB : Hid (Blk w2 (g + 1) 25 (resC false (.slice none 0 0) (.slice none 0 0))) := Lib.hid K1
  clear K0 K1 ws1 ws2 bw b2 ht ht0 hm hm' hw hf PL
  generalize readR t = rz at *
  generalize parseR t = pr at *
  generalize hq : nodeR pr = q at *
  clear hq
  obtain ⟨qt, qe⟩ := q
  simp only at CE ER
  go_enter Tryz.func14, Tryz.ntmps14
  go_upto_region 1 with fail
  clear hw2
  go_upto_region 3 with (first
    | (refine load_node_any (by rfl) (.tmp 1) rfl g rfl NB.out ?_)
    | (go_at_call 33
       refine CP.out.mono ?_
       rintro e w3 ⟨a1, n1, c1, a2, n2, c2, rfl, hs1, hs2, hb3⟩
       replace BW := Lib.hid (Below.step BW.out hb3)
       have F1 := Lib.hid (hs1.mono (Nat.le_of_eq HS.out.symm))
       have F2 := Lib.hid (hs2.mono (Nat.le_of_eq HS.out.symm))
       have AT : Hid (ResAt w3 (.agg (resC pr.inh (.slice a1 n1 c1) (.slice a2 n2 c2))) pr) := Lib.hid ⟨_, _, _, _, _, _, rfl, hs1.1, hs2.1⟩
       replace NB := Lib.hid (NB.out.below hb3 NB.out.lt)
       replace ZB := Lib.hid (ZB.out.below hb3 ZB.out.lt)
       clear hs1 hs2 hb3 CP)
    | (with_reducible refine allocRes_at ?_)
    | ((with_reducible refine storeRes_new 4 8 w3 pr.inh a1 n1 c1 a2 n2 c2 ?_ ?_ ?_ ?_)
       (· rfl)
       (· rfl)
       (· rfl)
       have hb4 := boxR_below w3 (.cells (resC pr.inh (.slice a1 n1 c1) (.slice a2 n2 c2)) 25)
       have RB := Lib.hid (resbox w3 pr.inh (.slice a1 n1 c1) (.slice a2 n2 c2))
       replace BW := Lib.hid (Below.step BW.out hb4)
       replace F1 := Lib.hid (F1.out.over (Over.below hb4))
       replace F2 := Lib.hid (F2.out.over (Over.below hb4))
       replace AT := Lib.hid (AT.out.below hb4)
       replace NB := Lib.hid (NB.out.below hb4 NB.out.lt)
       replace ZB := Lib.hid (ZB.out.below hb4 ZB.out.lt)
       clear hb4
       generalize w3.alloc (.cells (resC pr.inh (.slice a1 n1 c1) (.slice a2 n2 c2)) 25) = w4 at *
       generalize w3.heap.size = h4 at *)
    | (refine load_res_any (by rfl) (.tmp 4) rfl h4 rfl RB.out ?_)
    | (go_at_call 11
       refine (CN.out _ _ AT.out BW.out).mono ?_
       rintro e w5 ⟨p5, m5, k5, o5, j5, d5, rfl, hin5, hb5⟩
       have I5 : Hid (qt.In w5 (.agg (nodeC qt.tag (.slice p5 m5 k5) (.slice o5 j5 d5)))) := Lib.hid hin5
       replace BW := Lib.hid (Below.step BW.out hb5)
       replace F1 := Lib.hid (F1.out.over (Over.below hb5))
       replace F2 := Lib.hid (F2.out.over (Over.below hb5))
       replace NB := Lib.hid (NB.out.below hb5 NB.out.lt)
       replace ZB := Lib.hid (ZB.out.below hb5 ZB.out.lt)
       replace RB := Lib.hid (RB.out.below hb5 RB.out.lt)
       clear hin5 hb5 CN AT)
    | (with_reducible refine allocNode_at ?_)
    | ((with_reducible refine storeNode_new 5 12 w5 qt.tag p5 m5 k5 o5 j5 d5 ?_ ?_ ?_ ?_)
       (· rfl)
       (· rfl)
       (· rfl)
       have hb6 := boxR_below w5 (.cells (nodeC qt.tag (.slice p5 m5 k5) (.slice o5 j5 d5)) 29)
       have QB := Lib.hid (nodebox w5 qt.tag (.slice p5 m5 k5) (.slice o5 j5 d5))
       replace I5 := Lib.hid (T.In.below hb6 qt I5.out)
       replace BW := Lib.hid (Below.step BW.out hb6)
       replace F1 := Lib.hid (F1.out.over (Over.below hb6))
       replace F2 := Lib.hid (F2.out.over (Over.below hb6))
       replace NB := Lib.hid (NB.out.below hb6 NB.out.lt)
       replace ZB := Lib.hid (ZB.out.below hb6 ZB.out.lt)
       replace RB := Lib.hid (RB.out.below hb6 RB.out.lt)
       clear hb6
       generalize w5.alloc (.cells (nodeC qt.tag (.slice p5 m5 k5) (.slice o5 j5 d5)) 29) = w6 at *
       generalize w5.heap.size = h6 at *))
  have HB : Hid (g + 1 < g + 1 + 1) := Lib.hid (by omega)
  by_cases hqe : qe = 0
  rotate_left
  · have e : rz = (zeroRes, 2) := by rw [← ER.out, if_neg (fun h => hqe h.1)]
    subst e
    have t1 : (qe != 0) = true := by simpa using hqe
    have t2 : (qe == 0) = false := by simpa using hqe
    clear ER CE hqe I5
    go_wp2_with ((with_reducible refine store_res_at 2 22 (g + 1) false none 0 0 none 0 0 false (.slice none 0 0) (.slice none 0 0) ?_ ?_ ZB.out ?_); (· rfl); (· rfl))
    exact GivesRes.row (p := 2) (u := 3) (er := 2) rfl rfl rfl rfl ZB.out AZ.out BW.out (by have := HG.out; omega)
  subst hqe
  have C7 := Lib.hid (CE.out _ _ I5.out BW.out)
  clear CE I5
  cases hsm : sameT qt t with
  | false =>
    rw [hsm] at C7
    have e : rz = (zeroRes, 2) := by rw [← ER.out, if_neg (fun h => by rw [hsm] at h; cases h.2)]
    subst e
    clear ER hsm
    go_wp2_with (first
      | (refine load_node_any (by rfl) (.tmp 5) rfl h6 rfl QB.out ?_)
      | (refine load_node_any (by rfl) (.tmp 1) rfl g rfl NB.out ?_)
      | (go_at_call 34
         refine C7.out.mono ?_
         rintro e w7 ⟨rfl, hb7⟩
         replace BW := Lib.hid (Below.step BW.out hb7)
         replace F1 := Lib.hid (F1.out.over (Over.below hb7))
         replace F2 := Lib.hid (F2.out.over (Over.below hb7))
         replace ZB := Lib.hid (ZB.out.below hb7 ZB.out.lt)
         replace RB := Lib.hid (RB.out.below hb7 RB.out.lt)
         clear hb7 C7)
      | ((with_reducible refine store_res_at 2 22 (g + 1) false none 0 0 none 0 0 false (.slice none 0 0) (.slice none 0 0) ?_ ?_ ZB.out ?_); (· rfl); (· rfl)))
    exact GivesRes.row (p := 2) (u := 3) (er := 2) rfl rfl rfl rfl ZB.out AZ.out BW.out (by have := HG.out; omega)
  | true =>
    rw [hsm] at C7
    have e : rz = (pr, 0) := by rw [← ER.out, if_pos ⟨rfl, hsm⟩]
    subst e
    clear ER hsm
    go_wp2_with (first
      | (refine load_node_any (by rfl) (.tmp 5) rfl h6 rfl QB.out ?_)
      | (refine load_node_any (by rfl) (.tmp 1) rfl g rfl NB.out ?_)
      | (go_at_call 34
         refine C7.out.mono ?_
         rintro e w7 ⟨rfl, hb7⟩
         replace BW := Lib.hid (Below.step BW.out hb7)
         replace F1 := Lib.hid (F1.out.over (Over.below hb7))
         replace F2 := Lib.hid (F2.out.over (Over.below hb7))
         replace ZB := Lib.hid (ZB.out.below hb7 ZB.out.lt)
         replace RB := Lib.hid (RB.out.below hb7 RB.out.lt)
         clear hb7 C7)
      | (refine load_res_any (by rfl) (.tmp 4) rfl h4 rfl RB.out ?_)
      | ((with_reducible refine store_res_at 2 23 (g + 1) pr.inh a1 n1 c1 a2 n2 c2 false (.slice none 0 0) (.slice none 0 0) ?_ ?_ ZB.out ?_); (· rfl); (· rfl)))
    exact GivesRes.row2 (x := (pr, 0)) (p := 2) (u := 3) (er := 0) rfl rfl rfl rfl rfl ZB.out F1.out F2.out HB.out BW.out (by have := HG.out; omega)
end Go.Proofs.YtlmndmfebgaidaaGreatDoor
namespace Go.Proofs.YtlmndmfebgaidaaGreatDoor
open Go.RowKit
theorem pkRight13 : PkRight13 := fun r v W h hl hm => right13_any r v W h (by omega) (by omega)
theorem pkNode13 : PkNode13 := fun r v W h hl hm hf => node13_any r v W h (by omega) (by omega) hf
theorem pkRead13 : PkRead13 := fun t v W h hw _ _ hf => read13_any t v W h hw hf
theorem pkResolve13 : PkResolve13 := fun x y u v W h k lx ly => resolve13_any x y u v W h k (by omega) (by omega)
theorem pkUp13 : PkUp13 := up13_any pkNode13 pkRead13 pkResolve13
end Go.Proofs.YtlmndmfebgaidaaGreatDoor
namespace Go.Proofs.YtlmndmfebgaidaaGreatDoor
open Go.RowKit
inductive Plan3 where
  | fin
  | take (i : Nat) (p : Plan3)
  | sole (i : Nat) (p : Plan3)
  | fork (i : Nat) (p : Plan3) (j : Nat) (q : Plan3)
  | fork3 (i : Nat) (p : Plan3) (j : Nat) (q : Plan3) (k : Nat) (r : Plan3)
def Plan3.len : Plan3 → Nat
  | .fin => 0
  | .take _ p => p.len + 1
  | .sole _ p => p.len + 1
  | .fork _ p _ _ => p.len + 1
  | .fork3 _ p _ _ _ _ => p.len + 1
section
variable {P : Program} {ops : Array Oper} {Q : Exit → Act → World → Prop} {R : World → World → Prop}
def wpPlan3 (P : Program) (l : List Oper) (R : World → World → Prop) (Q : Exit → Act → World → Prop) : Plan3 → Act → World → Prop
  | .fin, a, w => Q .normal a w
  | .take i p, a, w => ∃ o, l[i]? = some o ∧
    ((Region.wanted o (yielded l.toArray a.tmps) = false ∧ wpPlan3 P l R Q p (a.put o.dst undef) w) ∨
     (Region.wanted o (yielded l.toArray a.tmps) = true ∧ ∃ v, (∀ W, R w W → (execOp a.eval o).run P W = .ok (.value v) W) ∧ wpPlan3 P l R Q p (a.put o.dst v) w))
  | .sole i p, a, w => wpSole P l R Q i (wpPlan3 P l R Q p) a w
  | .fork i p j q, a, w => wpSole P l R Q i (wpPlan3 P l R Q p) a w ∧ wpSole P l R Q j (wpPlan3 P l R Q q) a w
  | .fork3 i p j q k r, a, w => wpSole P l R Q i (wpPlan3 P l R Q p) a w ∧ wpSole P l R Q j (wpPlan3 P l R Q q) a w ∧ wpSole P l R Q k (wpPlan3 P l R Q r) a w
def planB3 (l : List Oper) : Plan3 → Array Bool → Bool
  | .fin, listed => (Region.ready .any l.toArray listed).isEmpty
  | .take i p, listed => ((Region.ready .any l.toArray listed).contains i && Region.free .any l.toArray listed i) && planB3 l p (listed.setIfInBounds i true)
  | .sole i p, listed => (Region.ready .any l.toArray listed == [i]) && planB3 l p (listed.setIfInBounds i true)
  | .fork i p j q, listed => ((Region.ready .any l.toArray listed == [i, j]) && (p.len == q.len)) && (planB3 l p (listed.setIfInBounds i true) && planB3 l q (listed.setIfInBounds j true))
  | .fork3 i p j q k r, listed => ((Region.ready .any l.toArray listed == [i, j, k]) && ((p.len == q.len) && (p.len == r.len))) && (planB3 l p (listed.setIfInBounds i true) && (planB3 l q (listed.setIfInBounds j true) && planB3 l r (listed.setIfInBounds k true)))
theorem held_of_plan3 {l : List Oper} (hrefl : ∀ w, R w w) (htrans : ∀ a b c, R a b → R b c → R a c) (hs : Region.noSelect l.toArray = true) (hQ : ∀ d v c a w, Q (.panic c) (a.put d v) w → Q (.panic c) a w) :
    ∀ (p : Plan3) (listed : Array Bool) (a : Act) (w : World), planB3 l p listed = true → wpPlan3 P l R Q p a w → wpAnyH P .any l.toArray Q (R w) p.len listed a w
  | .fin, listed, a, w, hB, h => by
    have : Region.ready .any l.toArray listed = [] := by simpa [planB3] using hB
    exact wpAnyH_done this h _
  | .take i p, listed, a, w, hB, h => by
    obtain ⟨o, ho, h⟩ := h
    have hi : l.toArray[i]? = some o := by simpa using ho
    rw [planB3, Bool.and_eq_true, Bool.and_eq_true] at hB
    obtain ⟨⟨h1, h2⟩, hB'⟩ := hB
    rcases h with ⟨hw, h⟩ | ⟨hw, v, hv, h⟩
    · exact wpAnyH_take hi hs h2 h1 (hQ _ _) (.inr ⟨hw, rfl⟩) (hrefl w) (held_of_plan3 hrefl htrans hs hQ p _ _ _ hB' h)
    · exact wpAnyH_take hi hs h2 h1 (hQ _ _) (.inl ⟨hw, hv⟩) (hrefl w) (held_of_plan3 hrefl htrans hs hQ p _ _ _ hB' h)
  | .sole i p, listed, a, w, hB, h => by
    rw [planB3, Bool.and_eq_true] at hB
    have hr : Region.ready .any l.toArray listed = [i] := by simpa using hB.1
    refine wpAnyH_all hr (by simp) (fun j hj => ?_)
    obtain rfl : j = i := by simpa using hj
    exact held_sole hrefl htrans (fun a' w' h' => held_of_plan3 hrefl htrans hs hQ p _ a' w' hB.2 h') h
  | .fork i p j q, listed, a, w, hB, h => by
    rw [planB3, Bool.and_eq_true, Bool.and_eq_true, Bool.and_eq_true] at hB
    obtain ⟨⟨h1, h2⟩, h3, h4⟩ := hB
    have hr : Region.ready .any l.toArray listed = [i, j] := by simpa using h1
    have hl : p.len = q.len := by simpa using h2
    refine wpAnyH_all hr (by simp) (fun x hx => ?_)
    have hx' : x = i ∨ x = j := by simpa using hx
    rcases hx' with rfl | rfl
    · exact held_sole hrefl htrans (fun a' w' h' => held_of_plan3 hrefl htrans hs hQ p _ a' w' h3 h') h.1
    · have := held_sole (fuel := q.len) (listed := listed) hrefl htrans (fun a' w' h' => held_of_plan3 hrefl htrans hs hQ q _ a' w' h4 h') h.2
      rw [← hl] at this
      exact this
  | .fork3 i p j q k r, listed, a, w, hB, h => by
    rw [planB3, Bool.and_eq_true, Bool.and_eq_true, Bool.and_eq_true, Bool.and_eq_true, Bool.and_eq_true] at hB
    obtain ⟨⟨h1, h2, h2'⟩, h3, h4, h5⟩ := hB
    have hr : Region.ready .any l.toArray listed = [i, j, k] := by simpa using h1
    have hl : p.len = q.len := by simpa using h2
    have hl' : p.len = r.len := by simpa using h2'
    refine wpAnyH_all hr (by simp) (fun x hx => ?_)
    have hx' : x = i ∨ x = j ∨ x = k := by simpa using hx
    rcases hx' with rfl | rfl | rfl
    · exact held_sole hrefl htrans (fun a' w' h' => held_of_plan3 hrefl htrans hs hQ p _ a' w' h3 h') h.1
    · have := held_sole (fuel := q.len) (listed := listed) hrefl htrans (fun a' w' h' => held_of_plan3 hrefl htrans hs hQ q _ a' w' h4 h') h.2.1
      rw [← hl] at this
      exact this
    · have := held_sole (fuel := r.len) (listed := listed) hrefl htrans (fun a' w' h' => held_of_plan3 hrefl htrans hs hQ r _ a' w' h5 h') h.2.2
      rw [← hl'] at this
      exact this
theorem wp_region_plan3 {id : Nat} {a : Act} {w : World} {l : List Oper} (R : World → World → Prop) (hrefl : ∀ w, R w w) (htrans : ∀ a b c, R a b → R b c → R a c) (plan : Plan3) (hm : P.follows .mixedOrders = true) (hs : Region.noSelect l.toArray = true) (hn : plan.len = l.length)
    (hB : planB3 l plan (Array.replicate l.length false) = true) (hQ : ∀ d v c a w, Q (.panic c) (a.put (some d) v) w → Q (.panic c) a w) (h : wpPlan3 P l R Q plan a w.drew) : (Code.region id l.toArray true).wp P Q a w := by
  refine wp_region_held (S := R w.drew) hm ?_
  have hQ' : ∀ d v c a w, Q (.panic c) (a.put d v) w → Q (.panic c) a w := fun d => by
    cases d with
    | none => exact fun _ _ _ _ h => h
    | some d => exact hQ d
  have := held_of_plan3 hrefl htrans hs hQ' plan (Array.replicate l.length false) a w.drew hB h
  rw [hn] at this
  simpa using this
section
variable {l : List Oper} {p q r : Plan3} {a : Act} {w : World} {i j k : Nat} {o : Oper} {K : Act → World → Prop}
theorem plan3_take (v : Value) (ho : l[i]? = some o) (hw : Region.wanted o (yielded l.toArray a.tmps) = true) (hv : ∀ W, R w W → (execOp a.eval o).run P W = .ok (.value v) W) (h : wpPlan3 P l R Q p (a.put o.dst v) w) : wpPlan3 P l R Q (.take i p) a w := ⟨o, ho, .inr ⟨hw, v, hv, h⟩⟩
theorem plan3_sole (h : wpSole P l R Q i (wpPlan3 P l R Q p) a w) : wpPlan3 P l R Q (.sole i p) a w := h
theorem plan3_fork (h1 : wpSole P l R Q i (wpPlan3 P l R Q p) a w) (h2 : wpSole P l R Q j (wpPlan3 P l R Q q) a w) : wpPlan3 P l R Q (.fork i p j q) a w := ⟨h1, h2⟩
theorem plan3_three (h1 : wpSole P l R Q i (wpPlan3 P l R Q p) a w) (h2 : wpSole P l R Q j (wpPlan3 P l R Q q) a w) (h3 : wpSole P l R Q k (wpPlan3 P l R Q r) a w) : wpPlan3 P l R Q (.fork3 i p j q k r) a w := ⟨h1, h2, h3⟩
theorem plan3_end (h : Q .normal a w) : wpPlan3 P l R Q .fin a w := h
end
end
end Go.Proofs.YtlmndmfebgaidaaGreatDoor
