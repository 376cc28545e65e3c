/-
  Merged texts: RpK, RpL, ReT.
-/
import Derived.Test.YtlmndmfebgaidaaGreatDoorGrR
import Derived.Test.YtlmndmfebgaidaaGreatDoorGrN
import Derived.Test.YtlmndmfebgaidaaGreatDoorGrP
namespace Go.Proofs.YtlmndmfebgaidaaGreatDoor
open Go.RowKit
set_option linter.unusedVariables false
set_option linter.unusedSimpArgs false
set_option maxRecDepth 100000
def parseR (t : T) : ResZ := if t.kids.length = 3 then ⟨t.tag == 5, spansOf false (kidT t 0) ++ spansOf true (kidT t 1), pairsOf rangeOf (kidT t 2)⟩ else ⟨t.tag == 5, [], []⟩
theorem pairs_mem {α : Type} {f : T → T → α} {x : α} : ∀ {l : List T}, x ∈ pairsOf f l → ∃ a b, a ∈ l ∧ b ∈ l ∧ x = f a b
  | [], h => by cases h
  | [a], h => by simp [pairsOf] at h
  | a :: b :: r, h => by
    rw [pairsOf, List.mem_cons] at h
    rcases h with rfl | h
    · exact ⟨a, b, by simp, by simp, rfl⟩
    · obtain ⟨c, d, h1, h2, h3⟩ := pairs_mem h
      exact ⟨c, d, by simp [h1], by simp [h2], h3⟩
def Byte2 (t : T) : Prop := ∀ k, ∀ q ∈ kidT t k, ∀ x ∈ q.body, 0 ≤ x ∧ x ≤ 255
theorem T.In.kid {w : World} {t : T} {v : Value} (h : t.In w v) {k : T} (hk : k ∈ t.kids) : ∃ u, k.In w u := by
  obtain ⟨A, n, c, K, m, d, rfl, _⟩ := h.open
  obtain ⟨i, hi, rfl⟩ := List.mem_iff_getElem.1 hk
  have kin := T.In.kidsIn h
  obtain ⟨p, b, off, z, A', n', c', K', m', d', h1, _, _, _, h5⟩ := kin.2 i (by rw [← kin.1]; exact hi)
  rw [List.getElem?_eq_getElem hi] at h1
  injection h1 with h1
  rw [h1]
  exact ⟨_, h5⟩
theorem kidT_mem {t : T} {k : Nat} {q : T} (h : q ∈ kidT t k) : ∃ p ∈ t.kids, q ∈ p.kids := by
  unfold kidT at h
  cases hk : t.kids[k]? with
  | none =>
    rw [hk] at h
    simp [zeroT, T.kids] at h
  | some p =>
    rw [hk] at h
    exact ⟨p, List.mem_of_getElem? hk, h⟩
theorem T.In.byte2 {w : World} {t : T} {v : Value} (h : t.In w v) : Byte2 t := fun k q hq => by
  obtain ⟨p, hp, hq⟩ := kidT_mem hq
  obtain ⟨u, hu⟩ := h.kid hp
  obtain ⟨u2, hu2⟩ := hu.kid hq
  obtain ⟨A, n, c, K, m, d, _, _, rx, _⟩ := hu2.open
  exact rx.2.1
theorem spansOf_ok {v : Bool} {l : List T} (h : ∀ q ∈ l, ∀ x ∈ q.body, 0 ≤ x ∧ x ≤ 255) : SpansZ (spansOf v l) := fun s hs => by
  obtain ⟨a, b, ha, hb, rfl⟩ := pairs_mem hs
  exact ⟨full_six (h a ha), full_six (h b hb)⟩
theorem parse_ok {t : T} (h : Byte2 t) : ResOk (parseR t) := by
  unfold parseR
  split
  · refine ⟨fun s hs => ?_, fun p hp => ?_⟩
    · rcases List.mem_append.1 hs with hs | hs
      · exact spansOf_ok (h 0) s hs
      · exact spansOf_ok (h 1) s hs
    · obtain ⟨a, b, _, _, rfl⟩ := pairs_mem hp
      exact ⟨num32_lt a, num32_lt b⟩
  · exact ⟨fun s h => (by cases h), fun s h => (by cases h)⟩
theorem parse_read {t : T} (h : Byte2 t) : (if (nodeR (parseR t)).2 = 0 ∧ sameT (nodeR (parseR t)).1 t = true then (parseR t, 0) else (zeroRes, 2)) = readR t := by
  split
  · rename_i c
    have e := same_is _ _ c.2
    have := read_node (parse_ok h) ((node_ok _).1 c.1)
    rw [e] at this
    exact this.symm
  · rename_i c
    unfold readR
    cases ht : takeR t with
    | none => rfl
    | some r =>
      simp only
      split
      · rename_i k
        exfalso
        have e := same_is _ _ k.2
        apply c
        have : parseR t = r := by
          unfold takeR at ht
          have hr := (node_ok r).1 k.1
          have en : (nodeR r).1 = resT r := by unfold nodeR; rw [if_pos hr]
          rw [en] at e
          split at ht
          · rename_i h3
            unfold rangesOf at ht
            split at ht
            · simp only [Option.map_some, Option.some.injEq] at ht
              have hi : r.inh = false := by rw [← ht]
              rw [resT_own hi] at e
              unfold parseR
              rw [if_pos h3, ← ht, show (t.tag == 5) = false by rw [← e]; rfl]
            · cases ht
          · rename_i h3
            simp only [Option.some.injEq] at ht
            unfold parseR
            rw [if_neg h3, ← ht, show (t.tag == 5) = true by rw [← e, ← ht]; rfl]
        rw [this]
        exact k
      · rfl
theorem wt_kid {t k : T} (h : k ∈ t.kids) : wt k ≤ wt t := by
  have := wtAll_mem h
  rw [wt_eq t]
  omega
theorem wtAll_len : ∀ l : List T, (l.length : Int) ≤ wtAll l
  | [] => by rw [wtAll]; simp
  | x :: r => by
    have := wtAll_len r
    have := wt_ge x
    rw [wtAll, List.length_cons]
    omega
theorem wt_len (t : T) : (t.kids.length : Int) ≤ wt t ∧ (t.body.length : Int) ≤ wt t := by
  have h1 := wtAll_len t.kids
  have h2 := wtAll_pos t.kids
  rw [wt_eq t]
  omega
set_option maxHeartbeats 8000000 in
theorem parse13_any (t : T) (x : Value) (w : World) (ht : t.In w x) (hw : wt t < 30000) (hf : Fam w) : Calls Tryz.prog 33 #[x] w (GivesOwn (parseR t) w) := by
  have ht0 := ht
  obtain ⟨A, n, c, K, m, d, rfl, _, _, _, _, hm, hm', _⟩ := ht.open
  change Calls _ _ #[.agg (nodeC t.tag (.slice A n c) (.slice K m d))] w _
  have ws1 : (w.alloc (.cells (nodeC t.tag (.slice A n c) (.slice K m d)) 29)).heap.size = w.heap.size + 1 := by simp
  have ws2 : ((w.alloc (.cells (nodeC t.tag (.slice A n c) (.slice K m d)) 29)).alloc (.cells #[.bool false, .slice none 0 0, .slice none 0 0] 25)).heap.size = w.heap.size + 1 + 1 := by simp
  have K0 := Blk.alloc (Blk.new w 29 (nodeC t.tag (.slice A n c) (.slice K m d))) (.cells #[.bool false, .slice none 0 0, .slice none 0 0] 25)
  have K1 := Blk.new (w.alloc (.cells (nodeC t.tag (.slice A n c) (.slice K m d)) 29)) 25 #[.bool false, .slice none 0 0, .slice none 0 0]
  rw [ws1] at K1
  have bw := Below.step (box_below w (.cells (nodeC t.tag (.slice A n c) (.slice K m d)) 29)) (box_below _ (.cells #[.bool false, .slice none 0 0, .slice none 0 0] 25))
  have BW := Lib.hid bw
  have KI := Lib.hid (T.In.kidsIn ht0)
  have FF := Lib.hid (fun W (hb : Below w.heap.size w W) => hf.below hb)
  have HM := Lib.hid hm
  have WT := Lib.hid hw
  generalize hw2 : (w.alloc (.cells (nodeC t.tag (.slice A n c) (.slice K m d)) 29)).alloc (.cells #[.bool false, .slice none 0 0, .slice none 0 0] 25) = w2 at *
  obtain ⟨g, hg⟩ : ∃ g, w.heap.size = g := ⟨_, rfl⟩
  have HG := Lib.hid hg
  rw [hg] at K0 K1 ws2
  have HS := Lib.hid ws2
  have x0 : w2.cell? ⟨g, 0, none⟩ = some (.int .i64 t.tag) := Blk.cell K0 0
  have NB := Lib.hid K0
  have ZB : Hid (Blk w2 (g + 1) 25 (resC false (.slice none 0 0) (.slice none 0 0))) := Lib.hid K1
  have EP3 : Hid (m = 3 → parseR t = ⟨t.tag == 5, spansOf false (kidT t 0) ++ spansOf true (kidT t 1), pairsOf rangeOf (kidT t 2)⟩) := Lib.hid (fun h => by unfold parseR; rw [if_pos (by rw [hm]; exact h)])
  have EP0 : Hid (¬ m = 3 → parseR t = ⟨t.tag == 5, [], []⟩) := Lib.hid (fun h => by unfold parseR; rw [if_neg (by rw [hm]; exact h)])
  unfold maxLen at hm'
  clear K0 K1 ws1 ws2 bw ht ht0 hm hw hf
  generalize parseR t = rz at *
  go_enter Tryz.func33, Tryz.ntmps33
  go_upto_region 1 with fail
  clear hw2
  generalize hi : (t.tag == 5) = i at *
  go_upto_region 2 with (first
    | (with_reducible refine allocRes_at ?_)
    | ((with_reducible refine storeRes_new 3 9 w2 i none 0 0 none 0 0 ?_ ?_ ?_ ?_); (· rfl); (· rfl); (· rfl)))
  clear x0 hi
  have b3 := boxR_below w2 (.cells (resC i (.slice none 0 0) (.slice none 0 0)) 25)
  have RB := resbox w2 i (.slice none 0 0) (.slice none 0 0)
  have S3 : (w2.alloc (.cells (resC i (.slice none 0 0) (.slice none 0 0)) 25)).heap.size = w2.heap.size + 1 := by simp
  replace NB := Lib.hid (NB.out.below b3 NB.out.lt)
  replace ZB := Lib.hid (ZB.out.below b3 ZB.out.lt)
  replace BW := Lib.hid (Below.step BW.out b3)
  obtain ⟨R, hR⟩ : ∃ R, w2.heap.size = R := ⟨_, rfl⟩
  have HR : Hid (g + 1 < R) := Lib.hid (by have := HS.out; omega)
  rw [hR] at RB S3
  try simp only [hR]
  have P0 : Hid (PSt w (R + 1) R (w2.alloc (.cells (resC i (.slice none 0 0) (.slice none 0 0)) 25)) i (.slice none 0 0) (.slice none 0 0) [] []) := Lib.hid ⟨BW.out, by have := HR.out; have := HG.out; omega, by omega, by omega, RB, World.ownsRow_nil _ _ _ _, fun _ h => absurd h (by simp), World.ownsRow_nil _ _ _ _, fun _ h => absurd h (by simp), fun _ h => by cases h⟩
  generalize w2.alloc (.cells (resC i (.slice none 0 0) (.slice none 0 0)) 25) = w3 at *
  clear RB S3 b3 HS hR
  have x2 : w3.cell? ⟨g, 2, none⟩ = some (.slice K m d) := Blk.cell NB.out 2
  by_cases h3 : m = 3
  rotate_left
  · have e := EP0.out h3
    subst e
    have t3 : ((m : Int) != 3) = true := by simp; omega
    clear EP0 EP3 KI
    go_wp2_with (first
      | (refine load_res_any (by rfl) (.tmp 3) rfl R rfl P0.out.box ?_)
      | ((with_reducible refine store_res_at 2 14 (g + 1) i none 0 0 none 0 0 false (.slice none 0 0) (.slice none 0 0) ?_ ?_ ZB.out ?_); (· rfl); (· rfl)))
    exact bodyPost_ret (results_cell_row rfl _ _ (g + 1) 25 (resC i (.slice none 0 0) (.slice none 0 0)) (0, 0) _ rfl (setRow_heap _ _ _ _ 25 _ ZB.out) Tryz.underlying25 rfl (Tryz.sizeRes _ _ _)) rfl ⟨none, 0, 0, none, 0, 0, rfl, ⟨SpArg.nilS _, fun h => absurd h (by decide)⟩, ⟨⟨RgRow.nil _ _, fun _ => ⟨rfl, rfl⟩⟩, fun h => absurd h (by decide)⟩, below_setRow BW.out (by have := HG.out; omega) _⟩
  subst h3
  have e := EP3.out rfl
  have t3 : (((3 : Nat) : Int) != 3) = false := by decide
  obtain ⟨p0, b, off, z0, A0, n0, c0, L0, m0, d0, hp0, hKe, hlb, hr0, hi0⟩ := KI.out.2 0 (by decide)
  obtain ⟨p1, b1, off1, z1, A1, n1, c1, L1, m1, d1, hp1, hKe1, hlb1, hr1, hi1⟩ := KI.out.2 1 (by decide)
  obtain ⟨p2, b2, off2, z2, A2, n2, c2, L2, m2, d2, hp2, hKe2, hlb2, hr2, hi2⟩ := KI.out.2 2 (by decide)
  rw [hKe] at hKe1 hKe2
  obtain ⟨rfl, rfl⟩ : b = b1 ∧ off = off1 := by simpa using hKe1
  obtain ⟨rfl, rfl⟩ : b = b2 ∧ off = off2 := by simpa using hKe2
  have k0 : kidT t 0 = p0.kids := by unfold kidT; rw [hp0]; rfl
  have k1 : kidT t 1 = p1.kids := by unfold kidT; rw [hp1]; rfl
  have k2 : kidT t 2 = p2.kids := by unfold kidT; rw [hp2]; rfl
  have l0 : p0.kids.length ≤ 30000 := by have h1 := wt_kid (List.mem_of_getElem? hp0); have h2 := (wt_len p0).1; have h3 := WT.out; omega
  have l1 : p1.kids.length ≤ 30000 := by have h1 := wt_kid (List.mem_of_getElem? hp1); have h2 := (wt_len p1).1; have h3 := WT.out; omega
  have l2 : p2.kids.length ≤ 30000 := by have h1 := wt_kid (List.mem_of_getElem? hp2); have h2 := (wt_len p2).1; have h3 := WT.out; omega
  have lb : ∀ q ∈ p2.kids, q.body.length ≤ 1000000 := fun q hq => by have h1 := wt_kid (List.mem_of_getElem? hp2); have h2 := wt_kid hq; have h3 := (wt_len q).2; have h4 := WT.out; omega
  have y0 : (spansOf false p0.kids).length ≤ 15000 := by unfold spansOf; rw [pairs_len]; omega
  rw [k0, k1, k2] at e
  have ER := Lib.hid e
  clear e
  have C0 := Lib.hid (fun F u V (h : PSt w (R + 1) R u i V (.slice none 0 0) [] []) (hF : Blk u F 58 (famV false)) (hFR : F ≠ R) (hFV : V.ownBlock ≠ some F) => visit1_any w u (R + 1) R F i false V (.slice none 0 0) [] [] p0 _ h hF hFR hFV hi0 (by simp; omega))
  have C1 := Lib.hid (fun F u V (h : PSt w (R + 1) R u i V (.slice none 0 0) (spansOf false p0.kids) []) (hF : Blk u F 58 (famV true)) (hFR : F ≠ R) (hFV : V.ownBlock ≠ some F) => visit1_any w u (R + 1) R F i true V (.slice none 0 0) (spansOf false p0.kids) [] p1 _ h hF hFR hFV hi1 (by omega))
  have C2 := Lib.hid (fun u V (h : PSt w (R + 1) R u i V (.slice none 0 0) (spansOf false p0.kids ++ spansOf true p1.kids) []) => visit2_any w u (R + 1) R 0 i false V (.slice none 0 0) (spansOf false p0.kids ++ spansOf true p1.kids) [] p2 _ h lb hi2 (by simp; omega))
  change Hid (∀ F u V, PSt w (R + 1) R u i V (.slice none 0 0) [] [] → Blk u F 58 (famV false) → F ≠ R → V.ownBlock ≠ some F → Calls _ _ _ _ (fun e u' => e = .returned (.tuple #[]) ∧ ∃ V', PSt w (R + 1) R u' i V' (.slice none 0 0) ([] ++ spansOf false p0.kids) [] ∧ (∀ o, o < R + 1 → o ≠ R → u'.heap[o]? = u.heap[o]?))) at C0
  change Hid (∀ F u V, PSt w (R + 1) R u i V (.slice none 0 0) (spansOf false p0.kids) [] → Blk u F 58 (famV true) → F ≠ R → V.ownBlock ≠ some F → Calls _ _ _ _ (fun e u' => e = .returned (.tuple #[]) ∧ ∃ V', PSt w (R + 1) R u' i V' (.slice none 0 0) (spansOf false p0.kids ++ spansOf true p1.kids) [] ∧ (∀ o, o < R + 1 → o ≠ R → u'.heap[o]? = u.heap[o]?))) at C1
  have G0 := Lib.hid (fun W (hb : Below w.heap.size w W) => range_below hr0 hb hlb)
  have G1 := Lib.hid (fun W (hb : Below w.heap.size w W) => range_below hr1 hb hlb)
  have G2 := Lib.hid (fun W (hb : Below w.heap.size w W) => range_below hr2 hb hlb)
  subst hKe
  clear EP0 EP3 KI hp0 hp1 hp2 hKe1 hKe2 hlb hlb1 hlb2 hr0 hr1 hr2 hi0 hi1 hi2 k0 k1 k2 l0 l1 l2 lb y0 WT HM
  generalize spansOf false p0.kids = Y0 at *
  generalize spansOf true p1.kids = Y1 at *
  generalize pairsOf rangeOf p2.kids = Y2 at *
  obtain ⟨_, tt, fr, hF⟩ := FF.out _ BW.out
  have HF := Lib.hid hF
  clear hF FF
  go_wp2_with (refine wpList_load_row rfl 59 (.global 0) rfl 0 rfl tt #[.bool false, .int .i64 4, .bool true, .int .i64 16] fr _ HF.out Tryz.underlying59 rfl Tryz.sizeFam2 ?_)
  clear HF x2 BW
  go_loopw [16] (fun iV wr => ∃ (k : Nat) (V : Value), iV = .int .i64 (k : Int) ∧ k ≤ 2 ∧ PSt w (R + 1) R wr i V (.slice none 0 0) (if k = 0 then [] else if k = 1 then Y0 else Y0 ++ Y1) [] ∧ Blk wr g 29 (nodeC t.tag (.slice A n c) (.slice (some ⟨b, off, none⟩) 3 d)) ∧ Blk wr (g + 1) 25 (resC false (.slice none 0 0) (.slice none 0 0))) (fun iV _ => ((2 : Int) - intOf iV).toNat)
  case atStart => exact ⟨0, _, rfl, Nat.zero_le _, P0.out, NB.out, ZB.out⟩
  case round =>
    obtain ⟨k, V, rfl, hk, hp, hnb, hzb⟩ := hrel
    clear P0 NB ZB
    have P0 := Lib.hid hp
    have NB := Lib.hid hnb
    have ZB := Lib.hid hzb
    clear hp hnb hzb
    rcases k with _ | _ | _ | k
    · have t0 : decide (((0 : Nat) : Int) < 2) = true := by decide
      have kI : IntKind.i64.wrap (((0 : Nat) : Int) + 1) = ((0 : Nat) : Int) + 1 := by decide
      have VL := Lib.hid (fun b (e : V.ownBlock = some b) => (P0.out.lt1 e).2)
      have RL := Lib.hid P0.out.box.lt
      have x2 : ∀ o, (wr.alloc o).cell? ⟨g, 2, none⟩ = some (.slice (some ⟨b, off, none⟩) 3 d) := fun o => Blk.cell (NB.out.alloc o) 2
      go_wp2_with (first
      | ((with_reducible refine indexFam_at false 15 16 ?_ ?_ ?_); (· rfl); (· rfl))
      | (with_reducible refine allocFam_at ?_)
      | ((with_reducible refine storeFam_new 5 19 wr false ?_ ?_ ?_ ?_)
         (· rfl)
         (· rfl)
         (· rfl)
         have hb4 := boxR_below wr (.cells (famV false) 58)
         have FB : Hid (Blk (wr.alloc (.cells (famV false) 58)) wr.heap.size 58 (famV false)) := Lib.hid (Blk.new wr 58 (famV false))
         replace P0 := Lib.hid (P0.out.below hb4)
         replace NB := Lib.hid (NB.out.below hb4 NB.out.lt)
         replace ZB := Lib.hid (ZB.out.below hb4 ZB.out.lt)
         have RG := Lib.hid (G0.out _ P0.out.bel)
         have x2b := x2 (.cells (famV false) 58)
         clear hb4 x2
         generalize wr.alloc (.cells (famV false) 58) = w4 at *
         generalize wr.heap.size = h4 at *)
      | ((with_reducible refine load_nodeM_at 23 b (off + 0 * 3) z0 A0 n0 c0 L0 m0 d0 ?_ RG.out ?_); (· rfl))
      | (go_at_call 57
         refine (C0.out h4 w4 V P0.out FB.out (by have := RL.out; omega) (fun e => by have := VL.out h4 e; omega)).mono ?_
         rintro e w5 ⟨rfl, V5, hp5, hk5⟩
         have P5 := Lib.hid hp5
         have N5 := Lib.hid (show Blk w5 g 29 _ from (hk5 g (by have := HR.out; omega) (by have := HR.out; omega)).trans NB.out)
         have Z5 := Lib.hid (show Blk w5 (g + 1) 25 _ from (hk5 (g + 1) (by have := HR.out; omega) (by have := HR.out; omega)).trans ZB.out)
         clear hp5 hk5 P0 NB ZB FB))
      go_roundw
      case rel => exact ⟨1, V5, by go_num, by decide, P5.out, N5.out, Z5.out⟩
      case measure => decide
    · have t0 : decide (((1 : Nat) : Int) < 2) = true := by decide
      have kI : IntKind.i64.wrap (((1 : Nat) : Int) + 1) = ((1 : Nat) : Int) + 1 := by decide
      have VL := Lib.hid (fun b (e : V.ownBlock = some b) => (P0.out.lt1 e).2)
      have RL := Lib.hid P0.out.box.lt
      have x2 : ∀ o, (wr.alloc o).cell? ⟨g, 2, none⟩ = some (.slice (some ⟨b, off, none⟩) 3 d) := fun o => Blk.cell (NB.out.alloc o) 2
      go_wp2_with (first
      | ((with_reducible refine indexFam_at true 15 16 ?_ ?_ ?_); (· rfl); (· rfl))
      | (with_reducible refine allocFam_at ?_)
      | ((with_reducible refine storeFam_new 5 19 wr true ?_ ?_ ?_ ?_)
         (· rfl)
         (· rfl)
         (· rfl)
         have hb4 := boxR_below wr (.cells (famV true) 58)
         have FB : Hid (Blk (wr.alloc (.cells (famV true) 58)) wr.heap.size 58 (famV true)) := Lib.hid (Blk.new wr 58 (famV true))
         replace P0 := Lib.hid (P0.out.below hb4)
         replace NB := Lib.hid (NB.out.below hb4 NB.out.lt)
         replace ZB := Lib.hid (ZB.out.below hb4 ZB.out.lt)
         have RG := Lib.hid (G1.out _ P0.out.bel)
         have x2b := x2 (.cells (famV true) 58)
         clear hb4 x2
         generalize wr.alloc (.cells (famV true) 58) = w4 at *
         generalize wr.heap.size = h4 at *)
      | ((with_reducible refine load_nodeM_at 23 b (off + 1 * 3) z1 A1 n1 c1 L1 m1 d1 ?_ RG.out ?_); (· rfl))
      | (go_at_call 57
         refine (C1.out h4 w4 V P0.out FB.out (by have := RL.out; omega) (fun e => by have := VL.out h4 e; omega)).mono ?_
         rintro e w5 ⟨rfl, V5, hp5, hk5⟩
         have P5 := Lib.hid hp5
         have N5 := Lib.hid (show Blk w5 g 29 _ from (hk5 g (by have := HR.out; omega) (by have := HR.out; omega)).trans NB.out)
         have Z5 := Lib.hid (show Blk w5 (g + 1) 25 _ from (hk5 (g + 1) (by have := HR.out; omega) (by have := HR.out; omega)).trans ZB.out)
         clear hp5 hk5 P0 NB ZB FB))
      go_roundw
      case rel => exact ⟨2, V5, by go_num, by decide, P5.out, N5.out, Z5.out⟩
      case measure => decide
    · have t0 : decide (((2 : Nat) : Int) < 2) = false := by decide
      have x2 : wr.cell? ⟨g, 2, none⟩ = some (.slice (some ⟨b, off, none⟩) 3 d) := Blk.cell NB.out 2
      have RG := Lib.hid (G2.out _ P0.out.bel)
      replace P0 : Hid (PSt w (R + 1) R wr i V (.slice none 0 0) (Y0 ++ Y1) []) := Lib.hid P0.out
      go_upto_region 10 with (first
      | ((with_reducible refine load_nodeM_at 30 b (off + 2 * 3) z2 A2 n2 c2 L2 m2 d2 ?_ RG.out ?_); (· rfl))
      | (go_at_call 57
         refine (C2.out wr V P0.out).mono ?_
         rintro e w5 ⟨rfl, V5, hp5, hk5⟩
         have P5 := Lib.hid hp5
         have Z5 := Lib.hid (show Blk w5 (g + 1) 25 _ from (hk5 (g + 1) (by have := HR.out; omega) (by have := HR.out; omega)).trans ZB.out)
         clear hp5 hk5 P0 NB ZB C2 RG x2))
      rw [List.nil_append] at P5
      obtain ⟨a6, c6, rfl, hf1⟩ := P5.out.form1
      obtain ⟨a7, c7, rfl, hf2⟩ := P5.out.form2
      have F1 := Lib.hid hf1
      have F2 := Lib.hid hf2
      clear hf1 hf2
      have e1 : Hid ((Y0 ++ Y1).length = (Y0 ++ Y1).length) := Lib.hid rfl
      clear e1
      generalize hq1 : (Y0 ++ Y1).length = q1 at *
      generalize hq2 : Y2.length = q2 at *
      clear hq1 hq2
      go_wp2_with (first
        | (refine load_res_any (by rfl) (.tmp 3) rfl R rfl P5.out.box ?_)
        | ((with_reducible refine store_res_at 2 34 (g + 1) i a6 q1 c6 a7 q2 c7 false (.slice none 0 0) (.slice none 0 0) ?_ ?_ Z5.out ?_); (· rfl); (· rfl)))
      have e := ER.out
      subst e
      have ov := Over.rowS (B := R + 1) (g := g + 1) w5 (resC i (.slice a6 q1 c6) (.slice a7 q2 c7)) (by have := HR.out; omega)
      exact bodyPost_ret (results_cell_row rfl _ _ (g + 1) 25 (resC i (.slice a6 q1 c6) (.slice a7 q2 c7)) (0, 0) _ rfl (setRow_heap _ _ _ _ 25 _ Z5.out) Tryz.underlying25 rfl (Tryz.sizeRes _ _ _)) rfl ⟨_, _, _, _, _, _, rfl, (F1.out.over ov).mono (by have := HR.out; have := HG.out; omega), (F2.out.over ov).mono (by have := HR.out; have := HG.out; omega), below_setRow P5.out.bel (by have := HG.out; omega) _⟩
    · omega
end Go.Proofs.YtlmndmfebgaidaaGreatDoor
namespace Go.Proofs.YtlmndmfebgaidaaGreatDoor
open Go.RowKit
set_option linter.unusedVariables false
set_option linter.unusedSimpArgs false
set_option maxRecDepth 100000
theorem kidT_len {t : T} (hw : wt t < 30000) (k : Nat) : (kidT t k).length ≤ 30000 := by
  unfold kidT
  cases hk : t.kids[k]? with
  | none => simp [zeroT, T.kids]
  | some p =>
    have h1 := wt_kid (List.mem_of_getElem? hk)
    have h2 := (wt_len p).1
    show p.kids.length ≤ 30000
    omega
theorem parse_len {t : T} (hw : wt t < 30000) : (parseR t).sp.length ≤ 40000 ∧ (parseR t).ns.length ≤ 40000 := by
  unfold parseR
  split
  · have h0 := kidT_len hw 0
    have h1 := kidT_len hw 1
    have h2 := kidT_len hw 2
    simp only [List.length_append]
    unfold spansOf
    rw [pairs_len, pairs_len, pairs_len]
    omega
  · exact ⟨Nat.zero_le _, Nat.zero_le _⟩
set_option maxHeartbeats 8000000 in
theorem read13_any (t : T) (x : Value) (w : World) (ht : t.In w x) (hw : wt t < 30000) (hf : Fam w) : Calls Tryz.prog 14 #[x] w (GivesRes (readR t) w) := by
  have ht0 := ht
  have b2 := ht.byte2
  obtain ⟨A, n, c, K, m, d, rfl, _, _, _, _, hm, hm', _⟩ := ht.open
  change Calls _ _ #[.agg (nodeC t.tag (.slice A n c) (.slice K m d))] w _
  have ws1 : (w.alloc (.cells (nodeC t.tag (.slice A n c) (.slice K m d)) 29)).heap.size = w.heap.size + 1 := by simp
  have ws2 : ((w.alloc (.cells (nodeC t.tag (.slice A n c) (.slice K m d)) 29)).alloc (.cells #[.bool false, .slice none 0 0, .slice none 0 0] 25)).heap.size = w.heap.size + 1 + 1 := by simp
  have K0 := Blk.alloc (Blk.new w 29 (nodeC t.tag (.slice A n c) (.slice K m d))) (.cells #[.bool false, .slice none 0 0, .slice none 0 0] 25)
  have K1 := Blk.new (w.alloc (.cells (nodeC t.tag (.slice A n c) (.slice K m d)) 29)) 25 #[.bool false, .slice none 0 0, .slice none 0 0]
  rw [ws1] at K1
  have bw := Below.step (box_below w (.cells (nodeC t.tag (.slice A n c) (.slice K m d)) 29)) (box_below _ (.cells #[.bool false, .slice none 0 0, .slice none 0 0] 25))
  have PL := parse_len hw
  have CP := Lib.hid (parse13_any t (.agg (nodeC t.tag (.slice A n c) (.slice K m d))) _ (T.In.below bw t ht0) hw (hf.below bw))
  have CN := Lib.hid (fun W v (h : ResAt W v (parseR t)) (hb : Below w.heap.size w W) => node13_any (parseR t) v W h PL.1 PL.2 (hf.below hb))
  have CE := Lib.hid (fun W v (h : (nodeR (parseR t)).1.In W v) (hb : Below w.heap.size w W) => equal13_any (nodeR (parseR t)).1 t v (.agg (nodeC t.tag (.slice A n c) (.slice K m d))) W h (T.In.below hb t ht0))
  have BW := Lib.hid bw
  have ER := Lib.hid (parse_read b2)
  have AZ := Lib.hid (ResAt.zero w)
  generalize hw2 : (w.alloc (.cells (nodeC t.tag (.slice A n c) (.slice K m d)) 29)).alloc (.cells #[.bool false, .slice none 0 0, .slice none 0 0] 25) = w2 at *
  obtain ⟨g, hg⟩ : ∃ g, w.heap.size = g := ⟨_, rfl⟩
  rw [hg] at K0 K1 ws2
  have HG := Lib.hid hg
  have HS := Lib.hid ws2
  have NB := Lib.hid K0
  have ZB : Hid (Blk w2 (g + 1) 25 (resC false (.slice none 0 0) (.slice none 0 0))) := Lib.hid K1
  clear K0 K1 ws1 ws2 bw b2 ht ht0 hm hm' hw hf PL
  generalize readR t = rz at *
  generalize parseR t = pr at *
  generalize hq : nodeR pr = q at *
  clear hq
  obtain ⟨qt, qe⟩ := q
  simp only at CE ER
  go_enter Tryz.func14, Tryz.ntmps14
  go_upto_region 1 with fail
  clear hw2
  go_upto_region 3 with (first
    | (refine load_node_any (by rfl) (.tmp 1) rfl g rfl NB.out ?_)
    | (go_at_call 33
       refine CP.out.mono ?_
       rintro e w3 ⟨a1, n1, c1, a2, n2, c2, rfl, hs1, hs2, hb3⟩
       replace BW := Lib.hid (Below.step BW.out hb3)
       have F1 := Lib.hid (hs1.mono (Nat.le_of_eq HS.out.symm))
       have F2 := Lib.hid (hs2.mono (Nat.le_of_eq HS.out.symm))
       have AT : Hid (ResAt w3 (.agg (resC pr.inh (.slice a1 n1 c1) (.slice a2 n2 c2))) pr) := Lib.hid ⟨_, _, _, _, _, _, rfl, hs1.1, hs2.1⟩
       replace NB := Lib.hid (NB.out.below hb3 NB.out.lt)
       replace ZB := Lib.hid (ZB.out.below hb3 ZB.out.lt)
       clear hs1 hs2 hb3 CP)
    | (with_reducible refine allocRes_at ?_)
    | ((with_reducible refine storeRes_new 4 8 w3 pr.inh a1 n1 c1 a2 n2 c2 ?_ ?_ ?_ ?_)
       (· rfl)
       (· rfl)
       (· rfl)
       have hb4 := boxR_below w3 (.cells (resC pr.inh (.slice a1 n1 c1) (.slice a2 n2 c2)) 25)
       have RB := Lib.hid (resbox w3 pr.inh (.slice a1 n1 c1) (.slice a2 n2 c2))
       replace BW := Lib.hid (Below.step BW.out hb4)
       replace F1 := Lib.hid (F1.out.over (Over.below hb4))
       replace F2 := Lib.hid (F2.out.over (Over.below hb4))
       replace AT := Lib.hid (AT.out.below hb4)
       replace NB := Lib.hid (NB.out.below hb4 NB.out.lt)
       replace ZB := Lib.hid (ZB.out.below hb4 ZB.out.lt)
       clear hb4
       generalize w3.alloc (.cells (resC pr.inh (.slice a1 n1 c1) (.slice a2 n2 c2)) 25) = w4 at *
       generalize w3.heap.size = h4 at *)
    | (refine load_res_any (by rfl) (.tmp 4) rfl h4 rfl RB.out ?_)
    | (go_at_call 11
       refine (CN.out _ _ AT.out BW.out).mono ?_
       rintro e w5 ⟨p5, m5, k5, o5, j5, d5, rfl, hin5, hb5⟩
       have I5 : Hid (qt.In w5 (.agg (nodeC qt.tag (.slice p5 m5 k5) (.slice o5 j5 d5)))) := Lib.hid hin5
       replace BW := Lib.hid (Below.step BW.out hb5)
       replace F1 := Lib.hid (F1.out.over (Over.below hb5))
       replace F2 := Lib.hid (F2.out.over (Over.below hb5))
       replace NB := Lib.hid (NB.out.below hb5 NB.out.lt)
       replace ZB := Lib.hid (ZB.out.below hb5 ZB.out.lt)
       replace RB := Lib.hid (RB.out.below hb5 RB.out.lt)
       clear hin5 hb5 CN AT)
    | (with_reducible refine allocNode_at ?_)
    | ((with_reducible refine storeNode_new 5 12 w5 qt.tag p5 m5 k5 o5 j5 d5 ?_ ?_ ?_ ?_)
       (· rfl)
       (· rfl)
       (· rfl)
       have hb6 := boxR_below w5 (.cells (nodeC qt.tag (.slice p5 m5 k5) (.slice o5 j5 d5)) 29)
       have QB := Lib.hid (nodebox w5 qt.tag (.slice p5 m5 k5) (.slice o5 j5 d5))
       replace I5 := Lib.hid (T.In.below hb6 qt I5.out)
       replace BW := Lib.hid (Below.step BW.out hb6)
       replace F1 := Lib.hid (F1.out.over (Over.below hb6))
       replace F2 := Lib.hid (F2.out.over (Over.below hb6))
       replace NB := Lib.hid (NB.out.below hb6 NB.out.lt)
       replace ZB := Lib.hid (ZB.out.below hb6 ZB.out.lt)
       replace RB := Lib.hid (RB.out.below hb6 RB.out.lt)
       clear hb6
       generalize w5.alloc (.cells (nodeC qt.tag (.slice p5 m5 k5) (.slice o5 j5 d5)) 29) = w6 at *
       generalize w5.heap.size = h6 at *))
  have HB : Hid (g + 1 < g + 1 + 1) := Lib.hid (by omega)
  by_cases hqe : qe = 0
  rotate_left
  · have e : rz = (zeroRes, 2) := by rw [← ER.out, if_neg (fun h => hqe h.1)]
    subst e
    have t1 : (qe != 0) = true := by simpa using hqe
    have t2 : (qe == 0) = false := by simpa using hqe
    clear ER CE hqe I5
    go_wp2_with ((with_reducible refine store_res_at 2 22 (g + 1) false none 0 0 none 0 0 false (.slice none 0 0) (.slice none 0 0) ?_ ?_ ZB.out ?_); (· rfl); (· rfl))
    exact GivesRes.row (p := 2) (u := 3) (er := 2) rfl rfl rfl rfl ZB.out AZ.out BW.out (by have := HG.out; omega)
  subst hqe
  have C7 := Lib.hid (CE.out _ _ I5.out BW.out)
  clear CE I5
  cases hsm : sameT qt t with
  | false =>
    rw [hsm] at C7
    have e : rz = (zeroRes, 2) := by rw [← ER.out, if_neg (fun h => by rw [hsm] at h; cases h.2)]
    subst e
    clear ER hsm
    go_wp2_with (first
      | (refine load_node_any (by rfl) (.tmp 5) rfl h6 rfl QB.out ?_)
      | (refine load_node_any (by rfl) (.tmp 1) rfl g rfl NB.out ?_)
      | (go_at_call 34
         refine C7.out.mono ?_
         rintro e w7 ⟨rfl, hb7⟩
         replace BW := Lib.hid (Below.step BW.out hb7)
         replace F1 := Lib.hid (F1.out.over (Over.below hb7))
         replace F2 := Lib.hid (F2.out.over (Over.below hb7))
         replace ZB := Lib.hid (ZB.out.below hb7 ZB.out.lt)
         replace RB := Lib.hid (RB.out.below hb7 RB.out.lt)
         clear hb7 C7)
      | ((with_reducible refine store_res_at 2 22 (g + 1) false none 0 0 none 0 0 false (.slice none 0 0) (.slice none 0 0) ?_ ?_ ZB.out ?_); (· rfl); (· rfl)))
    exact GivesRes.row (p := 2) (u := 3) (er := 2) rfl rfl rfl rfl ZB.out AZ.out BW.out (by have := HG.out; omega)
  | true =>
    rw [hsm] at C7
    have e : rz = (pr, 0) := by rw [← ER.out, if_pos ⟨rfl, hsm⟩]
    subst e
    clear ER hsm
    go_wp2_with (first
      | (refine load_node_any (by rfl) (.tmp 5) rfl h6 rfl QB.out ?_)
      | (refine load_node_any (by rfl) (.tmp 1) rfl g rfl NB.out ?_)
      | (go_at_call 34
         refine C7.out.mono ?_
         rintro e w7 ⟨rfl, hb7⟩
         replace BW := Lib.hid (Below.step BW.out hb7)
         replace F1 := Lib.hid (F1.out.over (Over.below hb7))
         replace F2 := Lib.hid (F2.out.over (Over.below hb7))
         replace ZB := Lib.hid (ZB.out.below hb7 ZB.out.lt)
         replace RB := Lib.hid (RB.out.below hb7 RB.out.lt)
         clear hb7 C7)
      | (refine load_res_any (by rfl) (.tmp 4) rfl h4 rfl RB.out ?_)
      | ((with_reducible refine store_res_at 2 23 (g + 1) pr.inh a1 n1 c1 a2 n2 c2 false (.slice none 0 0) (.slice none 0 0) ?_ ?_ ZB.out ?_); (· rfl); (· rfl)))
    exact GivesRes.row2 (x := (pr, 0)) (p := 2) (u := 3) (er := 0) rfl rfl rfl rfl rfl ZB.out F1.out F2.out HB.out BW.out (by have := HG.out; omega)
end Go.Proofs.YtlmndmfebgaidaaGreatDoor
namespace Go.Proofs.YtlmndmfebgaidaaGreatDoor
open Go.RowKit
theorem pkRight13 : PkRight13 := fun r v W h hl hm => right13_any r v W h (by omega) (by omega)
theorem pkNode13 : PkNode13 := fun r v W h hl hm hf => node13_any r v W h (by omega) (by omega) hf
theorem pkRead13 : PkRead13 := fun t v W h hw _ _ hf => read13_any t v W h hw hf
theorem pkResolve13 : PkResolve13 := fun x y u v W h k lx ly => resolve13_any x y u v W h k (by omega) (by omega)
theorem pkHas13 : PkHas13 := fun r p v W h hp l0 l1 hl => has13_any r p v W h hp l0 l1 (by omega)
theorem pkUp13 : PkUp13 := up13_any pkNode13 pkRead13 pkResolve13
end Go.Proofs.YtlmndmfebgaidaaGreatDoor
