/-
  Merged texts: ReF.
-/
import Derived.Test.YtlmndmfebgaidaaGreatDoorGnP
import Derived.Test.YtlmndmfebgaidaaGreatDoorGnQ
import Derived.Test.YtlmndmfebgaidaaGreatDoorGnS
import Derived.Test.YtlmndmfebgaidaaGreatDoorGnK
import Derived.Deep.CutRange
import Derived.Deep.CutBlock
namespace Go.Proofs.YtlmndmfebgaidaaGreatDoor
open Go.RowKit
set_option linter.unusedVariables false
set_option linter.unusedSimpArgs false
set_option maxRecDepth 100000
def ksS (l : List SpanZ) : Nat → List T := fun k => if k = 0 then famT false l else if k = 1 then famT true l else []
def ksA (l : List SpanZ) (m : List (Nat × Nat)) : Nat → List T := fun k => if k = 2 then m.flatMap rangeT else ksS l k
def kS (v : Bool) : Nat := if v then 1 else 0
theorem famT_app (v : Bool) (l : List SpanZ) (s : SpanZ) : famT v (l ++ [s]) = if s.v = v then famT v l ++ spanT s else famT v l := by
  unfold famT
  rw [List.filter_append, List.flatMap_append]
  split
  · rename_i h
    rw [List.filter_cons_of_pos (by rw [h]; simp)]
    simp
  · rename_i h
    rw [List.filter_cons_of_neg (by simpa using h)]
    simp
theorem ksS_step (l : List SpanZ) (s : SpanZ) (k : Nat) (hk : k = kS s.v) : upd (ksS l) k (ksS l k ++ [addrT s.v s.lo, addrT s.v s.hi]) = ksS (l ++ [s]) := by
  subst hk
  funext j
  unfold upd ksS
  rw [famT_app, famT_app]
  unfold kS spanT
  cases s.v with
  | false =>
    rcases j with _ | _ | j <;> simp
  | true =>
    rcases j with _ | _ | j <;> simp
theorem ksA_step (l : List SpanZ) (m : List (Nat × Nat)) (p : Nat × Nat) : upd (ksA l m) 2 (ksA l m 2 ++ [intT (p.1 : Int), intT (p.2 : Int)]) = ksA l (m ++ [p]) := by
  funext j
  unfold upd ksA
  split
  · rename_i h
    simp [rangeT]
  · rename_i h
    rfl
theorem fam_len (v : Bool) (l : List SpanZ) : (famT v l).length ≤ 2 * l.length := by
  unfold famT
  have h := List.length_filter_le (fun s : SpanZ => s.v == v) l
  have e : ∀ m : List SpanZ, (m.flatMap spanT).length = 2 * m.length := by
    intro m
    induction m with
    | nil => rfl
    | cons x r ih =>
      rw [List.flatMap_cons, List.length_append, ih, List.length_cons]
      show 2 + 2 * r.length = _
      omega
  rw [e]
  omega
theorem ksS_len (l : List SpanZ) (k : Nat) : (ksS l k).length ≤ 2 * l.length := by
  unfold ksS
  split
  · exact fam_len _ _
  · split
    · exact fam_len _ _
    · exact Nat.zero_le _
theorem ksA_len (l : List SpanZ) (m : List (Nat × Nat)) : (ksA l m 2).length = 2 * m.length := by
  show (m.flatMap rangeT).length = _
  induction m with
  | nil => rfl
  | cons x r ih =>
    rw [List.flatMap_cons, List.length_append, ih, List.length_cons]
    show 2 + 2 * r.length = _
    omega
theorem ksS_nil : ksS [] = fun _ => [] := by
  funext j
  unfold ksS
  split
  · rfl
  · split <;> rfl
theorem ksA_zero (l : List SpanZ) : ksS l = ksA l [] := by
  funext j
  unfold ksA
  split
  · rename_i h
    rw [h]
    rfl
  · rfl
theorem plan3_with {P : Program} {l : List Oper} {R : World → World → Prop} {Q : Exit → Act → World → Prop} {q : Plan3} {a : Act} {w : World} (p : Plan3) {α : Type} (f : Act → α → Act) (C : α → World → Prop) (T : ∀ x W, C x W → wpPlan3 P l R Q p (f a x) W) (h : (∀ x W, C x W → wpPlan3 P l R Q p (f a x) W) → wpPlan3 P l R Q q a w) : wpPlan3 P l R Q q a w := h T
theorem has_nodee {w W W0 : World} {tmps : Array Value} {fn : Func} {p u : Tmp} {t : T} {er : Int} {g : Nat} {A : Option Addr} {n c : Nat} {K : Option Addr} {m d : Nat} {x0 : Int} {x1 x2 : Value} (hf : fn.results = #[.cell p 29, .tmp u]) (hp : tmps.getD p undef = .pointer (some ⟨g, 0, none⟩)) (hu : tmps.getD u undef = .int .i64 er)
    (hb : Blk W g 29 (nodeC x0 x1 x2)) (hin : t.InP (W0.heap.size ≤ ·) W (.agg #[.int .i64 t.tag, .slice A n c, .slice K m d])) (hg : w.heap.size ≤ g) (hg2 : g < W0.heap.size) (hbel : Below w.heap.size w W) :
    bodyPost Tryz.prog fn (HasNodeE (t, er) w) .ret { tmps := tmps, defers := [] } (((W.setCell ⟨g, 0, none⟩ (.int .i64 t.tag)).setCell ⟨g, 1, none⟩ (.slice A n c)).setCell ⟨g, 2, none⟩ (.slice K m d)) := by
  have h1 : Blk (((W.setCell ⟨g, 0, none⟩ (.int .i64 t.tag)).setCell ⟨g, 1, none⟩ (.slice A n c)).setCell ⟨g, 2, none⟩ (.slice K m d)) g 29 #[.int .i64 t.tag, .slice A n c, .slice K m d] := ((Blk.set hb 0 _).set 1 _).set 2 _
  have h := results_nodee (P := Tryz.prog) hf tmps _ g 29 #[.int .i64 t.tag, .slice A n c, .slice K m d] (0, 0) _ hp h1 Tryz.underlying29 rfl Tryz.sizeNode3
  rw [hu] at h
  refine bodyPost_ret h rfl ⟨A, n, c, K, m, d, rfl, T.InP.in (P := fun _ => True) _ (T.InP.keep (fun x _ hx => ⟨trivial, ?_⟩) (by simp) _ hin), ((hbel.setCell (p := ⟨g, 0, none⟩) hg _).setCell (p := ⟨g, 1, none⟩) hg _).setCell (p := ⟨g, 2, none⟩) hg _⟩
  have hx' : W0.heap.size ≤ x := hx
  have hne : x ≠ g := by omega
  rw [heap_setCell_other _ _ _ _ hne, heap_setCell_other _ _ _ _ hne, heap_setCell_other _ _ _ _ hne]
set_option maxHeartbeats 40000000 in
theorem rnode13_any (r : ResZ) (v : Value) (w : World) (h : ResAt w v r) (hl : r.sp.length ≤ 40000) (hm : r.ns.length ≤ 40000) : Calls Tryz.prog 12 #[v] w (HasNodeE (nodeR r) w) := by
  have ok := h.ok
  have h0 := h
  obtain ⟨a, n, c, b, m, d, rfl, h1, h2⟩ := h
  have hn' := h1.1.1
  have hm' := h2.1.1
  have K0 := Blk.alloc (resbox w r.inh (.slice a n c) (.slice b m d)) (.cells #[.int .i64 0, .slice none 0 0, .slice none 0 0] 29)
  have K1 := Blk.new (w.alloc (.cells (resC r.inh (.slice a n c) (.slice b m d)) 25)) 29 #[.int .i64 0, .slice none 0 0, .slice none 0 0]
  rw [show (w.alloc (.cells (resC r.inh (.slice a n c) (.slice b m d)) 25)).heap.size = w.heap.size + 1 by simp] at K1
  have bw := Below.step (boxR_below w (.cells (resC r.inh (.slice a n c) (.slice b m d)) 25)) (boxR_below _ (.cells #[.int .i64 0, .slice none 0 0, .slice none 0 0] 29))
  have CR := Lib.hid (rright13_any r _ _ (h0.below bw) (by omega) (by omega))
  have SA := Lib.hid (h1.below bw)
  have RA := Lib.hid (h2.below bw)
  have BW := Lib.hid bw
  generalize hw2 : (w.alloc (.cells (resC r.inh (.slice a n c) (.slice b m d)) 25)).alloc (.cells #[.int .i64 0, .slice none 0 0, .slice none 0 0] 29) = w2 at *
  obtain ⟨g, hg⟩ : ∃ g, w.heap.size = g := ⟨_, rfl⟩
  have HG := Lib.hid hg
  rw [hg] at K0 K1
  have BX := Lib.hid K0
  have BN : Hid (Blk w2 (g + 1) 29 (nodeC 0 (.slice none 0 0) (.slice none 0 0))) := Lib.hid K1
  have NA := Lib.hid hn'
  have MA := Lib.hid hm'
  have NL : Hid (n ≤ 40000 ∧ m ≤ 40000) := Lib.hid (by omega)
  have EN : Hid (nodeR r = if rightR r = true then (if r.inh = true then (.node 5 [] [], 0) else (.node 48 [] [.node 48 [] (famT false r.sp), .node 48 [] (famT true r.sp), .node 48 [] (r.ns.flatMap rangeT)], 0)) else (zeroT, 1)) := Lib.hid (by
    unfold nodeR resT
    split
    · split <;> rfl
    · rfl)
  have US := Lib.hid h1.spans
  have UR := Lib.hid h2.under
  clear K0 K1 h0 h1 h2 bw ok hl hm hn' hm'
  generalize nodeR r = q at *
  generalize rightR r = rr at *
  generalize r.inh = i at *
  generalize r.sp = X at *
  generalize r.ns = Y at *
  go_enter Tryz.func12, Tryz.ntmps12
  go_upto_region 1 with fail
  clear hw2
  cases rr with
  | false =>
    rw [if_neg (by decide)] at EN
    obtain rfl := EN.out
    clear EN SA RA US UR
    go_wp2_with (first
      | (refine load_res_any (by rfl) (.tmp 1) rfl g rfl BX.out ?_)
      | (go_at_call 18
         refine CR.out.mono ?_
         rintro e w3 ⟨rfl, hb3⟩
         replace BW := Lib.hid (Below.step BW.out hb3)
         replace BN := Lib.hid (BN.out.below hb3 BN.out.lt)
         obtain ⟨p0, p1, p2, f0, f1, f2⟩ := Blk.six (show Blk _ _ _ #[.int .i64 0, .slice none 0 0, .slice none 0 0] from BN.out)
         clear hb3 CR BX))
    exact has_nodee (t := zeroT) (W0 := w3) rfl rfl rfl BN.out (zero_in _ _) (by omega) BN.out.lt BW.out
  | true =>
  rw [if_pos rfl] at EN
  cases i with
  | true =>
    rw [if_pos rfl] at EN
    obtain rfl := EN.out
    clear EN SA RA US UR
    go_wp2_with (first
      | (refine load_res_any (by rfl) (.tmp 1) rfl g rfl BX.out ?_)
      | (go_at_call 18
         refine CR.out.mono ?_
         rintro e w3 ⟨rfl, hb3⟩
         replace BW := Lib.hid (Below.step BW.out hb3)
         replace BN := Lib.hid (BN.out.below hb3 BN.out.lt)
         obtain ⟨p0, p1, p2, f0, f1, f2⟩ := Blk.six (show Blk _ _ _ #[.int .i64 0, .slice none 0 0, .slice none 0 0] from BN.out)
         have bx3 := BX.out.below hb3 BX.out.lt
         have c0 : w3.cell? ⟨g, 0, none⟩ = some (.bool true) := Blk.cell bx3 0
         clear hb3 CR BX bx3))
    exact has_nodee (t := .node 5 [] []) (W0 := w3) rfl rfl rfl BN.out (leaf_inP rfl (Row.nil _ _) (by simp) (fun _ => rfl) (fun h => absurd h (by simp))) (by omega) BN.out.lt BW.out
  | false =>
  rw [if_neg (by decide)] at EN
  obtain rfl := EN.out
  clear EN
  have SB := Lib.hid (SA.out.below (Below.refl _ _))
  clear SB
  go_upto_region 5 with (first
    | (refine load_res_any (by rfl) (.tmp 1) rfl g rfl BX.out ?_)
    | (go_at_call 18
       refine CR.out.mono ?_
       rintro e w3 ⟨rfl, hb3⟩
       replace BW := Lib.hid (Below.step BW.out hb3)
       replace BN := Lib.hid (BN.out.below hb3 BN.out.lt)
       replace BX := Lib.hid (BX.out.below hb3 BX.out.lt)
       replace SA := Lib.hid (SA.out.below hb3)
       replace RA := Lib.hid (RA.out.below hb3)
       have c0 : w3.cell? ⟨g, 0, none⟩ = some (.bool false) := Blk.cell BX.out 0
       clear hb3 CR))
  clear c0
  have KK : Hid (Kids3 w3 (w3.alloc (.cells #[.int .i64 48, .slice none 0 0, .slice none 0 0, .int .i64 48, .slice none 0 0, .slice none 0 0, .int .i64 48, .slice none 0 0, .slice none 0 0] 29)) (fun _ => .slice none 0 0) (fun _ => .slice none 0 0) (fun _ => []) [] []) := Lib.hid (Kids3.start w3)
  generalize hw4 : w3.alloc (.cells #[.int .i64 48, .slice none 0 0, .slice none 0 0, .int .i64 48, .slice none 0 0, .slice none 0 0, .int .i64 48, .slice none 0 0, .slice none 0 0] 29) = w4 at *
  go_wp2_with fail
  clear hw4
  go_loopw [5] (fun iV wr => ∃ (k : Nat) (V : Nat → Value), iV = .int .i64 (k : Int) ∧ k ≤ n ∧ Kids3 w3 wr V V (ksS (X.take k)) [] []) (fun iV _ => ((n : Int) - intOf iV).toNat)
  case atStart => exact ⟨0, _, rfl, Nat.zero_le _, KK.out.closed rfl (by rw [List.take_zero]; exact ksS_nil.symm)⟩
  case round =>
    clear KK
    obtain ⟨k, V, rfl, hk, hkk⟩ := hrel
    have KK := Lib.hid hkk
    have c1 : wr.cell? ⟨g, 1, none⟩ = some (.slice a n c) := Blk.cell (BX.out.below hkk.bel BX.out.lt) 1
    clear hkk
    by_cases hlt : k < n
    · have t0 : decide ((k : Int) < (n : Int)) = true := decide_eq_true (by omega)
      have t0' : decide (k < n) = true := decide_eq_true hlt
      have k0 : (0 : Int) ≤ (k : Int) := by omega
      have k1 : (k : Int) < (n : Int) := by omega
      have kI : IntKind.i64.wrap ((k : Int) + 1) = (k : Int) + 1 := IntWalk.i64_in _ (by have := NL.out; omega)
      obtain ⟨bA, oA, rfl, hbA⟩ := SA.out.1.form (by omega)
      clear hbA
      have kl : k < X.length := by rw [NA.out]; exact hlt
      have q6 := SA.out.1.2.1 _ (List.getElem_mem kl)
      have PX := Lib.hid q6
      have LP : Hid ((Tryz.prog.info? 62).map (·.size) = some (scL X[k]).length) := Lib.hid (by rw [scL_len q6, Tryz.sizeS q6, scells_size q6])
      have EP : Hid ((scL X[k]).toArray = scells X[k]) := Lib.hid rfl
      have PGA := Lib.hid ((SA.out.1.below KK.out.bel).range k kl)
      have XB : Hid (SBlk (wr.alloc (.cells (scells X[k]) 62)) wr.heap.size X[k]) := Lib.hid (sbox wr X[k])
      have AZ : Hid (SBlk (wr.alloc (.cells (scells zeroS) 62)) wr.heap.size zeroS) := Lib.hid (sbox wr zeroS)
      have QG : Hid (wr.heap.size ≠ w3.heap.size ∧ ∀ j, j < 3 → (V j).ownBlock ≠ some wr.heap.size) := Lib.hid ⟨by have := KK.out.box.lt; omega, fun j hj e => by have := (KK.out.lt hj e).2; omega⟩
      replace KK : Hid (Kids3 w3 (wr.alloc (.cells (scells X[k]) 62)) V V (ksS (X.take k)) [] []) := Lib.hid (KK.out.below (box_below _ _))
      have PT := Lib.hid (fun (kk : Nat) (h : kk = kS (X[k]).v) => (ksS_step (X.take k) X[k] kk h).trans (by rw [← List.take_succ_eq_append_getElem kl]))
      have PL := Lib.hid (fun kk : Nat => (show (ksS (X.take k) kk).length + 2 ≤ 100000 from by
        have h1 := ksS_len (X.take k) kk
        rw [List.length_take] at h1
        have := NL.out
        omega))
      clear q6
      generalize X[k] = p at *
      go_upto_block 1 with fail
      go_cut [] from 20 to 56 (fun wx => ∃ V', Kids3 w3 wx V' V' (ksS (X.take (k + 1))) [] [])
      case rest =>
        obtain ⟨V', hkk⟩ := hcut
        have K9 := Lib.hid hkk
        clear hkk KK
        go_wp2_with fail
        go_roundw
        case rel => exact ⟨k + 1, V', by go_num, by omega, K9.out⟩
        case measure => simp only [intOf]; omega
      go_upto_region 10 with (first
        | ((with_reducible refine load_span_at 30 bA (oA + k * 33) (scL p) ?_ PGA.out LP.out ?_); (· rfl); rw [EP.out])
        | (with_reducible refine alloc_span_at ?_)
        | ((with_reducible refine store_span_at 6 31 wr.heap.size zeroS p zeroS_six PX.out ?_ ?_ AZ.out ?_); (· rfl); (· rfl); rw [alloc_setRow]))
      clear AZ PGA LP EP c1
      generalize hw8 : wr.alloc (.cells (scells p) 62) = w8 at *
      clear hw8
      generalize wr.heap.size = g8 at *
      obtain ⟨v, lo, hi⟩ := p
      dsimp only at *
      have v0 : w8.cell? ⟨g8, 0, none⟩ = some (.bool v) := SBlk.v XB.out
      have CB1 := Lib.hid (fun W => rbytes13_any v lo W PX.out.1)
      have CB2 := Lib.hid (fun W => rbytes13_any v hi W PX.out.2)
      have SL := Lib.hid (Tryz.sizeA PX.out.1.1)
      have SH := Lib.hid (Tryz.sizeA PX.out.2.1)
      obtain ⟨V0, hV0⟩ : ∃ V0, V0 = V := ⟨V, rfl⟩
      cases v
      · replace PT := Lib.hid (PT.out 0 rfl)
        obtain ⟨A, cA, hA⟩ := KK.out.form (k := 0) (by decide)
        have hLn := PL.out 0
        obtain ⟨nX, hn⟩ : ∃ nX, (ksS (X.take k) 0).length = nX := ⟨_, rfl⟩
        rw [hn] at hA
        have EV := Lib.hid hA
        have NX := Lib.hid (⟨hn, hLn⟩ : _ ∧ _)
        have nI : IntKind.i64.wrap ((nX : Int) + 1) = ((nX + 1 : Nat) : Int) := (IntWalk.i64_in _ (by omega)).trans (by omega)
        clear hA hLn hn PL
        go_upto_region 13 with fail
        clear v0
        refine wp_region_plan3 (Still (w8.drewN 1).heap.size w3.heap.size V) (Still.refl _ _ _) Still.trans (.take 0 (.take 1 (.take 2 (.take 3 (.take 5 (.take 6 (.take 7 (.take 8 (.take 10 (.take 11 (.take 12 (.take 13 (.fork3 4 (.take 15 (.take 20 (.fork 9 (.fork 14 (.sole 16 (.sole 17 (.take 18 (.take 23 (.take 24 (.fork 19 (.take 21 (.fork 22 (.sole 25 .fin) 25 (.sole 22 .fin))) 25 (.sole 19 (.take 21 (.sole 22 .fin))))))))) 16 (.sole 14 (.sole 17 (.take 18 (.take 23 (.take 24 (.fork 19 (.take 21 (.fork 22 (.sole 25 .fin) 25 (.sole 22 .fin))) 25 (.sole 19 (.take 21 (.sole 22 .fin)))))))))) 16 (.sole 9 (.sole 14 (.sole 17 (.take 18 (.take 23 (.take 24 (.fork 19 (.take 21 (.fork 22 (.sole 25 .fin) 25 (.sole 22 .fin))) 25 (.sole 19 (.take 21 (.sole 22 .fin))))))))))))) 9 (.fork3 4 (.take 15 (.take 20 (.fork 14 (.sole 16 (.sole 17 (.take 18 (.take 23 (.take 24 (.fork 19 (.take 21 (.fork 22 (.sole 25 .fin) 25 (.sole 22 .fin))) 25 (.sole 19 (.take 21 (.sole 22 .fin))))))))) 16 (.sole 14 (.sole 17 (.take 18 (.take 23 (.take 24 (.fork 19 (.take 21 (.fork 22 (.sole 25 .fin) 25 (.sole 22 .fin))) 25 (.sole 19 (.take 21 (.sole 22 .fin)))))))))))) 14 (.fork 4 (.take 15 (.take 20 (.sole 16 (.sole 17 (.take 18 (.take 23 (.take 24 (.fork 19 (.take 21 (.fork 22 (.sole 25 .fin) 25 (.sole 22 .fin))) 25 (.sole 19 (.take 21 (.sole 22 .fin))))))))))) 16 (.sole 4 (.take 15 (.take 20 (.sole 17 (.take 18 (.take 23 (.take 24 (.fork 19 (.take 21 (.fork 22 (.sole 25 .fin) 25 (.sole 22 .fin))) 25 (.sole 19 (.take 21 (.sole 22 .fin)))))))))))) 16 (.fork 4 (.take 15 (.take 20 (.sole 14 (.sole 17 (.take 18 (.take 23 (.take 24 (.fork 19 (.take 21 (.fork 22 (.sole 25 .fin) 25 (.sole 22 .fin))) 25 (.sole 19 (.take 21 (.sole 22 .fin))))))))))) 14 (.sole 4 (.take 15 (.take 20 (.sole 17 (.take 18 (.take 23 (.take 24 (.fork 19 (.take 21 (.fork 22 (.sole 25 .fin) 25 (.sole 22 .fin))) 25 (.sole 19 (.take 21 (.sole 22 .fin))))))))))))) 16 (.fork 4 (.take 15 (.take 20 (.sole 9 (.sole 14 (.sole 17 (.take 18 (.take 23 (.take 24 (.fork 19 (.take 21 (.fork 22 (.sole 25 .fin) 25 (.sole 22 .fin))) 25 (.sole 19 (.take 21 (.sole 22 .fin)))))))))))) 9 (.fork 4 (.take 15 (.take 20 (.sole 14 (.sole 17 (.take 18 (.take 23 (.take 24 (.fork 19 (.take 21 (.fork 22 (.sole 25 .fin) 25 (.sole 22 .fin))) 25 (.sole 19 (.take 21 (.sole 22 .fin))))))))))) 14 (.sole 4 (.take 15 (.take 20 (.sole 17 (.take 18 (.take 23 (.take 24 (.fork 19 (.take 21 (.fork 22 (.sole 25 .fin) 25 (.sole 22 .fin))) 25 (.sole 19 (.take 21 (.sole 22 .fin)))))))))))))))))))))))))) (by kernel_rfl) (by kernel_rfl) rfl (by kernel_rfl) (fun _ _ _ _ _ h => h) ?_
        change wpPlan3 _ _ _ _ _ _ (w8.drewN 1)
        replace KK := Lib.hid (KK.out.below (drewN_below _ 1))
        replace XB : Hid (SBlk (w8.drewN 1) g8 ⟨false, lo, hi⟩) := XB
        generalize w8.drewN 1 = w9 at *
        have BC := Lib.hid (Still.refl w9.heap.size w3.heap.size V w9)
        refine plan3_take _ rfl (by rfl) (fun W hW => by go_simp; first | done | rfl) ?_
        simp only [Act.put, List.setIfInBounds_toArray, List.set_cons_zero, List.set_cons_succ]
        refine plan3_take _ rfl (by rfl) (fun W hW => by go_simp; first | done | rfl) ?_
        simp only [Act.put, List.setIfInBounds_toArray, List.set_cons_zero, List.set_cons_succ]
        refine plan3_take _ rfl (by rfl) (fun W hW => by go_simp; first | done | rfl) ?_
        simp only [Act.put, List.setIfInBounds_toArray, List.set_cons_zero, List.set_cons_succ]
        refine plan3_take _ rfl (by rfl) (fun W hW => by go_simp; first | done | rfl) ?_
        simp only [Act.put, List.setIfInBounds_toArray, List.set_cons_zero, List.set_cons_succ]
        refine plan3_take _ rfl (by rfl) (fun W hW => by go_simp; first | done | rfl) ?_
        simp only [Act.put, List.setIfInBounds_toArray, List.set_cons_zero, List.set_cons_succ]
        refine plan3_take _ rfl (by rfl) (fun W hW => yields_bool (.tmp 39) rfl g8 0 _ rfl (SBlk.v (Blk.still XB.out (Still.trans _ _ _ BC.out hW) XB.out.lt QG.out.1 QG.out.2))) ?_
        simp only [Act.put, List.setIfInBounds_toArray, List.set_cons_zero, List.set_cons_succ]
        refine plan3_take _ rfl (by rfl) (fun W hW => by go_simp; first | done | rfl) ?_
        simp only [Act.put, List.setIfInBounds_toArray, List.set_cons_zero, List.set_cons_succ]
        refine plan3_take _ rfl (by rfl) (fun W hW => yields_part 41 (.tmp 41) rfl g8 1 (acells lo) _ rfl (SBlk.lo (Blk.still XB.out (Still.trans _ _ _ BC.out hW) XB.out.lt QG.out.1 QG.out.2) PX.out) Tryz.underlying41 rfl SL.out) ?_
        simp only [Act.put, List.setIfInBounds_toArray, List.set_cons_zero, List.set_cons_succ]
        refine plan3_take _ rfl (by rfl) (fun W hW => by go_simp; first | done | rfl) ?_
        simp only [Act.put, List.setIfInBounds_toArray, List.set_cons_zero, List.set_cons_succ]
        refine plan3_take _ rfl (by rfl) (fun W hW => yields_bool (.tmp 44) rfl g8 0 _ rfl (SBlk.v (Blk.still XB.out (Still.trans _ _ _ BC.out hW) XB.out.lt QG.out.1 QG.out.2))) ?_
        simp only [Act.put, List.setIfInBounds_toArray, List.set_cons_zero, List.set_cons_succ]
        refine plan3_take _ rfl (by rfl) (fun W hW => by go_simp; first | done | rfl) ?_
        simp only [Act.put, List.setIfInBounds_toArray, List.set_cons_zero, List.set_cons_succ]
        refine plan3_take _ rfl (by rfl) (fun W hW => yields_part 41 (.tmp 46) rfl g8 17 (acells hi) _ rfl (SBlk.hi (Blk.still XB.out (Still.trans _ _ _ BC.out hW) XB.out.lt QG.out.1 QG.out.2) PX.out) Tryz.underlying41 rfl SH.out) ?_
        simp only [Act.put, List.setIfInBounds_toArray, List.set_cons_zero, List.set_cons_succ]
        refine plan3_with (.take 18 (.take 23 (.take 24 (.fork 19 (.take 21 (.fork 22 (.sole 25 .fin) 25 (.sole 22 .fin))) 25 (.sole 19 (.take 21 (.sole 22 .fin))))))) (fun a1 (x : Value × Value × Nat × Nat × Nat) => ((((((a1.put (some 38) (.slice A nX cA)).put (some 43) x.1).put (some 48) x.2.1).put (some 49) (.int .i64 (nX : Int))).put (some 50) (.slice (some ⟨x.2.2.1, 0, none⟩) 2 2)).put (some 53) (.int .i64 ((nX + 1 : Nat) : Int))).put (some 51) (.slice (some ⟨x.2.2.2.1, 0, none⟩) (nX + 2) x.2.2.2.2)) (fun x W => Kids3 w3 W V (upd V 0 (.slice (some ⟨x.2.2.2.1, 0, none⟩) (nX + 2) x.2.2.2.2)) (upd (ksS (X.take k)) 0 ((ksS (X.take k)) 0 ++ [zeroT, zeroT])) (([] ++ [((addrT false lo), x.1)]) ++ [((addrT false hi), x.2.1)]) [x.2.2.1] ∧ ((V 0).ownBlock = some x.2.2.2.1 ∨ w9.heap.size ≤ x.2.2.2.1) ∧ Still w9.heap.size w3.heap.size V w9 W) ?_ ?_
        · as_aux_lemma =>
            clear KK BC
            rintro ⟨v1, v2, HZ, GX, cX⟩ W9 ⟨hkk, hgq, hst⟩
            have KK := Lib.hid hkk
            have GQ := Lib.hid hgq
            have BC := Lib.hid hst
            clear hkk hgq hst
            dsimp only at KK GQ
            simp only [Act.put, List.setIfInBounds_toArray, List.set_cons_zero, List.set_cons_succ]
            refine plan3_take _ rfl (by rfl) (fun W hW => yields_nodeAt (.tmp 51) (.tmp 49) rfl GX (nX + 2) cX rfl _ rfl nX rfl (by omega)) ?_
            simp only [Act.put, List.setIfInBounds_toArray, List.set_cons_zero, List.set_cons_succ]
            refine plan3_take _ rfl (by rfl) (fun W hW => by go_simp; first | done | rfl) ?_
            simp only [Act.put, List.setIfInBounds_toArray, List.set_cons_zero, List.set_cons_succ]
            refine plan3_take _ rfl (by rfl) (fun W hW => by go_simp; first | done | rfl) ?_
            simp only [Act.put, List.setIfInBounds_toArray, List.set_cons_zero, List.set_cons_succ]
            refine plan3_fork ?_ ?_
            · refine sole_take rfl (by rfl) (fun K1 hK1 => ?_)
              refine op_kids_set KK.out (.tmp 52) (.tmp 43) 0 (by decide) rfl rfl GX (nX + 2) cX nX _ (upd_at _ _ _) ?_ ?_ rfl (addrT false lo) _ rfl rfl ?_ ?_
              · simp [upd_at, NX.out.1]
              · simp [upd_at, NX.out.1]
              · exact (List.mem_append_left _ (List.mem_append_right _ (List.mem_singleton.2 rfl)))
              intro W9 hkk hfar hsz
              have hs9 := Still.far (t := w3.heap.size) (k := 0) hfar hsz (by decide) GQ.out
              refine hK1 _ _ hs9 ?_
              clear hK1 K1
              replace KK := Lib.hid hkk
              replace BC := Lib.hid (Still.trans _ _ _ BC.out hs9)
              clear hkk hfar hsz hs9
              try simp only [Act.put, List.setIfInBounds_toArray, List.set_cons_zero, List.set_cons_succ]
              refine plan3_take _ rfl (by rfl) (fun W hW => yields_nodeAt (.tmp 51) (.tmp 53) rfl GX (nX + 2) cX rfl _ rfl (nX + 1) rfl (by omega)) ?_
              simp only [Act.put, List.setIfInBounds_toArray, List.set_cons_zero, List.set_cons_succ]
              refine plan3_fork ?_ ?_
              · refine sole_take rfl (by rfl) (fun K1 hK1 => ?_)
                refine op_kids_set KK.out (.tmp 54) (.tmp 48) 0 (by decide) rfl rfl GX (nX + 2) cX (nX + 1) _ (upd_at _ _ _) ?_ ?_ rfl (addrT false hi) _ rfl rfl ?_ ?_
                · simp [upd_at, NX.out.1]
                · simp [upd_at, NX.out.1]
                · exact (List.mem_append_right _ (List.mem_singleton.2 rfl))
                intro W9 hkk hfar hsz
                have hs9 := Still.far (t := w3.heap.size) (k := 0) hfar hsz (by decide) GQ.out
                refine hK1 _ _ hs9 ?_
                clear hK1 K1
                replace KK := Lib.hid hkk
                replace BC := Lib.hid (Still.trans _ _ _ BC.out hs9)
                clear hkk hfar hsz hs9
                try simp only [Act.put, List.setIfInBounds_toArray, List.set_cons_zero, List.set_cons_succ]
                refine plan3_sole (sole_take rfl (by rfl) (fun K1 hK1 => ?_))
                refine op_kids_store KK.out (.tmp 56) (.tmp 51) 0 (by decide) rfl rfl _ _ _ _ rfl rfl rfl ?_
                intro W9 hkk hfar hsz
                have hs9 := Still.tab (B := w9.heap.size) (V := V) hfar hsz
                refine hK1 _ _ hs9 ?_
                clear hK1 K1
                replace KK := Lib.hid hkk
                replace BC := Lib.hid (Still.trans _ _ _ BC.out hs9)
                clear hkk hfar hsz hs9
                try simp only [Act.put, List.setIfInBounds_toArray, List.set_cons_zero, List.set_cons_succ]
                refine plan3_end ?_
                go_wp2_with fail
                go_meet
                exact ⟨_, KK.out.closed rfl ((upd_three _ _ _ NX.out.1 _ _).trans PT.out)⟩
              · refine sole_take rfl (by rfl) (fun K1 hK1 => ?_)
                refine op_kids_store KK.out (.tmp 56) (.tmp 51) 0 (by decide) rfl rfl _ _ _ _ rfl rfl rfl ?_
                intro W9 hkk hfar hsz
                have hs9 := Still.tab (B := w9.heap.size) (V := V) hfar hsz
                refine hK1 _ _ hs9 ?_
                clear hK1 K1
                replace KK := Lib.hid hkk
                replace BC := Lib.hid (Still.trans _ _ _ BC.out hs9)
                clear hkk hfar hsz hs9
                try simp only [Act.put, List.setIfInBounds_toArray, List.set_cons_zero, List.set_cons_succ]
                refine plan3_sole (sole_take rfl (by rfl) (fun K1 hK1 => ?_))
                refine op_kids_set KK.out (.tmp 54) (.tmp 48) 0 (by decide) rfl rfl GX (nX + 2) cX (nX + 1) _ (upd_at _ _ _) ?_ ?_ rfl (addrT false hi) _ rfl rfl ?_ ?_
                · simp [upd_at, NX.out.1]
                · simp [upd_at, NX.out.1]
                · exact (List.mem_append_right _ (List.mem_singleton.2 rfl))
                intro W9 hkk hfar hsz
                have hs9 := Still.far (t := w3.heap.size) (k := 0) hfar hsz (by decide) GQ.out
                refine hK1 _ _ hs9 ?_
                clear hK1 K1
                replace KK := Lib.hid hkk
                replace BC := Lib.hid (Still.trans _ _ _ BC.out hs9)
                clear hkk hfar hsz hs9
                try simp only [Act.put, List.setIfInBounds_toArray, List.set_cons_zero, List.set_cons_succ]
                refine plan3_end ?_
                go_wp2_with fail
                go_meet
                exact ⟨_, KK.out.closed rfl ((upd_three _ _ _ NX.out.1 _ _).trans PT.out)⟩
            · refine sole_take rfl (by rfl) (fun K1 hK1 => ?_)
              refine op_kids_store KK.out (.tmp 56) (.tmp 51) 0 (by decide) rfl rfl _ _ _ _ rfl rfl rfl ?_
              intro W9 hkk hfar hsz
              have hs9 := Still.tab (B := w9.heap.size) (V := V) hfar hsz
              refine hK1 _ _ hs9 ?_
              clear hK1 K1
              replace KK := Lib.hid hkk
              replace BC := Lib.hid (Still.trans _ _ _ BC.out hs9)
              clear hkk hfar hsz hs9
              try simp only [Act.put, List.setIfInBounds_toArray, List.set_cons_zero, List.set_cons_succ]
              refine plan3_sole (sole_take rfl (by rfl) (fun K1 hK1 => ?_))
              refine op_kids_set KK.out (.tmp 52) (.tmp 43) 0 (by decide) rfl rfl GX (nX + 2) cX nX _ (upd_at _ _ _) ?_ ?_ rfl (addrT false lo) _ rfl rfl ?_ ?_
              · simp [upd_at, NX.out.1]
              · simp [upd_at, NX.out.1]
              · exact (List.mem_append_left _ (List.mem_append_right _ (List.mem_singleton.2 rfl)))
              intro W9 hkk hfar hsz
              have hs9 := Still.far (t := w3.heap.size) (k := 0) hfar hsz (by decide) GQ.out
              refine hK1 _ _ hs9 ?_
              clear hK1 K1
              replace KK := Lib.hid hkk
              replace BC := Lib.hid (Still.trans _ _ _ BC.out hs9)
              clear hkk hfar hsz hs9
              try simp only [Act.put, List.setIfInBounds_toArray, List.set_cons_zero, List.set_cons_succ]
              refine plan3_take _ rfl (by rfl) (fun W hW => yields_nodeAt (.tmp 51) (.tmp 53) rfl GX (nX + 2) cX rfl _ rfl (nX + 1) rfl (by omega)) ?_
              simp only [Act.put, List.setIfInBounds_toArray, List.set_cons_zero, List.set_cons_succ]
              refine plan3_sole (sole_take rfl (by rfl) (fun K1 hK1 => ?_))
              refine op_kids_set KK.out (.tmp 54) (.tmp 48) 0 (by decide) rfl rfl GX (nX + 2) cX (nX + 1) _ (upd_at _ _ _) ?_ ?_ rfl (addrT false hi) _ rfl rfl ?_ ?_
              · simp [upd_at, NX.out.1]
              · simp [upd_at, NX.out.1]
              · exact (List.mem_append_right _ (List.mem_singleton.2 rfl))
              intro W9 hkk hfar hsz
              have hs9 := Still.far (t := w3.heap.size) (k := 0) hfar hsz (by decide) GQ.out
              refine hK1 _ _ hs9 ?_
              clear hK1 K1
              replace KK := Lib.hid hkk
              replace BC := Lib.hid (Still.trans _ _ _ BC.out hs9)
              clear hkk hfar hsz hs9
              try simp only [Act.put, List.setIfInBounds_toArray, List.set_cons_zero, List.set_cons_succ]
              refine plan3_end ?_
              go_wp2_with fail
              go_meet
              exact ⟨_, KK.out.closed rfl ((upd_three _ _ _ NX.out.1 _ _).trans PT.out)⟩
        · as_aux_lemma =>
            intro TT
            replace TT := Lib.hid TT
            refine plan3_three ?_ ?_ ?_
            · refine sole_take rfl (by rfl) (fun K1 hK1 => ?_)
              refine op_kids_load KK.out (.tmp 37) rfl 0 (by decide) _ rfl rfl _ EV.out ?_
              refine hK1 _ _ (Still.refl _ _ _ _) ?_
              clear hK1 K1
              try simp only [Act.put, List.setIfInBounds_toArray, List.set_cons_zero, List.set_cons_succ]
              refine plan3_take _ rfl (by rfl) (fun W hW => by go_simp; first | done | rfl) ?_
              simp only [Act.put, List.setIfInBounds_toArray, List.set_cons_zero, List.set_cons_succ]
              refine plan3_take _ rfl (by rfl) (fun W hW => by go_simp; first | done | rfl) ?_
              simp only [Act.put, List.setIfInBounds_toArray, List.set_cons_zero, List.set_cons_succ]
              refine plan3_fork ?_ ?_
              · refine sole_take rfl (by rfl) (fun K1 hK1 => ?_)
                go_simp
                refine (CB1.out _).mono ?_
                rintro e W9 ⟨A9, n9, c9, K9, m9, d9, rfl, hin, hb9⟩
                refine hK1 _ _ (Still.below hb9 BC.out.1) ?_
                clear hK1 K1 CB1
                replace KK := Lib.hid (KK.out.node hb9 hin)
                replace BC := Lib.hid (Still.trans _ _ _ BC.out (Still.below hb9 BC.out.1))
                clear hin hb9
                try simp only [Act.put, List.setIfInBounds_toArray, List.set_cons_zero, List.set_cons_succ]
                refine plan3_fork ?_ ?_
                · refine sole_take rfl (by rfl) (fun K1 hK1 => ?_)
                  go_simp
                  refine (CB2.out _).mono ?_
                  rintro e W9 ⟨A9, n9, c9, K9, m9, d9, rfl, hin, hb9⟩
                  refine hK1 _ _ (Still.below hb9 BC.out.1) ?_
                  clear hK1 K1 CB2
                  replace KK := Lib.hid (KK.out.node hb9 hin)
                  replace BC := Lib.hid (Still.trans _ _ _ BC.out (Still.below hb9 BC.out.1))
                  clear hin hb9
                  try simp only [Act.put, List.setIfInBounds_toArray, List.set_cons_zero, List.set_cons_succ]
                  refine plan3_sole (sole_take rfl (by rfl) (fun K1 hK1 => ?_))
                  refine op_kids_zero KK.out _ rfl (by kernel_rfl) ?_
                  intro HZ W9 hkk hb9
                  refine hK1 _ _ (Still.below hb9 BC.out.1) ?_
                  clear hK1 K1
                  replace KK := Lib.hid hkk
                  replace BC := Lib.hid (Still.trans _ _ _ BC.out (Still.below hb9 BC.out.1))
                  clear hkk hb9
                  try simp only [Act.put, List.setIfInBounds_toArray, List.set_cons_zero, List.set_cons_succ]
                  refine plan3_sole (sole_take rfl (by rfl) (fun K1 hK1 => ?_))
                  refine op_kids_append KK.out (.tmp 38) (.tmp 50) 0 (by decide) rfl EV.out.symm HZ (by simp) rfl NX.out.2 nX NX.out.1 ?_
                  intro GX cX W9 hkk hat hst
                  have hs9 := hst _ BC.out.1
                  refine hK1 _ _ hs9 ?_
                  clear hK1 K1
                  have GQ := Lib.hid (hat.imp_right (Nat.le_trans BC.out.1))
                  replace KK := Lib.hid hkk
                  replace BC := Lib.hid (Still.trans _ _ _ BC.out hs9)
                  clear hkk hat hst hs9
                  try simp only [Act.put, List.setIfInBounds_toArray, List.set_cons_zero, List.set_cons_succ]
                  have T0 := TT.out (_, _, HZ, GX, cX) W9 ⟨KK.out, GQ.out, BC.out⟩
                  simp only [Act.put, List.setIfInBounds_toArray, List.set_cons_zero, List.set_cons_succ] at T0
                  exact T0
                · refine sole_take rfl (by rfl) (fun K1 hK1 => ?_)
                  refine op_kids_zero KK.out _ rfl (by kernel_rfl) ?_
                  intro HZ W9 hkk hb9
                  refine hK1 _ _ (Still.below hb9 BC.out.1) ?_
                  clear hK1 K1
                  replace KK := Lib.hid hkk
                  replace BC := Lib.hid (Still.trans _ _ _ BC.out (Still.below hb9 BC.out.1))
                  clear hkk hb9
                  try simp only [Act.put, List.setIfInBounds_toArray, List.set_cons_zero, List.set_cons_succ]
                  refine plan3_sole (sole_take rfl (by rfl) (fun K1 hK1 => ?_))
                  go_simp
                  refine (CB2.out _).mono ?_
                  rintro e W9 ⟨A9, n9, c9, K9, m9, d9, rfl, hin, hb9⟩
                  refine hK1 _ _ (Still.below hb9 BC.out.1) ?_
                  clear hK1 K1 CB2
                  replace KK := Lib.hid (KK.out.node hb9 hin)
                  replace BC := Lib.hid (Still.trans _ _ _ BC.out (Still.below hb9 BC.out.1))
                  clear hin hb9
                  try simp only [Act.put, List.setIfInBounds_toArray, List.set_cons_zero, List.set_cons_succ]
                  refine plan3_sole (sole_take rfl (by rfl) (fun K1 hK1 => ?_))
                  refine op_kids_append KK.out (.tmp 38) (.tmp 50) 0 (by decide) rfl EV.out.symm HZ (by simp) rfl NX.out.2 nX NX.out.1 ?_
                  intro GX cX W9 hkk hat hst
                  have hs9 := hst _ BC.out.1
                  refine hK1 _ _ hs9 ?_
                  clear hK1 K1
                  have GQ := Lib.hid (hat.imp_right (Nat.le_trans BC.out.1))
                  replace KK := Lib.hid hkk
                  replace BC := Lib.hid (Still.trans _ _ _ BC.out hs9)
                  clear hkk hat hst hs9
                  try simp only [Act.put, List.setIfInBounds_toArray, List.set_cons_zero, List.set_cons_succ]
                  have T0 := TT.out (_, _, HZ, GX, cX) W9 ⟨KK.out, GQ.out, BC.out⟩
                  simp only [Act.put, List.setIfInBounds_toArray, List.set_cons_zero, List.set_cons_succ] at T0
                  exact T0
              · refine sole_take rfl (by rfl) (fun K1 hK1 => ?_)
                refine op_kids_zero KK.out _ rfl (by kernel_rfl) ?_
                intro HZ W9 hkk hb9
                refine hK1 _ _ (Still.below hb9 BC.out.1) ?_
                clear hK1 K1
                replace KK := Lib.hid hkk
                replace BC := Lib.hid (Still.trans _ _ _ BC.out (Still.below hb9 BC.out.1))
                clear hkk hb9
                try simp only [Act.put, List.setIfInBounds_toArray, List.set_cons_zero, List.set_cons_succ]
                refine plan3_sole (sole_take rfl (by rfl) (fun K1 hK1 => ?_))
                go_simp
                refine (CB1.out _).mono ?_
                rintro e W9 ⟨A9, n9, c9, K9, m9, d9, rfl, hin, hb9⟩
                refine hK1 _ _ (Still.below hb9 BC.out.1) ?_
                clear hK1 K1 CB1
                replace KK := Lib.hid (KK.out.node hb9 hin)
                replace BC := Lib.hid (Still.trans _ _ _ BC.out (Still.below hb9 BC.out.1))
                clear hin hb9
                try simp only [Act.put, List.setIfInBounds_toArray, List.set_cons_zero, List.set_cons_succ]
                refine plan3_sole (sole_take rfl (by rfl) (fun K1 hK1 => ?_))
                go_simp
                refine (CB2.out _).mono ?_
                rintro e W9 ⟨A9, n9, c9, K9, m9, d9, rfl, hin, hb9⟩
                refine hK1 _ _ (Still.below hb9 BC.out.1) ?_
                clear hK1 K1 CB2
                replace KK := Lib.hid (KK.out.node hb9 hin)
                replace BC := Lib.hid (Still.trans _ _ _ BC.out (Still.below hb9 BC.out.1))
                clear hin hb9
                try simp only [Act.put, List.setIfInBounds_toArray, List.set_cons_zero, List.set_cons_succ]
                refine plan3_sole (sole_take rfl (by rfl) (fun K1 hK1 => ?_))
                refine op_kids_append KK.out (.tmp 38) (.tmp 50) 0 (by decide) rfl EV.out.symm HZ (by simp) rfl NX.out.2 nX NX.out.1 ?_
                intro GX cX W9 hkk hat hst
                have hs9 := hst _ BC.out.1
                refine hK1 _ _ hs9 ?_
                clear hK1 K1
                have GQ := Lib.hid (hat.imp_right (Nat.le_trans BC.out.1))
                replace KK := Lib.hid hkk
                replace BC := Lib.hid (Still.trans _ _ _ BC.out hs9)
                clear hkk hat hst hs9
                try simp only [Act.put, List.setIfInBounds_toArray, List.set_cons_zero, List.set_cons_succ]
                have T0 := TT.out (_, _, HZ, GX, cX) W9 ⟨KK.out, GQ.out, BC.out⟩
                simp only [Act.put, List.setIfInBounds_toArray, List.set_cons_zero, List.set_cons_succ] at T0
                exact T0
            · refine sole_take rfl (by rfl) (fun K1 hK1 => ?_)
              go_simp
              refine (CB1.out _).mono ?_
              rintro e W9 ⟨A9, n9, c9, K9, m9, d9, rfl, hin, hb9⟩
              refine hK1 _ _ (Still.below hb9 BC.out.1) ?_
              clear hK1 K1 CB1
              replace KK := Lib.hid (KK.out.node hb9 hin)
              replace BC := Lib.hid (Still.trans _ _ _ BC.out (Still.below hb9 BC.out.1))
              clear hin hb9
              try simp only [Act.put, List.setIfInBounds_toArray, List.set_cons_zero, List.set_cons_succ]
              refine plan3_three ?_ ?_ ?_
              · refine sole_take rfl (by rfl) (fun K1 hK1 => ?_)
                refine op_kids_load KK.out (.tmp 37) rfl 0 (by decide) _ rfl rfl _ EV.out ?_
                refine hK1 _ _ (Still.refl _ _ _ _) ?_
                clear hK1 K1
                try simp only [Act.put, List.setIfInBounds_toArray, List.set_cons_zero, List.set_cons_succ]
                refine plan3_take _ rfl (by rfl) (fun W hW => by go_simp; first | done | rfl) ?_
                simp only [Act.put, List.setIfInBounds_toArray, List.set_cons_zero, List.set_cons_succ]
                refine plan3_take _ rfl (by rfl) (fun W hW => by go_simp; first | done | rfl) ?_
                simp only [Act.put, List.setIfInBounds_toArray, List.set_cons_zero, List.set_cons_succ]
                refine plan3_fork ?_ ?_
                · refine sole_take rfl (by rfl) (fun K1 hK1 => ?_)
                  go_simp
                  refine (CB2.out _).mono ?_
                  rintro e W9 ⟨A9, n9, c9, K9, m9, d9, rfl, hin, hb9⟩
                  refine hK1 _ _ (Still.below hb9 BC.out.1) ?_
                  clear hK1 K1 CB2
                  replace KK := Lib.hid (KK.out.node hb9 hin)
                  replace BC := Lib.hid (Still.trans _ _ _ BC.out (Still.below hb9 BC.out.1))
                  clear hin hb9
                  try simp only [Act.put, List.setIfInBounds_toArray, List.set_cons_zero, List.set_cons_succ]
                  refine plan3_sole (sole_take rfl (by rfl) (fun K1 hK1 => ?_))
                  refine op_kids_zero KK.out _ rfl (by kernel_rfl) ?_
                  intro HZ W9 hkk hb9
                  refine hK1 _ _ (Still.below hb9 BC.out.1) ?_
                  clear hK1 K1
                  replace KK := Lib.hid hkk
                  replace BC := Lib.hid (Still.trans _ _ _ BC.out (Still.below hb9 BC.out.1))
                  clear hkk hb9
                  try simp only [Act.put, List.setIfInBounds_toArray, List.set_cons_zero, List.set_cons_succ]
                  refine plan3_sole (sole_take rfl (by rfl) (fun K1 hK1 => ?_))
                  refine op_kids_append KK.out (.tmp 38) (.tmp 50) 0 (by decide) rfl EV.out.symm HZ (by simp) rfl NX.out.2 nX NX.out.1 ?_
                  intro GX cX W9 hkk hat hst
                  have hs9 := hst _ BC.out.1
                  refine hK1 _ _ hs9 ?_
                  clear hK1 K1
                  have GQ := Lib.hid (hat.imp_right (Nat.le_trans BC.out.1))
                  replace KK := Lib.hid hkk
                  replace BC := Lib.hid (Still.trans _ _ _ BC.out hs9)
                  clear hkk hat hst hs9
                  try simp only [Act.put, List.setIfInBounds_toArray, List.set_cons_zero, List.set_cons_succ]
                  have T0 := TT.out (_, _, HZ, GX, cX) W9 ⟨KK.out, GQ.out, BC.out⟩
                  simp only [Act.put, List.setIfInBounds_toArray, List.set_cons_zero, List.set_cons_succ] at T0
                  exact T0
                · refine sole_take rfl (by rfl) (fun K1 hK1 => ?_)
                  refine op_kids_zero KK.out _ rfl (by kernel_rfl) ?_
                  intro HZ W9 hkk hb9
                  refine hK1 _ _ (Still.below hb9 BC.out.1) ?_
                  clear hK1 K1
                  replace KK := Lib.hid hkk
                  replace BC := Lib.hid (Still.trans _ _ _ BC.out (Still.below hb9 BC.out.1))
                  clear hkk hb9
                  try simp only [Act.put, List.setIfInBounds_toArray, List.set_cons_zero, List.set_cons_succ]
                  refine plan3_sole (sole_take rfl (by rfl) (fun K1 hK1 => ?_))
                  go_simp
                  refine (CB2.out _).mono ?_
                  rintro e W9 ⟨A9, n9, c9, K9, m9, d9, rfl, hin, hb9⟩
                  refine hK1 _ _ (Still.below hb9 BC.out.1) ?_
                  clear hK1 K1 CB2
                  replace KK := Lib.hid (KK.out.node hb9 hin)
                  replace BC := Lib.hid (Still.trans _ _ _ BC.out (Still.below hb9 BC.out.1))
                  clear hin hb9
                  try simp only [Act.put, List.setIfInBounds_toArray, List.set_cons_zero, List.set_cons_succ]
                  refine plan3_sole (sole_take rfl (by rfl) (fun K1 hK1 => ?_))
                  refine op_kids_append KK.out (.tmp 38) (.tmp 50) 0 (by decide) rfl EV.out.symm HZ (by simp) rfl NX.out.2 nX NX.out.1 ?_
                  intro GX cX W9 hkk hat hst
                  have hs9 := hst _ BC.out.1
                  refine hK1 _ _ hs9 ?_
                  clear hK1 K1
                  have GQ := Lib.hid (hat.imp_right (Nat.le_trans BC.out.1))
                  replace KK := Lib.hid hkk
                  replace BC := Lib.hid (Still.trans _ _ _ BC.out hs9)
                  clear hkk hat hst hs9
                  try simp only [Act.put, List.setIfInBounds_toArray, List.set_cons_zero, List.set_cons_succ]
                  have T0 := TT.out (_, _, HZ, GX, cX) W9 ⟨KK.out, GQ.out, BC.out⟩
                  simp only [Act.put, List.setIfInBounds_toArray, List.set_cons_zero, List.set_cons_succ] at T0
                  exact T0
              · refine sole_take rfl (by rfl) (fun K1 hK1 => ?_)
                go_simp
                refine (CB2.out _).mono ?_
                rintro e W9 ⟨A9, n9, c9, K9, m9, d9, rfl, hin, hb9⟩
                refine hK1 _ _ (Still.below hb9 BC.out.1) ?_
                clear hK1 K1 CB2
                replace KK := Lib.hid (KK.out.node hb9 hin)
                replace BC := Lib.hid (Still.trans _ _ _ BC.out (Still.below hb9 BC.out.1))
                clear hin hb9
                try simp only [Act.put, List.setIfInBounds_toArray, List.set_cons_zero, List.set_cons_succ]
                refine plan3_fork ?_ ?_
                · refine sole_take rfl (by rfl) (fun K1 hK1 => ?_)
                  refine op_kids_load KK.out (.tmp 37) rfl 0 (by decide) _ rfl rfl _ EV.out ?_
                  refine hK1 _ _ (Still.refl _ _ _ _) ?_
                  clear hK1 K1
                  try simp only [Act.put, List.setIfInBounds_toArray, List.set_cons_zero, List.set_cons_succ]
                  refine plan3_take _ rfl (by rfl) (fun W hW => by go_simp; first | done | rfl) ?_
                  simp only [Act.put, List.setIfInBounds_toArray, List.set_cons_zero, List.set_cons_succ]
                  refine plan3_take _ rfl (by rfl) (fun W hW => by go_simp; first | done | rfl) ?_
                  simp only [Act.put, List.setIfInBounds_toArray, List.set_cons_zero, List.set_cons_succ]
                  refine plan3_sole (sole_take rfl (by rfl) (fun K1 hK1 => ?_))
                  refine op_kids_zero KK.out _ rfl (by kernel_rfl) ?_
                  intro HZ W9 hkk hb9
                  refine hK1 _ _ (Still.below hb9 BC.out.1) ?_
                  clear hK1 K1
                  replace KK := Lib.hid hkk
                  replace BC := Lib.hid (Still.trans _ _ _ BC.out (Still.below hb9 BC.out.1))
                  clear hkk hb9
                  try simp only [Act.put, List.setIfInBounds_toArray, List.set_cons_zero, List.set_cons_succ]
                  refine plan3_sole (sole_take rfl (by rfl) (fun K1 hK1 => ?_))
                  refine op_kids_append KK.out (.tmp 38) (.tmp 50) 0 (by decide) rfl EV.out.symm HZ (by simp) rfl NX.out.2 nX NX.out.1 ?_
                  intro GX cX W9 hkk hat hst
                  have hs9 := hst _ BC.out.1
                  refine hK1 _ _ hs9 ?_
                  clear hK1 K1
                  have GQ := Lib.hid (hat.imp_right (Nat.le_trans BC.out.1))
                  replace KK := Lib.hid hkk
                  replace BC := Lib.hid (Still.trans _ _ _ BC.out hs9)
                  clear hkk hat hst hs9
                  try simp only [Act.put, List.setIfInBounds_toArray, List.set_cons_zero, List.set_cons_succ]
                  have T0 := TT.out (_, _, HZ, GX, cX) W9 ⟨KK.out, GQ.out, BC.out⟩
                  simp only [Act.put, List.setIfInBounds_toArray, List.set_cons_zero, List.set_cons_succ] at T0
                  exact T0
                · refine sole_take rfl (by rfl) (fun K1 hK1 => ?_)
                  refine op_kids_zero KK.out _ rfl (by kernel_rfl) ?_
                  intro HZ W9 hkk hb9
                  refine hK1 _ _ (Still.below hb9 BC.out.1) ?_
                  clear hK1 K1
                  replace KK := Lib.hid hkk
                  replace BC := Lib.hid (Still.trans _ _ _ BC.out (Still.below hb9 BC.out.1))
                  clear hkk hb9
                  try simp only [Act.put, List.setIfInBounds_toArray, List.set_cons_zero, List.set_cons_succ]
                  refine plan3_sole (sole_take rfl (by rfl) (fun K1 hK1 => ?_))
                  refine op_kids_load KK.out (.tmp 37) rfl 0 (by decide) _ rfl rfl _ EV.out ?_
                  refine hK1 _ _ (Still.refl _ _ _ _) ?_
                  clear hK1 K1
                  try simp only [Act.put, List.setIfInBounds_toArray, List.set_cons_zero, List.set_cons_succ]
                  refine plan3_take _ rfl (by rfl) (fun W hW => by go_simp; first | done | rfl) ?_
                  simp only [Act.put, List.setIfInBounds_toArray, List.set_cons_zero, List.set_cons_succ]
                  refine plan3_take _ rfl (by rfl) (fun W hW => by go_simp; first | done | rfl) ?_
                  simp only [Act.put, List.setIfInBounds_toArray, List.set_cons_zero, List.set_cons_succ]
                  refine plan3_sole (sole_take rfl (by rfl) (fun K1 hK1 => ?_))
                  refine op_kids_append KK.out (.tmp 38) (.tmp 50) 0 (by decide) rfl EV.out.symm HZ (by simp) rfl NX.out.2 nX NX.out.1 ?_
                  intro GX cX W9 hkk hat hst
                  have hs9 := hst _ BC.out.1
                  refine hK1 _ _ hs9 ?_
                  clear hK1 K1
                  have GQ := Lib.hid (hat.imp_right (Nat.le_trans BC.out.1))
                  replace KK := Lib.hid hkk
                  replace BC := Lib.hid (Still.trans _ _ _ BC.out hs9)
                  clear hkk hat hst hs9
                  try simp only [Act.put, List.setIfInBounds_toArray, List.set_cons_zero, List.set_cons_succ]
                  have T0 := TT.out (_, _, HZ, GX, cX) W9 ⟨KK.out, GQ.out, BC.out⟩
                  simp only [Act.put, List.setIfInBounds_toArray, List.set_cons_zero, List.set_cons_succ] at T0
                  exact T0
              · refine sole_take rfl (by rfl) (fun K1 hK1 => ?_)
                refine op_kids_zero KK.out _ rfl (by kernel_rfl) ?_
                intro HZ W9 hkk hb9
                refine hK1 _ _ (Still.below hb9 BC.out.1) ?_
                clear hK1 K1
                replace KK := Lib.hid hkk
                replace BC := Lib.hid (Still.trans _ _ _ BC.out (Still.below hb9 BC.out.1))
                clear hkk hb9
                try simp only [Act.put, List.setIfInBounds_toArray, List.set_cons_zero, List.set_cons_succ]
                refine plan3_fork ?_ ?_
                · refine sole_take rfl (by rfl) (fun K1 hK1 => ?_)
                  refine op_kids_load KK.out (.tmp 37) rfl 0 (by decide) _ rfl rfl _ EV.out ?_
                  refine hK1 _ _ (Still.refl _ _ _ _) ?_
                  clear hK1 K1
                  try simp only [Act.put, List.setIfInBounds_toArray, List.set_cons_zero, List.set_cons_succ]
                  refine plan3_take _ rfl (by rfl) (fun W hW => by go_simp; first | done | rfl) ?_
                  simp only [Act.put, List.setIfInBounds_toArray, List.set_cons_zero, List.set_cons_succ]
                  refine plan3_take _ rfl (by rfl) (fun W hW => by go_simp; first | done | rfl) ?_
                  simp only [Act.put, List.setIfInBounds_toArray, List.set_cons_zero, List.set_cons_succ]
                  refine plan3_sole (sole_take rfl (by rfl) (fun K1 hK1 => ?_))
                  go_simp
                  refine (CB2.out _).mono ?_
                  rintro e W9 ⟨A9, n9, c9, K9, m9, d9, rfl, hin, hb9⟩
                  refine hK1 _ _ (Still.below hb9 BC.out.1) ?_
                  clear hK1 K1 CB2
                  replace KK := Lib.hid (KK.out.node hb9 hin)
                  replace BC := Lib.hid (Still.trans _ _ _ BC.out (Still.below hb9 BC.out.1))
                  clear hin hb9
                  try simp only [Act.put, List.setIfInBounds_toArray, List.set_cons_zero, List.set_cons_succ]
                  refine plan3_sole (sole_take rfl (by rfl) (fun K1 hK1 => ?_))
                  refine op_kids_append KK.out (.tmp 38) (.tmp 50) 0 (by decide) rfl EV.out.symm HZ (by simp) rfl NX.out.2 nX NX.out.1 ?_
                  intro GX cX W9 hkk hat hst
                  have hs9 := hst _ BC.out.1
                  refine hK1 _ _ hs9 ?_
                  clear hK1 K1
                  have GQ := Lib.hid (hat.imp_right (Nat.le_trans BC.out.1))
                  replace KK := Lib.hid hkk
                  replace BC := Lib.hid (Still.trans _ _ _ BC.out hs9)
                  clear hkk hat hst hs9
                  try simp only [Act.put, List.setIfInBounds_toArray, List.set_cons_zero, List.set_cons_succ]
                  have T0 := TT.out (_, _, HZ, GX, cX) W9 ⟨KK.out, GQ.out, BC.out⟩
                  simp only [Act.put, List.setIfInBounds_toArray, List.set_cons_zero, List.set_cons_succ] at T0
                  exact T0
                · refine sole_take rfl (by rfl) (fun K1 hK1 => ?_)
                  go_simp
                  refine (CB2.out _).mono ?_
                  rintro e W9 ⟨A9, n9, c9, K9, m9, d9, rfl, hin, hb9⟩
                  refine hK1 _ _ (Still.below hb9 BC.out.1) ?_
                  clear hK1 K1 CB2
                  replace KK := Lib.hid (KK.out.node hb9 hin)
                  replace BC := Lib.hid (Still.trans _ _ _ BC.out (Still.below hb9 BC.out.1))
                  clear hin hb9
                  try simp only [Act.put, List.setIfInBounds_toArray, List.set_cons_zero, List.set_cons_succ]
                  refine plan3_sole (sole_take rfl (by rfl) (fun K1 hK1 => ?_))
                  refine op_kids_load KK.out (.tmp 37) rfl 0 (by decide) _ rfl rfl _ EV.out ?_
                  refine hK1 _ _ (Still.refl _ _ _ _) ?_
                  clear hK1 K1
                  try simp only [Act.put, List.setIfInBounds_toArray, List.set_cons_zero, List.set_cons_succ]
                  refine plan3_take _ rfl (by rfl) (fun W hW => by go_simp; first | done | rfl) ?_
                  simp only [Act.put, List.setIfInBounds_toArray, List.set_cons_zero, List.set_cons_succ]
                  refine plan3_take _ rfl (by rfl) (fun W hW => by go_simp; first | done | rfl) ?_
                  simp only [Act.put, List.setIfInBounds_toArray, List.set_cons_zero, List.set_cons_succ]
                  refine plan3_sole (sole_take rfl (by rfl) (fun K1 hK1 => ?_))
                  refine op_kids_append KK.out (.tmp 38) (.tmp 50) 0 (by decide) rfl EV.out.symm HZ (by simp) rfl NX.out.2 nX NX.out.1 ?_
                  intro GX cX W9 hkk hat hst
                  have hs9 := hst _ BC.out.1
                  refine hK1 _ _ hs9 ?_
                  clear hK1 K1
                  have GQ := Lib.hid (hat.imp_right (Nat.le_trans BC.out.1))
                  replace KK := Lib.hid hkk
                  replace BC := Lib.hid (Still.trans _ _ _ BC.out hs9)
                  clear hkk hat hst hs9
                  try simp only [Act.put, List.setIfInBounds_toArray, List.set_cons_zero, List.set_cons_succ]
                  have T0 := TT.out (_, _, HZ, GX, cX) W9 ⟨KK.out, GQ.out, BC.out⟩
                  simp only [Act.put, List.setIfInBounds_toArray, List.set_cons_zero, List.set_cons_succ] at T0
                  exact T0
            · refine sole_take rfl (by rfl) (fun K1 hK1 => ?_)
              refine op_kids_zero KK.out _ rfl (by kernel_rfl) ?_
              intro HZ W9 hkk hb9
              refine hK1 _ _ (Still.below hb9 BC.out.1) ?_
              clear hK1 K1
              replace KK := Lib.hid hkk
              replace BC := Lib.hid (Still.trans _ _ _ BC.out (Still.below hb9 BC.out.1))
              clear hkk hb9
              try simp only [Act.put, List.setIfInBounds_toArray, List.set_cons_zero, List.set_cons_succ]
              refine plan3_fork ?_ ?_
              · refine sole_take rfl (by rfl) (fun K1 hK1 => ?_)
                refine op_kids_load KK.out (.tmp 37) rfl 0 (by decide) _ rfl rfl _ EV.out ?_
                refine hK1 _ _ (Still.refl _ _ _ _) ?_
                clear hK1 K1
                try simp only [Act.put, List.setIfInBounds_toArray, List.set_cons_zero, List.set_cons_succ]
                refine plan3_take _ rfl (by rfl) (fun W hW => by go_simp; first | done | rfl) ?_
                simp only [Act.put, List.setIfInBounds_toArray, List.set_cons_zero, List.set_cons_succ]
                refine plan3_take _ rfl (by rfl) (fun W hW => by go_simp; first | done | rfl) ?_
                simp only [Act.put, List.setIfInBounds_toArray, List.set_cons_zero, List.set_cons_succ]
                refine plan3_sole (sole_take rfl (by rfl) (fun K1 hK1 => ?_))
                go_simp
                refine (CB1.out _).mono ?_
                rintro e W9 ⟨A9, n9, c9, K9, m9, d9, rfl, hin, hb9⟩
                refine hK1 _ _ (Still.below hb9 BC.out.1) ?_
                clear hK1 K1 CB1
                replace KK := Lib.hid (KK.out.node hb9 hin)
                replace BC := Lib.hid (Still.trans _ _ _ BC.out (Still.below hb9 BC.out.1))
                clear hin hb9
                try simp only [Act.put, List.setIfInBounds_toArray, List.set_cons_zero, List.set_cons_succ]
                refine plan3_sole (sole_take rfl (by rfl) (fun K1 hK1 => ?_))
                go_simp
                refine (CB2.out _).mono ?_
                rintro e W9 ⟨A9, n9, c9, K9, m9, d9, rfl, hin, hb9⟩
                refine hK1 _ _ (Still.below hb9 BC.out.1) ?_
                clear hK1 K1 CB2
                replace KK := Lib.hid (KK.out.node hb9 hin)
                replace BC := Lib.hid (Still.trans _ _ _ BC.out (Still.below hb9 BC.out.1))
                clear hin hb9
                try simp only [Act.put, List.setIfInBounds_toArray, List.set_cons_zero, List.set_cons_succ]
                refine plan3_sole (sole_take rfl (by rfl) (fun K1 hK1 => ?_))
                refine op_kids_append KK.out (.tmp 38) (.tmp 50) 0 (by decide) rfl EV.out.symm HZ (by simp) rfl NX.out.2 nX NX.out.1 ?_
                intro GX cX W9 hkk hat hst
                have hs9 := hst _ BC.out.1
                refine hK1 _ _ hs9 ?_
                clear hK1 K1
                have GQ := Lib.hid (hat.imp_right (Nat.le_trans BC.out.1))
                replace KK := Lib.hid hkk
                replace BC := Lib.hid (Still.trans _ _ _ BC.out hs9)
                clear hkk hat hst hs9
                try simp only [Act.put, List.setIfInBounds_toArray, List.set_cons_zero, List.set_cons_succ]
                have T0 := TT.out (_, _, HZ, GX, cX) W9 ⟨KK.out, GQ.out, BC.out⟩
                simp only [Act.put, List.setIfInBounds_toArray, List.set_cons_zero, List.set_cons_succ] at T0
                exact T0
              · refine sole_take rfl (by rfl) (fun K1 hK1 => ?_)
                go_simp
                refine (CB1.out _).mono ?_
                rintro e W9 ⟨A9, n9, c9, K9, m9, d9, rfl, hin, hb9⟩
                refine hK1 _ _ (Still.below hb9 BC.out.1) ?_
                clear hK1 K1 CB1
                replace KK := Lib.hid (KK.out.node hb9 hin)
                replace BC := Lib.hid (Still.trans _ _ _ BC.out (Still.below hb9 BC.out.1))
                clear hin hb9
                try simp only [Act.put, List.setIfInBounds_toArray, List.set_cons_zero, List.set_cons_succ]
                refine plan3_fork ?_ ?_
                · refine sole_take rfl (by rfl) (fun K1 hK1 => ?_)
                  refine op_kids_load KK.out (.tmp 37) rfl 0 (by decide) _ rfl rfl _ EV.out ?_
                  refine hK1 _ _ (Still.refl _ _ _ _) ?_
                  clear hK1 K1
                  try simp only [Act.put, List.setIfInBounds_toArray, List.set_cons_zero, List.set_cons_succ]
                  refine plan3_take _ rfl (by rfl) (fun W hW => by go_simp; first | done | rfl) ?_
                  simp only [Act.put, List.setIfInBounds_toArray, List.set_cons_zero, List.set_cons_succ]
                  refine plan3_take _ rfl (by rfl) (fun W hW => by go_simp; first | done | rfl) ?_
                  simp only [Act.put, List.setIfInBounds_toArray, List.set_cons_zero, List.set_cons_succ]
                  refine plan3_sole (sole_take rfl (by rfl) (fun K1 hK1 => ?_))
                  go_simp
                  refine (CB2.out _).mono ?_
                  rintro e W9 ⟨A9, n9, c9, K9, m9, d9, rfl, hin, hb9⟩
                  refine hK1 _ _ (Still.below hb9 BC.out.1) ?_
                  clear hK1 K1 CB2
                  replace KK := Lib.hid (KK.out.node hb9 hin)
                  replace BC := Lib.hid (Still.trans _ _ _ BC.out (Still.below hb9 BC.out.1))
                  clear hin hb9
                  try simp only [Act.put, List.setIfInBounds_toArray, List.set_cons_zero, List.set_cons_succ]
                  refine plan3_sole (sole_take rfl (by rfl) (fun K1 hK1 => ?_))
                  refine op_kids_append KK.out (.tmp 38) (.tmp 50) 0 (by decide) rfl EV.out.symm HZ (by simp) rfl NX.out.2 nX NX.out.1 ?_
                  intro GX cX W9 hkk hat hst
                  have hs9 := hst _ BC.out.1
                  refine hK1 _ _ hs9 ?_
                  clear hK1 K1
                  have GQ := Lib.hid (hat.imp_right (Nat.le_trans BC.out.1))
                  replace KK := Lib.hid hkk
                  replace BC := Lib.hid (Still.trans _ _ _ BC.out hs9)
                  clear hkk hat hst hs9
                  try simp only [Act.put, List.setIfInBounds_toArray, List.set_cons_zero, List.set_cons_succ]
                  have T0 := TT.out (_, _, HZ, GX, cX) W9 ⟨KK.out, GQ.out, BC.out⟩
                  simp only [Act.put, List.setIfInBounds_toArray, List.set_cons_zero, List.set_cons_succ] at T0
                  exact T0
                · refine sole_take rfl (by rfl) (fun K1 hK1 => ?_)
                  go_simp
                  refine (CB2.out _).mono ?_
                  rintro e W9 ⟨A9, n9, c9, K9, m9, d9, rfl, hin, hb9⟩
                  refine hK1 _ _ (Still.below hb9 BC.out.1) ?_
                  clear hK1 K1 CB2
                  replace KK := Lib.hid (KK.out.node hb9 hin)
                  replace BC := Lib.hid (Still.trans _ _ _ BC.out (Still.below hb9 BC.out.1))
                  clear hin hb9
                  try simp only [Act.put, List.setIfInBounds_toArray, List.set_cons_zero, List.set_cons_succ]
                  refine plan3_sole (sole_take rfl (by rfl) (fun K1 hK1 => ?_))
                  refine op_kids_load KK.out (.tmp 37) rfl 0 (by decide) _ rfl rfl _ EV.out ?_
                  refine hK1 _ _ (Still.refl _ _ _ _) ?_
                  clear hK1 K1
                  try simp only [Act.put, List.setIfInBounds_toArray, List.set_cons_zero, List.set_cons_succ]
                  refine plan3_take _ rfl (by rfl) (fun W hW => by go_simp; first | done | rfl) ?_
                  simp only [Act.put, List.setIfInBounds_toArray, List.set_cons_zero, List.set_cons_succ]
                  refine plan3_take _ rfl (by rfl) (fun W hW => by go_simp; first | done | rfl) ?_
                  simp only [Act.put, List.setIfInBounds_toArray, List.set_cons_zero, List.set_cons_succ]
                  refine plan3_sole (sole_take rfl (by rfl) (fun K1 hK1 => ?_))
                  refine op_kids_append KK.out (.tmp 38) (.tmp 50) 0 (by decide) rfl EV.out.symm HZ (by simp) rfl NX.out.2 nX NX.out.1 ?_
                  intro GX cX W9 hkk hat hst
                  have hs9 := hst _ BC.out.1
                  refine hK1 _ _ hs9 ?_
                  clear hK1 K1
                  have GQ := Lib.hid (hat.imp_right (Nat.le_trans BC.out.1))
                  replace KK := Lib.hid hkk
                  replace BC := Lib.hid (Still.trans _ _ _ BC.out hs9)
                  clear hkk hat hst hs9
                  try simp only [Act.put, List.setIfInBounds_toArray, List.set_cons_zero, List.set_cons_succ]
                  have T0 := TT.out (_, _, HZ, GX, cX) W9 ⟨KK.out, GQ.out, BC.out⟩
                  simp only [Act.put, List.setIfInBounds_toArray, List.set_cons_zero, List.set_cons_succ] at T0
                  exact T0
      · replace PT := Lib.hid (PT.out 1 rfl)
        obtain ⟨A, cA, hA⟩ := KK.out.form (k := 1) (by decide)
        have hLn := PL.out 1
        obtain ⟨nX, hn⟩ : ∃ nX, (ksS (X.take k) 1).length = nX := ⟨_, rfl⟩
        rw [hn] at hA
        have EV := Lib.hid hA
        have NX := Lib.hid (⟨hn, hLn⟩ : _ ∧ _)
        have nI : IntKind.i64.wrap ((nX : Int) + 1) = ((nX + 1 : Nat) : Int) := (IntWalk.i64_in _ (by omega)).trans (by omega)
        clear hA hLn hn PL
        go_upto_region 13 with fail
        clear v0
        refine wp_region_plan3 (Still (w8.drewN 1).heap.size w3.heap.size V) (Still.refl _ _ _) Still.trans (.take 0 (.take 1 (.take 2 (.take 3 (.take 5 (.take 6 (.take 7 (.take 8 (.take 10 (.take 11 (.take 12 (.take 13 (.fork3 4 (.take 15 (.take 20 (.fork 9 (.fork 14 (.sole 16 (.sole 17 (.take 18 (.take 23 (.take 24 (.fork 19 (.take 21 (.fork 22 (.sole 25 .fin) 25 (.sole 22 .fin))) 25 (.sole 19 (.take 21 (.sole 22 .fin))))))))) 16 (.sole 14 (.sole 17 (.take 18 (.take 23 (.take 24 (.fork 19 (.take 21 (.fork 22 (.sole 25 .fin) 25 (.sole 22 .fin))) 25 (.sole 19 (.take 21 (.sole 22 .fin)))))))))) 16 (.sole 9 (.sole 14 (.sole 17 (.take 18 (.take 23 (.take 24 (.fork 19 (.take 21 (.fork 22 (.sole 25 .fin) 25 (.sole 22 .fin))) 25 (.sole 19 (.take 21 (.sole 22 .fin))))))))))))) 9 (.fork3 4 (.take 15 (.take 20 (.fork 14 (.sole 16 (.sole 17 (.take 18 (.take 23 (.take 24 (.fork 19 (.take 21 (.fork 22 (.sole 25 .fin) 25 (.sole 22 .fin))) 25 (.sole 19 (.take 21 (.sole 22 .fin))))))))) 16 (.sole 14 (.sole 17 (.take 18 (.take 23 (.take 24 (.fork 19 (.take 21 (.fork 22 (.sole 25 .fin) 25 (.sole 22 .fin))) 25 (.sole 19 (.take 21 (.sole 22 .fin)))))))))))) 14 (.fork 4 (.take 15 (.take 20 (.sole 16 (.sole 17 (.take 18 (.take 23 (.take 24 (.fork 19 (.take 21 (.fork 22 (.sole 25 .fin) 25 (.sole 22 .fin))) 25 (.sole 19 (.take 21 (.sole 22 .fin))))))))))) 16 (.sole 4 (.take 15 (.take 20 (.sole 17 (.take 18 (.take 23 (.take 24 (.fork 19 (.take 21 (.fork 22 (.sole 25 .fin) 25 (.sole 22 .fin))) 25 (.sole 19 (.take 21 (.sole 22 .fin)))))))))))) 16 (.fork 4 (.take 15 (.take 20 (.sole 14 (.sole 17 (.take 18 (.take 23 (.take 24 (.fork 19 (.take 21 (.fork 22 (.sole 25 .fin) 25 (.sole 22 .fin))) 25 (.sole 19 (.take 21 (.sole 22 .fin))))))))))) 14 (.sole 4 (.take 15 (.take 20 (.sole 17 (.take 18 (.take 23 (.take 24 (.fork 19 (.take 21 (.fork 22 (.sole 25 .fin) 25 (.sole 22 .fin))) 25 (.sole 19 (.take 21 (.sole 22 .fin))))))))))))) 16 (.fork 4 (.take 15 (.take 20 (.sole 9 (.sole 14 (.sole 17 (.take 18 (.take 23 (.take 24 (.fork 19 (.take 21 (.fork 22 (.sole 25 .fin) 25 (.sole 22 .fin))) 25 (.sole 19 (.take 21 (.sole 22 .fin)))))))))))) 9 (.fork 4 (.take 15 (.take 20 (.sole 14 (.sole 17 (.take 18 (.take 23 (.take 24 (.fork 19 (.take 21 (.fork 22 (.sole 25 .fin) 25 (.sole 22 .fin))) 25 (.sole 19 (.take 21 (.sole 22 .fin))))))))))) 14 (.sole 4 (.take 15 (.take 20 (.sole 17 (.take 18 (.take 23 (.take 24 (.fork 19 (.take 21 (.fork 22 (.sole 25 .fin) 25 (.sole 22 .fin))) 25 (.sole 19 (.take 21 (.sole 22 .fin)))))))))))))))))))))))))) (by kernel_rfl) (by kernel_rfl) rfl (by kernel_rfl) (fun _ _ _ _ _ h => h) ?_
        change wpPlan3 _ _ _ _ _ _ (w8.drewN 1)
        replace KK := Lib.hid (KK.out.below (drewN_below _ 1))
        replace XB : Hid (SBlk (w8.drewN 1) g8 ⟨true, lo, hi⟩) := XB
        generalize w8.drewN 1 = w9 at *
        have BC := Lib.hid (Still.refl w9.heap.size w3.heap.size V w9)
        refine plan3_take _ rfl (by rfl) (fun W hW => by go_simp; first | done | rfl) ?_
        simp only [Act.put, List.setIfInBounds_toArray, List.set_cons_zero, List.set_cons_succ]
        refine plan3_take _ rfl (by rfl) (fun W hW => by go_simp; first | done | rfl) ?_
        simp only [Act.put, List.setIfInBounds_toArray, List.set_cons_zero, List.set_cons_succ]
        refine plan3_take _ rfl (by rfl) (fun W hW => by go_simp; first | done | rfl) ?_
        simp only [Act.put, List.setIfInBounds_toArray, List.set_cons_zero, List.set_cons_succ]
        refine plan3_take _ rfl (by rfl) (fun W hW => by go_simp; first | done | rfl) ?_
        simp only [Act.put, List.setIfInBounds_toArray, List.set_cons_zero, List.set_cons_succ]
        refine plan3_take _ rfl (by rfl) (fun W hW => by go_simp; first | done | rfl) ?_
        simp only [Act.put, List.setIfInBounds_toArray, List.set_cons_zero, List.set_cons_succ]
        refine plan3_take _ rfl (by rfl) (fun W hW => yields_bool (.tmp 39) rfl g8 0 _ rfl (SBlk.v (Blk.still XB.out (Still.trans _ _ _ BC.out hW) XB.out.lt QG.out.1 QG.out.2))) ?_
        simp only [Act.put, List.setIfInBounds_toArray, List.set_cons_zero, List.set_cons_succ]
        refine plan3_take _ rfl (by rfl) (fun W hW => by go_simp; first | done | rfl) ?_
        simp only [Act.put, List.setIfInBounds_toArray, List.set_cons_zero, List.set_cons_succ]
        refine plan3_take _ rfl (by rfl) (fun W hW => yields_part 41 (.tmp 41) rfl g8 1 (acells lo) _ rfl (SBlk.lo (Blk.still XB.out (Still.trans _ _ _ BC.out hW) XB.out.lt QG.out.1 QG.out.2) PX.out) Tryz.underlying41 rfl SL.out) ?_
        simp only [Act.put, List.setIfInBounds_toArray, List.set_cons_zero, List.set_cons_succ]
        refine plan3_take _ rfl (by rfl) (fun W hW => by go_simp; first | done | rfl) ?_
        simp only [Act.put, List.setIfInBounds_toArray, List.set_cons_zero, List.set_cons_succ]
        refine plan3_take _ rfl (by rfl) (fun W hW => yields_bool (.tmp 44) rfl g8 0 _ rfl (SBlk.v (Blk.still XB.out (Still.trans _ _ _ BC.out hW) XB.out.lt QG.out.1 QG.out.2))) ?_
        simp only [Act.put, List.setIfInBounds_toArray, List.set_cons_zero, List.set_cons_succ]
        refine plan3_take _ rfl (by rfl) (fun W hW => by go_simp; first | done | rfl) ?_
        simp only [Act.put, List.setIfInBounds_toArray, List.set_cons_zero, List.set_cons_succ]
        refine plan3_take _ rfl (by rfl) (fun W hW => yields_part 41 (.tmp 46) rfl g8 17 (acells hi) _ rfl (SBlk.hi (Blk.still XB.out (Still.trans _ _ _ BC.out hW) XB.out.lt QG.out.1 QG.out.2) PX.out) Tryz.underlying41 rfl SH.out) ?_
        simp only [Act.put, List.setIfInBounds_toArray, List.set_cons_zero, List.set_cons_succ]
        refine plan3_with (.take 18 (.take 23 (.take 24 (.fork 19 (.take 21 (.fork 22 (.sole 25 .fin) 25 (.sole 22 .fin))) 25 (.sole 19 (.take 21 (.sole 22 .fin))))))) (fun a1 (x : Value × Value × Nat × Nat × Nat) => ((((((a1.put (some 38) (.slice A nX cA)).put (some 43) x.1).put (some 48) x.2.1).put (some 49) (.int .i64 (nX : Int))).put (some 50) (.slice (some ⟨x.2.2.1, 0, none⟩) 2 2)).put (some 53) (.int .i64 ((nX + 1 : Nat) : Int))).put (some 51) (.slice (some ⟨x.2.2.2.1, 0, none⟩) (nX + 2) x.2.2.2.2)) (fun x W => Kids3 w3 W V (upd V 1 (.slice (some ⟨x.2.2.2.1, 0, none⟩) (nX + 2) x.2.2.2.2)) (upd (ksS (X.take k)) 1 ((ksS (X.take k)) 1 ++ [zeroT, zeroT])) (([] ++ [((addrT true lo), x.1)]) ++ [((addrT true hi), x.2.1)]) [x.2.2.1] ∧ ((V 1).ownBlock = some x.2.2.2.1 ∨ w9.heap.size ≤ x.2.2.2.1) ∧ Still w9.heap.size w3.heap.size V w9 W) ?_ ?_
        · as_aux_lemma =>
            clear KK BC
            rintro ⟨v1, v2, HZ, GX, cX⟩ W9 ⟨hkk, hgq, hst⟩
            have KK := Lib.hid hkk
            have GQ := Lib.hid hgq
            have BC := Lib.hid hst
            clear hkk hgq hst
            dsimp only at KK GQ
            simp only [Act.put, List.setIfInBounds_toArray, List.set_cons_zero, List.set_cons_succ]
            refine plan3_take _ rfl (by rfl) (fun W hW => yields_nodeAt (.tmp 51) (.tmp 49) rfl GX (nX + 2) cX rfl _ rfl nX rfl (by omega)) ?_
            simp only [Act.put, List.setIfInBounds_toArray, List.set_cons_zero, List.set_cons_succ]
            refine plan3_take _ rfl (by rfl) (fun W hW => by go_simp; first | done | rfl) ?_
            simp only [Act.put, List.setIfInBounds_toArray, List.set_cons_zero, List.set_cons_succ]
            refine plan3_take _ rfl (by rfl) (fun W hW => by go_simp; first | done | rfl) ?_
            simp only [Act.put, List.setIfInBounds_toArray, List.set_cons_zero, List.set_cons_succ]
            refine plan3_fork ?_ ?_
            · refine sole_take rfl (by rfl) (fun K1 hK1 => ?_)
              refine op_kids_set KK.out (.tmp 52) (.tmp 43) 1 (by decide) rfl rfl GX (nX + 2) cX nX _ (upd_at _ _ _) ?_ ?_ rfl (addrT true lo) _ rfl rfl ?_ ?_
              · simp [upd_at, NX.out.1]
              · simp [upd_at, NX.out.1]
              · exact (List.mem_append_left _ (List.mem_append_right _ (List.mem_singleton.2 rfl)))
              intro W9 hkk hfar hsz
              have hs9 := Still.far (t := w3.heap.size) (k := 1) hfar hsz (by decide) GQ.out
              refine hK1 _ _ hs9 ?_
              clear hK1 K1
              replace KK := Lib.hid hkk
              replace BC := Lib.hid (Still.trans _ _ _ BC.out hs9)
              clear hkk hfar hsz hs9
              try simp only [Act.put, List.setIfInBounds_toArray, List.set_cons_zero, List.set_cons_succ]
              refine plan3_take _ rfl (by rfl) (fun W hW => yields_nodeAt (.tmp 51) (.tmp 53) rfl GX (nX + 2) cX rfl _ rfl (nX + 1) rfl (by omega)) ?_
              simp only [Act.put, List.setIfInBounds_toArray, List.set_cons_zero, List.set_cons_succ]
              refine plan3_fork ?_ ?_
              · refine sole_take rfl (by rfl) (fun K1 hK1 => ?_)
                refine op_kids_set KK.out (.tmp 54) (.tmp 48) 1 (by decide) rfl rfl GX (nX + 2) cX (nX + 1) _ (upd_at _ _ _) ?_ ?_ rfl (addrT true hi) _ rfl rfl ?_ ?_
                · simp [upd_at, NX.out.1]
                · simp [upd_at, NX.out.1]
                · exact (List.mem_append_right _ (List.mem_singleton.2 rfl))
                intro W9 hkk hfar hsz
                have hs9 := Still.far (t := w3.heap.size) (k := 1) hfar hsz (by decide) GQ.out
                refine hK1 _ _ hs9 ?_
                clear hK1 K1
                replace KK := Lib.hid hkk
                replace BC := Lib.hid (Still.trans _ _ _ BC.out hs9)
                clear hkk hfar hsz hs9
                try simp only [Act.put, List.setIfInBounds_toArray, List.set_cons_zero, List.set_cons_succ]
                refine plan3_sole (sole_take rfl (by rfl) (fun K1 hK1 => ?_))
                refine op_kids_store KK.out (.tmp 56) (.tmp 51) 1 (by decide) rfl rfl _ _ _ _ rfl rfl rfl ?_
                intro W9 hkk hfar hsz
                have hs9 := Still.tab (B := w9.heap.size) (V := V) hfar hsz
                refine hK1 _ _ hs9 ?_
                clear hK1 K1
                replace KK := Lib.hid hkk
                replace BC := Lib.hid (Still.trans _ _ _ BC.out hs9)
                clear hkk hfar hsz hs9
                try simp only [Act.put, List.setIfInBounds_toArray, List.set_cons_zero, List.set_cons_succ]
                refine plan3_end ?_
                go_wp2_with fail
                go_meet
                exact ⟨_, KK.out.closed rfl ((upd_three _ _ _ NX.out.1 _ _).trans PT.out)⟩
              · refine sole_take rfl (by rfl) (fun K1 hK1 => ?_)
                refine op_kids_store KK.out (.tmp 56) (.tmp 51) 1 (by decide) rfl rfl _ _ _ _ rfl rfl rfl ?_
                intro W9 hkk hfar hsz
                have hs9 := Still.tab (B := w9.heap.size) (V := V) hfar hsz
                refine hK1 _ _ hs9 ?_
                clear hK1 K1
                replace KK := Lib.hid hkk
                replace BC := Lib.hid (Still.trans _ _ _ BC.out hs9)
                clear hkk hfar hsz hs9
                try simp only [Act.put, List.setIfInBounds_toArray, List.set_cons_zero, List.set_cons_succ]
                refine plan3_sole (sole_take rfl (by rfl) (fun K1 hK1 => ?_))
                refine op_kids_set KK.out (.tmp 54) (.tmp 48) 1 (by decide) rfl rfl GX (nX + 2) cX (nX + 1) _ (upd_at _ _ _) ?_ ?_ rfl (addrT true hi) _ rfl rfl ?_ ?_
                · simp [upd_at, NX.out.1]
                · simp [upd_at, NX.out.1]
                · exact (List.mem_append_right _ (List.mem_singleton.2 rfl))
                intro W9 hkk hfar hsz
                have hs9 := Still.far (t := w3.heap.size) (k := 1) hfar hsz (by decide) GQ.out
                refine hK1 _ _ hs9 ?_
                clear hK1 K1
                replace KK := Lib.hid hkk
                replace BC := Lib.hid (Still.trans _ _ _ BC.out hs9)
                clear hkk hfar hsz hs9
                try simp only [Act.put, List.setIfInBounds_toArray, List.set_cons_zero, List.set_cons_succ]
                refine plan3_end ?_
                go_wp2_with fail
                go_meet
                exact ⟨_, KK.out.closed rfl ((upd_three _ _ _ NX.out.1 _ _).trans PT.out)⟩
            · refine sole_take rfl (by rfl) (fun K1 hK1 => ?_)
              refine op_kids_store KK.out (.tmp 56) (.tmp 51) 1 (by decide) rfl rfl _ _ _ _ rfl rfl rfl ?_
              intro W9 hkk hfar hsz
              have hs9 := Still.tab (B := w9.heap.size) (V := V) hfar hsz
              refine hK1 _ _ hs9 ?_
              clear hK1 K1
              replace KK := Lib.hid hkk
              replace BC := Lib.hid (Still.trans _ _ _ BC.out hs9)
              clear hkk hfar hsz hs9
              try simp only [Act.put, List.setIfInBounds_toArray, List.set_cons_zero, List.set_cons_succ]
              refine plan3_sole (sole_take rfl (by rfl) (fun K1 hK1 => ?_))
              refine op_kids_set KK.out (.tmp 52) (.tmp 43) 1 (by decide) rfl rfl GX (nX + 2) cX nX _ (upd_at _ _ _) ?_ ?_ rfl (addrT true lo) _ rfl rfl ?_ ?_
              · simp [upd_at, NX.out.1]
              · simp [upd_at, NX.out.1]
              · exact (List.mem_append_left _ (List.mem_append_right _ (List.mem_singleton.2 rfl)))
              intro W9 hkk hfar hsz
              have hs9 := Still.far (t := w3.heap.size) (k := 1) hfar hsz (by decide) GQ.out
              refine hK1 _ _ hs9 ?_
              clear hK1 K1
              replace KK := Lib.hid hkk
              replace BC := Lib.hid (Still.trans _ _ _ BC.out hs9)
              clear hkk hfar hsz hs9
              try simp only [Act.put, List.setIfInBounds_toArray, List.set_cons_zero, List.set_cons_succ]
              refine plan3_take _ rfl (by rfl) (fun W hW => yields_nodeAt (.tmp 51) (.tmp 53) rfl GX (nX + 2) cX rfl _ rfl (nX + 1) rfl (by omega)) ?_
              simp only [Act.put, List.setIfInBounds_toArray, List.set_cons_zero, List.set_cons_succ]
              refine plan3_sole (sole_take rfl (by rfl) (fun K1 hK1 => ?_))
              refine op_kids_set KK.out (.tmp 54) (.tmp 48) 1 (by decide) rfl rfl GX (nX + 2) cX (nX + 1) _ (upd_at _ _ _) ?_ ?_ rfl (addrT true hi) _ rfl rfl ?_ ?_
              · simp [upd_at, NX.out.1]
              · simp [upd_at, NX.out.1]
              · exact (List.mem_append_right _ (List.mem_singleton.2 rfl))
              intro W9 hkk hfar hsz
              have hs9 := Still.far (t := w3.heap.size) (k := 1) hfar hsz (by decide) GQ.out
              refine hK1 _ _ hs9 ?_
              clear hK1 K1
              replace KK := Lib.hid hkk
              replace BC := Lib.hid (Still.trans _ _ _ BC.out hs9)
              clear hkk hfar hsz hs9
              try simp only [Act.put, List.setIfInBounds_toArray, List.set_cons_zero, List.set_cons_succ]
              refine plan3_end ?_
              go_wp2_with fail
              go_meet
              exact ⟨_, KK.out.closed rfl ((upd_three _ _ _ NX.out.1 _ _).trans PT.out)⟩
        · as_aux_lemma =>
            intro TT
            replace TT := Lib.hid TT
            refine plan3_three ?_ ?_ ?_
            · refine sole_take rfl (by rfl) (fun K1 hK1 => ?_)
              refine op_kids_load KK.out (.tmp 37) rfl 1 (by decide) _ rfl rfl _ EV.out ?_
              refine hK1 _ _ (Still.refl _ _ _ _) ?_
              clear hK1 K1
              try simp only [Act.put, List.setIfInBounds_toArray, List.set_cons_zero, List.set_cons_succ]
              refine plan3_take _ rfl (by rfl) (fun W hW => by go_simp; first | done | rfl) ?_
              simp only [Act.put, List.setIfInBounds_toArray, List.set_cons_zero, List.set_cons_succ]
              refine plan3_take _ rfl (by rfl) (fun W hW => by go_simp; first | done | rfl) ?_
              simp only [Act.put, List.setIfInBounds_toArray, List.set_cons_zero, List.set_cons_succ]
              refine plan3_fork ?_ ?_
              · refine sole_take rfl (by rfl) (fun K1 hK1 => ?_)
                go_simp
                refine (CB1.out _).mono ?_
                rintro e W9 ⟨A9, n9, c9, K9, m9, d9, rfl, hin, hb9⟩
                refine hK1 _ _ (Still.below hb9 BC.out.1) ?_
                clear hK1 K1 CB1
                replace KK := Lib.hid (KK.out.node hb9 hin)
                replace BC := Lib.hid (Still.trans _ _ _ BC.out (Still.below hb9 BC.out.1))
                clear hin hb9
                try simp only [Act.put, List.setIfInBounds_toArray, List.set_cons_zero, List.set_cons_succ]
                refine plan3_fork ?_ ?_
                · refine sole_take rfl (by rfl) (fun K1 hK1 => ?_)
                  go_simp
                  refine (CB2.out _).mono ?_
                  rintro e W9 ⟨A9, n9, c9, K9, m9, d9, rfl, hin, hb9⟩
                  refine hK1 _ _ (Still.below hb9 BC.out.1) ?_
                  clear hK1 K1 CB2
                  replace KK := Lib.hid (KK.out.node hb9 hin)
                  replace BC := Lib.hid (Still.trans _ _ _ BC.out (Still.below hb9 BC.out.1))
                  clear hin hb9
                  try simp only [Act.put, List.setIfInBounds_toArray, List.set_cons_zero, List.set_cons_succ]
                  refine plan3_sole (sole_take rfl (by rfl) (fun K1 hK1 => ?_))
                  refine op_kids_zero KK.out _ rfl (by kernel_rfl) ?_
                  intro HZ W9 hkk hb9
                  refine hK1 _ _ (Still.below hb9 BC.out.1) ?_
                  clear hK1 K1
                  replace KK := Lib.hid hkk
                  replace BC := Lib.hid (Still.trans _ _ _ BC.out (Still.below hb9 BC.out.1))
                  clear hkk hb9
                  try simp only [Act.put, List.setIfInBounds_toArray, List.set_cons_zero, List.set_cons_succ]
                  refine plan3_sole (sole_take rfl (by rfl) (fun K1 hK1 => ?_))
                  refine op_kids_append KK.out (.tmp 38) (.tmp 50) 1 (by decide) rfl EV.out.symm HZ (by simp) rfl NX.out.2 nX NX.out.1 ?_
                  intro GX cX W9 hkk hat hst
                  have hs9 := hst _ BC.out.1
                  refine hK1 _ _ hs9 ?_
                  clear hK1 K1
                  have GQ := Lib.hid (hat.imp_right (Nat.le_trans BC.out.1))
                  replace KK := Lib.hid hkk
                  replace BC := Lib.hid (Still.trans _ _ _ BC.out hs9)
                  clear hkk hat hst hs9
                  try simp only [Act.put, List.setIfInBounds_toArray, List.set_cons_zero, List.set_cons_succ]
                  have T0 := TT.out (_, _, HZ, GX, cX) W9 ⟨KK.out, GQ.out, BC.out⟩
                  simp only [Act.put, List.setIfInBounds_toArray, List.set_cons_zero, List.set_cons_succ] at T0
                  exact T0
                · refine sole_take rfl (by rfl) (fun K1 hK1 => ?_)
                  refine op_kids_zero KK.out _ rfl (by kernel_rfl) ?_
                  intro HZ W9 hkk hb9
                  refine hK1 _ _ (Still.below hb9 BC.out.1) ?_
                  clear hK1 K1
                  replace KK := Lib.hid hkk
                  replace BC := Lib.hid (Still.trans _ _ _ BC.out (Still.below hb9 BC.out.1))
                  clear hkk hb9
                  try simp only [Act.put, List.setIfInBounds_toArray, List.set_cons_zero, List.set_cons_succ]
                  refine plan3_sole (sole_take rfl (by rfl) (fun K1 hK1 => ?_))
                  go_simp
                  refine (CB2.out _).mono ?_
                  rintro e W9 ⟨A9, n9, c9, K9, m9, d9, rfl, hin, hb9⟩
                  refine hK1 _ _ (Still.below hb9 BC.out.1) ?_
                  clear hK1 K1 CB2
                  replace KK := Lib.hid (KK.out.node hb9 hin)
                  replace BC := Lib.hid (Still.trans _ _ _ BC.out (Still.below hb9 BC.out.1))
                  clear hin hb9
                  try simp only [Act.put, List.setIfInBounds_toArray, List.set_cons_zero, List.set_cons_succ]
                  refine plan3_sole (sole_take rfl (by rfl) (fun K1 hK1 => ?_))
                  refine op_kids_append KK.out (.tmp 38) (.tmp 50) 1 (by decide) rfl EV.out.symm HZ (by simp) rfl NX.out.2 nX NX.out.1 ?_
                  intro GX cX W9 hkk hat hst
                  have hs9 := hst _ BC.out.1
                  refine hK1 _ _ hs9 ?_
                  clear hK1 K1
                  have GQ := Lib.hid (hat.imp_right (Nat.le_trans BC.out.1))
                  replace KK := Lib.hid hkk
                  replace BC := Lib.hid (Still.trans _ _ _ BC.out hs9)
                  clear hkk hat hst hs9
                  try simp only [Act.put, List.setIfInBounds_toArray, List.set_cons_zero, List.set_cons_succ]
                  have T0 := TT.out (_, _, HZ, GX, cX) W9 ⟨KK.out, GQ.out, BC.out⟩
                  simp only [Act.put, List.setIfInBounds_toArray, List.set_cons_zero, List.set_cons_succ] at T0
                  exact T0
              · refine sole_take rfl (by rfl) (fun K1 hK1 => ?_)
                refine op_kids_zero KK.out _ rfl (by kernel_rfl) ?_
                intro HZ W9 hkk hb9
                refine hK1 _ _ (Still.below hb9 BC.out.1) ?_
                clear hK1 K1
                replace KK := Lib.hid hkk
                replace BC := Lib.hid (Still.trans _ _ _ BC.out (Still.below hb9 BC.out.1))
                clear hkk hb9
                try simp only [Act.put, List.setIfInBounds_toArray, List.set_cons_zero, List.set_cons_succ]
                refine plan3_sole (sole_take rfl (by rfl) (fun K1 hK1 => ?_))
                go_simp
                refine (CB1.out _).mono ?_
                rintro e W9 ⟨A9, n9, c9, K9, m9, d9, rfl, hin, hb9⟩
                refine hK1 _ _ (Still.below hb9 BC.out.1) ?_
                clear hK1 K1 CB1
                replace KK := Lib.hid (KK.out.node hb9 hin)
                replace BC := Lib.hid (Still.trans _ _ _ BC.out (Still.below hb9 BC.out.1))
                clear hin hb9
                try simp only [Act.put, List.setIfInBounds_toArray, List.set_cons_zero, List.set_cons_succ]
                refine plan3_sole (sole_take rfl (by rfl) (fun K1 hK1 => ?_))
                go_simp
                refine (CB2.out _).mono ?_
                rintro e W9 ⟨A9, n9, c9, K9, m9, d9, rfl, hin, hb9⟩
                refine hK1 _ _ (Still.below hb9 BC.out.1) ?_
                clear hK1 K1 CB2
                replace KK := Lib.hid (KK.out.node hb9 hin)
                replace BC := Lib.hid (Still.trans _ _ _ BC.out (Still.below hb9 BC.out.1))
                clear hin hb9
                try simp only [Act.put, List.setIfInBounds_toArray, List.set_cons_zero, List.set_cons_succ]
                refine plan3_sole (sole_take rfl (by rfl) (fun K1 hK1 => ?_))
                refine op_kids_append KK.out (.tmp 38) (.tmp 50) 1 (by decide) rfl EV.out.symm HZ (by simp) rfl NX.out.2 nX NX.out.1 ?_
                intro GX cX W9 hkk hat hst
                have hs9 := hst _ BC.out.1
                refine hK1 _ _ hs9 ?_
                clear hK1 K1
                have GQ := Lib.hid (hat.imp_right (Nat.le_trans BC.out.1))
                replace KK := Lib.hid hkk
                replace BC := Lib.hid (Still.trans _ _ _ BC.out hs9)
                clear hkk hat hst hs9
                try simp only [Act.put, List.setIfInBounds_toArray, List.set_cons_zero, List.set_cons_succ]
                have T0 := TT.out (_, _, HZ, GX, cX) W9 ⟨KK.out, GQ.out, BC.out⟩
                simp only [Act.put, List.setIfInBounds_toArray, List.set_cons_zero, List.set_cons_succ] at T0
                exact T0
            · refine sole_take rfl (by rfl) (fun K1 hK1 => ?_)
              go_simp
              refine (CB1.out _).mono ?_
              rintro e W9 ⟨A9, n9, c9, K9, m9, d9, rfl, hin, hb9⟩
              refine hK1 _ _ (Still.below hb9 BC.out.1) ?_
              clear hK1 K1 CB1
              replace KK := Lib.hid (KK.out.node hb9 hin)
              replace BC := Lib.hid (Still.trans _ _ _ BC.out (Still.below hb9 BC.out.1))
              clear hin hb9
              try simp only [Act.put, List.setIfInBounds_toArray, List.set_cons_zero, List.set_cons_succ]
              refine plan3_three ?_ ?_ ?_
              · refine sole_take rfl (by rfl) (fun K1 hK1 => ?_)
                refine op_kids_load KK.out (.tmp 37) rfl 1 (by decide) _ rfl rfl _ EV.out ?_
                refine hK1 _ _ (Still.refl _ _ _ _) ?_
                clear hK1 K1
                try simp only [Act.put, List.setIfInBounds_toArray, List.set_cons_zero, List.set_cons_succ]
                refine plan3_take _ rfl (by rfl) (fun W hW => by go_simp; first | done | rfl) ?_
                simp only [Act.put, List.setIfInBounds_toArray, List.set_cons_zero, List.set_cons_succ]
                refine plan3_take _ rfl (by rfl) (fun W hW => by go_simp; first | done | rfl) ?_
                simp only [Act.put, List.setIfInBounds_toArray, List.set_cons_zero, List.set_cons_succ]
                refine plan3_fork ?_ ?_
                · refine sole_take rfl (by rfl) (fun K1 hK1 => ?_)
                  go_simp
                  refine (CB2.out _).mono ?_
                  rintro e W9 ⟨A9, n9, c9, K9, m9, d9, rfl, hin, hb9⟩
                  refine hK1 _ _ (Still.below hb9 BC.out.1) ?_
                  clear hK1 K1 CB2
                  replace KK := Lib.hid (KK.out.node hb9 hin)
                  replace BC := Lib.hid (Still.trans _ _ _ BC.out (Still.below hb9 BC.out.1))
                  clear hin hb9
                  try simp only [Act.put, List.setIfInBounds_toArray, List.set_cons_zero, List.set_cons_succ]
                  refine plan3_sole (sole_take rfl (by rfl) (fun K1 hK1 => ?_))
                  refine op_kids_zero KK.out _ rfl (by kernel_rfl) ?_
                  intro HZ W9 hkk hb9
                  refine hK1 _ _ (Still.below hb9 BC.out.1) ?_
                  clear hK1 K1
                  replace KK := Lib.hid hkk
                  replace BC := Lib.hid (Still.trans _ _ _ BC.out (Still.below hb9 BC.out.1))
                  clear hkk hb9
                  try simp only [Act.put, List.setIfInBounds_toArray, List.set_cons_zero, List.set_cons_succ]
                  refine plan3_sole (sole_take rfl (by rfl) (fun K1 hK1 => ?_))
                  refine op_kids_append KK.out (.tmp 38) (.tmp 50) 1 (by decide) rfl EV.out.symm HZ (by simp) rfl NX.out.2 nX NX.out.1 ?_
                  intro GX cX W9 hkk hat hst
                  have hs9 := hst _ BC.out.1
                  refine hK1 _ _ hs9 ?_
                  clear hK1 K1
                  have GQ := Lib.hid (hat.imp_right (Nat.le_trans BC.out.1))
                  replace KK := Lib.hid hkk
                  replace BC := Lib.hid (Still.trans _ _ _ BC.out hs9)
                  clear hkk hat hst hs9
                  try simp only [Act.put, List.setIfInBounds_toArray, List.set_cons_zero, List.set_cons_succ]
                  have T0 := TT.out (_, _, HZ, GX, cX) W9 ⟨KK.out, GQ.out, BC.out⟩
                  simp only [Act.put, List.setIfInBounds_toArray, List.set_cons_zero, List.set_cons_succ] at T0
                  exact T0
                · refine sole_take rfl (by rfl) (fun K1 hK1 => ?_)
                  refine op_kids_zero KK.out _ rfl (by kernel_rfl) ?_
                  intro HZ W9 hkk hb9
                  refine hK1 _ _ (Still.below hb9 BC.out.1) ?_
                  clear hK1 K1
                  replace KK := Lib.hid hkk
                  replace BC := Lib.hid (Still.trans _ _ _ BC.out (Still.below hb9 BC.out.1))
                  clear hkk hb9
                  try simp only [Act.put, List.setIfInBounds_toArray, List.set_cons_zero, List.set_cons_succ]
                  refine plan3_sole (sole_take rfl (by rfl) (fun K1 hK1 => ?_))
                  go_simp
                  refine (CB2.out _).mono ?_
                  rintro e W9 ⟨A9, n9, c9, K9, m9, d9, rfl, hin, hb9⟩
                  refine hK1 _ _ (Still.below hb9 BC.out.1) ?_
                  clear hK1 K1 CB2
                  replace KK := Lib.hid (KK.out.node hb9 hin)
                  replace BC := Lib.hid (Still.trans _ _ _ BC.out (Still.below hb9 BC.out.1))
                  clear hin hb9
                  try simp only [Act.put, List.setIfInBounds_toArray, List.set_cons_zero, List.set_cons_succ]
                  refine plan3_sole (sole_take rfl (by rfl) (fun K1 hK1 => ?_))
                  refine op_kids_append KK.out (.tmp 38) (.tmp 50) 1 (by decide) rfl EV.out.symm HZ (by simp) rfl NX.out.2 nX NX.out.1 ?_
                  intro GX cX W9 hkk hat hst
                  have hs9 := hst _ BC.out.1
                  refine hK1 _ _ hs9 ?_
                  clear hK1 K1
                  have GQ := Lib.hid (hat.imp_right (Nat.le_trans BC.out.1))
                  replace KK := Lib.hid hkk
                  replace BC := Lib.hid (Still.trans _ _ _ BC.out hs9)
                  clear hkk hat hst hs9
                  try simp only [Act.put, List.setIfInBounds_toArray, List.set_cons_zero, List.set_cons_succ]
                  have T0 := TT.out (_, _, HZ, GX, cX) W9 ⟨KK.out, GQ.out, BC.out⟩
                  simp only [Act.put, List.setIfInBounds_toArray, List.set_cons_zero, List.set_cons_succ] at T0
                  exact T0
              · refine sole_take rfl (by rfl) (fun K1 hK1 => ?_)
                go_simp
                refine (CB2.out _).mono ?_
                rintro e W9 ⟨A9, n9, c9, K9, m9, d9, rfl, hin, hb9⟩
                refine hK1 _ _ (Still.below hb9 BC.out.1) ?_
                clear hK1 K1 CB2
                replace KK := Lib.hid (KK.out.node hb9 hin)
                replace BC := Lib.hid (Still.trans _ _ _ BC.out (Still.below hb9 BC.out.1))
                clear hin hb9
                try simp only [Act.put, List.setIfInBounds_toArray, List.set_cons_zero, List.set_cons_succ]
                refine plan3_fork ?_ ?_
                · refine sole_take rfl (by rfl) (fun K1 hK1 => ?_)
                  refine op_kids_load KK.out (.tmp 37) rfl 1 (by decide) _ rfl rfl _ EV.out ?_
                  refine hK1 _ _ (Still.refl _ _ _ _) ?_
                  clear hK1 K1
                  try simp only [Act.put, List.setIfInBounds_toArray, List.set_cons_zero, List.set_cons_succ]
                  refine plan3_take _ rfl (by rfl) (fun W hW => by go_simp; first | done | rfl) ?_
                  simp only [Act.put, List.setIfInBounds_toArray, List.set_cons_zero, List.set_cons_succ]
                  refine plan3_take _ rfl (by rfl) (fun W hW => by go_simp; first | done | rfl) ?_
                  simp only [Act.put, List.setIfInBounds_toArray, List.set_cons_zero, List.set_cons_succ]
                  refine plan3_sole (sole_take rfl (by rfl) (fun K1 hK1 => ?_))
                  refine op_kids_zero KK.out _ rfl (by kernel_rfl) ?_
                  intro HZ W9 hkk hb9
                  refine hK1 _ _ (Still.below hb9 BC.out.1) ?_
                  clear hK1 K1
                  replace KK := Lib.hid hkk
                  replace BC := Lib.hid (Still.trans _ _ _ BC.out (Still.below hb9 BC.out.1))
                  clear hkk hb9
                  try simp only [Act.put, List.setIfInBounds_toArray, List.set_cons_zero, List.set_cons_succ]
                  refine plan3_sole (sole_take rfl (by rfl) (fun K1 hK1 => ?_))
                  refine op_kids_append KK.out (.tmp 38) (.tmp 50) 1 (by decide) rfl EV.out.symm HZ (by simp) rfl NX.out.2 nX NX.out.1 ?_
                  intro GX cX W9 hkk hat hst
                  have hs9 := hst _ BC.out.1
                  refine hK1 _ _ hs9 ?_
                  clear hK1 K1
                  have GQ := Lib.hid (hat.imp_right (Nat.le_trans BC.out.1))
                  replace KK := Lib.hid hkk
                  replace BC := Lib.hid (Still.trans _ _ _ BC.out hs9)
                  clear hkk hat hst hs9
                  try simp only [Act.put, List.setIfInBounds_toArray, List.set_cons_zero, List.set_cons_succ]
                  have T0 := TT.out (_, _, HZ, GX, cX) W9 ⟨KK.out, GQ.out, BC.out⟩
                  simp only [Act.put, List.setIfInBounds_toArray, List.set_cons_zero, List.set_cons_succ] at T0
                  exact T0
                · refine sole_take rfl (by rfl) (fun K1 hK1 => ?_)
                  refine op_kids_zero KK.out _ rfl (by kernel_rfl) ?_
                  intro HZ W9 hkk hb9
                  refine hK1 _ _ (Still.below hb9 BC.out.1) ?_
                  clear hK1 K1
                  replace KK := Lib.hid hkk
                  replace BC := Lib.hid (Still.trans _ _ _ BC.out (Still.below hb9 BC.out.1))
                  clear hkk hb9
                  try simp only [Act.put, List.setIfInBounds_toArray, List.set_cons_zero, List.set_cons_succ]
                  refine plan3_sole (sole_take rfl (by rfl) (fun K1 hK1 => ?_))
                  refine op_kids_load KK.out (.tmp 37) rfl 1 (by decide) _ rfl rfl _ EV.out ?_
                  refine hK1 _ _ (Still.refl _ _ _ _) ?_
                  clear hK1 K1
                  try simp only [Act.put, List.setIfInBounds_toArray, List.set_cons_zero, List.set_cons_succ]
                  refine plan3_take _ rfl (by rfl) (fun W hW => by go_simp; first | done | rfl) ?_
                  simp only [Act.put, List.setIfInBounds_toArray, List.set_cons_zero, List.set_cons_succ]
                  refine plan3_take _ rfl (by rfl) (fun W hW => by go_simp; first | done | rfl) ?_
                  simp only [Act.put, List.setIfInBounds_toArray, List.set_cons_zero, List.set_cons_succ]
                  refine plan3_sole (sole_take rfl (by rfl) (fun K1 hK1 => ?_))
                  refine op_kids_append KK.out (.tmp 38) (.tmp 50) 1 (by decide) rfl EV.out.symm HZ (by simp) rfl NX.out.2 nX NX.out.1 ?_
                  intro GX cX W9 hkk hat hst
                  have hs9 := hst _ BC.out.1
                  refine hK1 _ _ hs9 ?_
                  clear hK1 K1
                  have GQ := Lib.hid (hat.imp_right (Nat.le_trans BC.out.1))
                  replace KK := Lib.hid hkk
                  replace BC := Lib.hid (Still.trans _ _ _ BC.out hs9)
                  clear hkk hat hst hs9
                  try simp only [Act.put, List.setIfInBounds_toArray, List.set_cons_zero, List.set_cons_succ]
                  have T0 := TT.out (_, _, HZ, GX, cX) W9 ⟨KK.out, GQ.out, BC.out⟩
                  simp only [Act.put, List.setIfInBounds_toArray, List.set_cons_zero, List.set_cons_succ] at T0
                  exact T0
              · refine sole_take rfl (by rfl) (fun K1 hK1 => ?_)
                refine op_kids_zero KK.out _ rfl (by kernel_rfl) ?_
                intro HZ W9 hkk hb9
                refine hK1 _ _ (Still.below hb9 BC.out.1) ?_
                clear hK1 K1
                replace KK := Lib.hid hkk
                replace BC := Lib.hid (Still.trans _ _ _ BC.out (Still.below hb9 BC.out.1))
                clear hkk hb9
                try simp only [Act.put, List.setIfInBounds_toArray, List.set_cons_zero, List.set_cons_succ]
                refine plan3_fork ?_ ?_
                · refine sole_take rfl (by rfl) (fun K1 hK1 => ?_)
                  refine op_kids_load KK.out (.tmp 37) rfl 1 (by decide) _ rfl rfl _ EV.out ?_
                  refine hK1 _ _ (Still.refl _ _ _ _) ?_
                  clear hK1 K1
                  try simp only [Act.put, List.setIfInBounds_toArray, List.set_cons_zero, List.set_cons_succ]
                  refine plan3_take _ rfl (by rfl) (fun W hW => by go_simp; first | done | rfl) ?_
                  simp only [Act.put, List.setIfInBounds_toArray, List.set_cons_zero, List.set_cons_succ]
                  refine plan3_take _ rfl (by rfl) (fun W hW => by go_simp; first | done | rfl) ?_
                  simp only [Act.put, List.setIfInBounds_toArray, List.set_cons_zero, List.set_cons_succ]
                  refine plan3_sole (sole_take rfl (by rfl) (fun K1 hK1 => ?_))
                  go_simp
                  refine (CB2.out _).mono ?_
                  rintro e W9 ⟨A9, n9, c9, K9, m9, d9, rfl, hin, hb9⟩
                  refine hK1 _ _ (Still.below hb9 BC.out.1) ?_
                  clear hK1 K1 CB2
                  replace KK := Lib.hid (KK.out.node hb9 hin)
                  replace BC := Lib.hid (Still.trans _ _ _ BC.out (Still.below hb9 BC.out.1))
                  clear hin hb9
                  try simp only [Act.put, List.setIfInBounds_toArray, List.set_cons_zero, List.set_cons_succ]
                  refine plan3_sole (sole_take rfl (by rfl) (fun K1 hK1 => ?_))
                  refine op_kids_append KK.out (.tmp 38) (.tmp 50) 1 (by decide) rfl EV.out.symm HZ (by simp) rfl NX.out.2 nX NX.out.1 ?_
                  intro GX cX W9 hkk hat hst
                  have hs9 := hst _ BC.out.1
                  refine hK1 _ _ hs9 ?_
                  clear hK1 K1
                  have GQ := Lib.hid (hat.imp_right (Nat.le_trans BC.out.1))
                  replace KK := Lib.hid hkk
                  replace BC := Lib.hid (Still.trans _ _ _ BC.out hs9)
                  clear hkk hat hst hs9
                  try simp only [Act.put, List.setIfInBounds_toArray, List.set_cons_zero, List.set_cons_succ]
                  have T0 := TT.out (_, _, HZ, GX, cX) W9 ⟨KK.out, GQ.out, BC.out⟩
                  simp only [Act.put, List.setIfInBounds_toArray, List.set_cons_zero, List.set_cons_succ] at T0
                  exact T0
                · refine sole_take rfl (by rfl) (fun K1 hK1 => ?_)
                  go_simp
                  refine (CB2.out _).mono ?_
                  rintro e W9 ⟨A9, n9, c9, K9, m9, d9, rfl, hin, hb9⟩
                  refine hK1 _ _ (Still.below hb9 BC.out.1) ?_
                  clear hK1 K1 CB2
                  replace KK := Lib.hid (KK.out.node hb9 hin)
                  replace BC := Lib.hid (Still.trans _ _ _ BC.out (Still.below hb9 BC.out.1))
                  clear hin hb9
                  try simp only [Act.put, List.setIfInBounds_toArray, List.set_cons_zero, List.set_cons_succ]
                  refine plan3_sole (sole_take rfl (by rfl) (fun K1 hK1 => ?_))
                  refine op_kids_load KK.out (.tmp 37) rfl 1 (by decide) _ rfl rfl _ EV.out ?_
                  refine hK1 _ _ (Still.refl _ _ _ _) ?_
                  clear hK1 K1
                  try simp only [Act.put, List.setIfInBounds_toArray, List.set_cons_zero, List.set_cons_succ]
                  refine plan3_take _ rfl (by rfl) (fun W hW => by go_simp; first | done | rfl) ?_
                  simp only [Act.put, List.setIfInBounds_toArray, List.set_cons_zero, List.set_cons_succ]
                  refine plan3_take _ rfl (by rfl) (fun W hW => by go_simp; first | done | rfl) ?_
                  simp only [Act.put, List.setIfInBounds_toArray, List.set_cons_zero, List.set_cons_succ]
                  refine plan3_sole (sole_take rfl (by rfl) (fun K1 hK1 => ?_))
                  refine op_kids_append KK.out (.tmp 38) (.tmp 50) 1 (by decide) rfl EV.out.symm HZ (by simp) rfl NX.out.2 nX NX.out.1 ?_
                  intro GX cX W9 hkk hat hst
                  have hs9 := hst _ BC.out.1
                  refine hK1 _ _ hs9 ?_
                  clear hK1 K1
                  have GQ := Lib.hid (hat.imp_right (Nat.le_trans BC.out.1))
                  replace KK := Lib.hid hkk
                  replace BC := Lib.hid (Still.trans _ _ _ BC.out hs9)
                  clear hkk hat hst hs9
                  try simp only [Act.put, List.setIfInBounds_toArray, List.set_cons_zero, List.set_cons_succ]
                  have T0 := TT.out (_, _, HZ, GX, cX) W9 ⟨KK.out, GQ.out, BC.out⟩
                  simp only [Act.put, List.setIfInBounds_toArray, List.set_cons_zero, List.set_cons_succ] at T0
                  exact T0
            · refine sole_take rfl (by rfl) (fun K1 hK1 => ?_)
              refine op_kids_zero KK.out _ rfl (by kernel_rfl) ?_
              intro HZ W9 hkk hb9
              refine hK1 _ _ (Still.below hb9 BC.out.1) ?_
              clear hK1 K1
              replace KK := Lib.hid hkk
              replace BC := Lib.hid (Still.trans _ _ _ BC.out (Still.below hb9 BC.out.1))
              clear hkk hb9
              try simp only [Act.put, List.setIfInBounds_toArray, List.set_cons_zero, List.set_cons_succ]
              refine plan3_fork ?_ ?_
              · refine sole_take rfl (by rfl) (fun K1 hK1 => ?_)
                refine op_kids_load KK.out (.tmp 37) rfl 1 (by decide) _ rfl rfl _ EV.out ?_
                refine hK1 _ _ (Still.refl _ _ _ _) ?_
                clear hK1 K1
                try simp only [Act.put, List.setIfInBounds_toArray, List.set_cons_zero, List.set_cons_succ]
                refine plan3_take _ rfl (by rfl) (fun W hW => by go_simp; first | done | rfl) ?_
                simp only [Act.put, List.setIfInBounds_toArray, List.set_cons_zero, List.set_cons_succ]
                refine plan3_take _ rfl (by rfl) (fun W hW => by go_simp; first | done | rfl) ?_
                simp only [Act.put, List.setIfInBounds_toArray, List.set_cons_zero, List.set_cons_succ]
                refine plan3_sole (sole_take rfl (by rfl) (fun K1 hK1 => ?_))
                go_simp
                refine (CB1.out _).mono ?_
                rintro e W9 ⟨A9, n9, c9, K9, m9, d9, rfl, hin, hb9⟩
                refine hK1 _ _ (Still.below hb9 BC.out.1) ?_
                clear hK1 K1 CB1
                replace KK := Lib.hid (KK.out.node hb9 hin)
                replace BC := Lib.hid (Still.trans _ _ _ BC.out (Still.below hb9 BC.out.1))
                clear hin hb9
                try simp only [Act.put, List.setIfInBounds_toArray, List.set_cons_zero, List.set_cons_succ]
                refine plan3_sole (sole_take rfl (by rfl) (fun K1 hK1 => ?_))
                go_simp
                refine (CB2.out _).mono ?_
                rintro e W9 ⟨A9, n9, c9, K9, m9, d9, rfl, hin, hb9⟩
                refine hK1 _ _ (Still.below hb9 BC.out.1) ?_
                clear hK1 K1 CB2
                replace KK := Lib.hid (KK.out.node hb9 hin)
                replace BC := Lib.hid (Still.trans _ _ _ BC.out (Still.below hb9 BC.out.1))
                clear hin hb9
                try simp only [Act.put, List.setIfInBounds_toArray, List.set_cons_zero, List.set_cons_succ]
                refine plan3_sole (sole_take rfl (by rfl) (fun K1 hK1 => ?_))
                refine op_kids_append KK.out (.tmp 38) (.tmp 50) 1 (by decide) rfl EV.out.symm HZ (by simp) rfl NX.out.2 nX NX.out.1 ?_
                intro GX cX W9 hkk hat hst
                have hs9 := hst _ BC.out.1
                refine hK1 _ _ hs9 ?_
                clear hK1 K1
                have GQ := Lib.hid (hat.imp_right (Nat.le_trans BC.out.1))
                replace KK := Lib.hid hkk
                replace BC := Lib.hid (Still.trans _ _ _ BC.out hs9)
                clear hkk hat hst hs9
                try simp only [Act.put, List.setIfInBounds_toArray, List.set_cons_zero, List.set_cons_succ]
                have T0 := TT.out (_, _, HZ, GX, cX) W9 ⟨KK.out, GQ.out, BC.out⟩
                simp only [Act.put, List.setIfInBounds_toArray, List.set_cons_zero, List.set_cons_succ] at T0
                exact T0
              · refine sole_take rfl (by rfl) (fun K1 hK1 => ?_)
                go_simp
                refine (CB1.out _).mono ?_
                rintro e W9 ⟨A9, n9, c9, K9, m9, d9, rfl, hin, hb9⟩
                refine hK1 _ _ (Still.below hb9 BC.out.1) ?_
                clear hK1 K1 CB1
                replace KK := Lib.hid (KK.out.node hb9 hin)
                replace BC := Lib.hid (Still.trans _ _ _ BC.out (Still.below hb9 BC.out.1))
                clear hin hb9
                try simp only [Act.put, List.setIfInBounds_toArray, List.set_cons_zero, List.set_cons_succ]
                refine plan3_fork ?_ ?_
                · refine sole_take rfl (by rfl) (fun K1 hK1 => ?_)
                  refine op_kids_load KK.out (.tmp 37) rfl 1 (by decide) _ rfl rfl _ EV.out ?_
                  refine hK1 _ _ (Still.refl _ _ _ _) ?_
                  clear hK1 K1
                  try simp only [Act.put, List.setIfInBounds_toArray, List.set_cons_zero, List.set_cons_succ]
                  refine plan3_take _ rfl (by rfl) (fun W hW => by go_simp; first | done | rfl) ?_
                  simp only [Act.put, List.setIfInBounds_toArray, List.set_cons_zero, List.set_cons_succ]
                  refine plan3_take _ rfl (by rfl) (fun W hW => by go_simp; first | done | rfl) ?_
                  simp only [Act.put, List.setIfInBounds_toArray, List.set_cons_zero, List.set_cons_succ]
                  refine plan3_sole (sole_take rfl (by rfl) (fun K1 hK1 => ?_))
                  go_simp
                  refine (CB2.out _).mono ?_
                  rintro e W9 ⟨A9, n9, c9, K9, m9, d9, rfl, hin, hb9⟩
                  refine hK1 _ _ (Still.below hb9 BC.out.1) ?_
                  clear hK1 K1 CB2
                  replace KK := Lib.hid (KK.out.node hb9 hin)
                  replace BC := Lib.hid (Still.trans _ _ _ BC.out (Still.below hb9 BC.out.1))
                  clear hin hb9
                  try simp only [Act.put, List.setIfInBounds_toArray, List.set_cons_zero, List.set_cons_succ]
                  refine plan3_sole (sole_take rfl (by rfl) (fun K1 hK1 => ?_))
                  refine op_kids_append KK.out (.tmp 38) (.tmp 50) 1 (by decide) rfl EV.out.symm HZ (by simp) rfl NX.out.2 nX NX.out.1 ?_
                  intro GX cX W9 hkk hat hst
                  have hs9 := hst _ BC.out.1
                  refine hK1 _ _ hs9 ?_
                  clear hK1 K1
                  have GQ := Lib.hid (hat.imp_right (Nat.le_trans BC.out.1))
                  replace KK := Lib.hid hkk
                  replace BC := Lib.hid (Still.trans _ _ _ BC.out hs9)
                  clear hkk hat hst hs9
                  try simp only [Act.put, List.setIfInBounds_toArray, List.set_cons_zero, List.set_cons_succ]
                  have T0 := TT.out (_, _, HZ, GX, cX) W9 ⟨KK.out, GQ.out, BC.out⟩
                  simp only [Act.put, List.setIfInBounds_toArray, List.set_cons_zero, List.set_cons_succ] at T0
                  exact T0
                · refine sole_take rfl (by rfl) (fun K1 hK1 => ?_)
                  go_simp
                  refine (CB2.out _).mono ?_
                  rintro e W9 ⟨A9, n9, c9, K9, m9, d9, rfl, hin, hb9⟩
                  refine hK1 _ _ (Still.below hb9 BC.out.1) ?_
                  clear hK1 K1 CB2
                  replace KK := Lib.hid (KK.out.node hb9 hin)
                  replace BC := Lib.hid (Still.trans _ _ _ BC.out (Still.below hb9 BC.out.1))
                  clear hin hb9
                  try simp only [Act.put, List.setIfInBounds_toArray, List.set_cons_zero, List.set_cons_succ]
                  refine plan3_sole (sole_take rfl (by rfl) (fun K1 hK1 => ?_))
                  refine op_kids_load KK.out (.tmp 37) rfl 1 (by decide) _ rfl rfl _ EV.out ?_
                  refine hK1 _ _ (Still.refl _ _ _ _) ?_
                  clear hK1 K1
                  try simp only [Act.put, List.setIfInBounds_toArray, List.set_cons_zero, List.set_cons_succ]
                  refine plan3_take _ rfl (by rfl) (fun W hW => by go_simp; first | done | rfl) ?_
                  simp only [Act.put, List.setIfInBounds_toArray, List.set_cons_zero, List.set_cons_succ]
                  refine plan3_take _ rfl (by rfl) (fun W hW => by go_simp; first | done | rfl) ?_
                  simp only [Act.put, List.setIfInBounds_toArray, List.set_cons_zero, List.set_cons_succ]
                  refine plan3_sole (sole_take rfl (by rfl) (fun K1 hK1 => ?_))
                  refine op_kids_append KK.out (.tmp 38) (.tmp 50) 1 (by decide) rfl EV.out.symm HZ (by simp) rfl NX.out.2 nX NX.out.1 ?_
                  intro GX cX W9 hkk hat hst
                  have hs9 := hst _ BC.out.1
                  refine hK1 _ _ hs9 ?_
                  clear hK1 K1
                  have GQ := Lib.hid (hat.imp_right (Nat.le_trans BC.out.1))
                  replace KK := Lib.hid hkk
                  replace BC := Lib.hid (Still.trans _ _ _ BC.out hs9)
                  clear hkk hat hst hs9
                  try simp only [Act.put, List.setIfInBounds_toArray, List.set_cons_zero, List.set_cons_succ]
                  have T0 := TT.out (_, _, HZ, GX, cX) W9 ⟨KK.out, GQ.out, BC.out⟩
                  simp only [Act.put, List.setIfInBounds_toArray, List.set_cons_zero, List.set_cons_succ] at T0
                  exact T0
    · have t0 : decide ((k : Int) < (n : Int)) = false := decide_eq_false (by omega)
      have t0' : decide (k < n) = false := decide_eq_false hlt
      have e : X.take k = X := List.take_of_length_le (by rw [NA.out]; omega)
      rw [e, ksA_zero] at KK
      clear e
      have c2 : wr.cell? ⟨g, 2, none⟩ = some (.slice b m d) := Blk.cell (BX.out.below KK.out.bel BX.out.lt) 2
      go_wp2_with fail
      clear c1 c2 t0 t0' hlt hk
      generalize wr = w5 at *
      go_loopw [8] (fun iV wr => ∃ (k : Nat) (V : Nat → Value), iV = .int .i64 (k : Int) ∧ k ≤ m ∧ Kids3 w3 wr V V (ksA X (Y.take k)) [] []) (fun iV _ => ((m : Int) - intOf iV).toNat)
      case atStart => exact ⟨0, V, rfl, Nat.zero_le _, by rw [List.take_zero]; exact KK.out⟩
      case round =>
        clear KK
        obtain ⟨k, V, rfl, hk, hkk⟩ := hrel
        have KK := Lib.hid hkk
        have c2 : wr.cell? ⟨g, 2, none⟩ = some (.slice b m d) := Blk.cell (BX.out.below hkk.bel BX.out.lt) 2
        clear hkk
        by_cases hlt : k < m
        · have t0 : decide ((k : Int) < (m : Int)) = true := decide_eq_true (by omega)
          have t0' : decide (k < m) = true := decide_eq_true hlt
          have k0 : (0 : Int) ≤ (k : Int) := by omega
          have k1 : (k : Int) < (m : Int) := by omega
          have kI : IntKind.i64.wrap ((k : Int) + 1) = (k : Int) + 1 := IntWalk.i64_in _ (by have := NL.out; omega)
          obtain ⟨bB, oB, rfl, hbB⟩ := RA.out.1.form (by omega)
          clear hbB
          have kl : k < Y.length := by rw [MA.out]; exact hlt
          have q6 := RA.out.1.2.1 _ (List.getElem_mem kl)
          have PLo := Lib.hid ((RA.out.1.below KK.out.bel).lo k kl)
          have PHi := Lib.hid ((RA.out.1.below KK.out.bel).hi k kl)
          have HB := Lib.hid (RA.out.1)
          have BLt : Hid (bB < w3.heap.size) := Lib.hid (by
            obtain ⟨b', o', e, h1, _⟩ := RA.out.1.2.2 (by omega)
            injection e with e
            injection e with e1 e2
            omega)
          have PT := Lib.hid ((ksA_step X (Y.take k) (Y[k])).trans (by rw [← List.take_succ_eq_append_getElem kl]))
          have PL : Hid ((ksA X (Y.take k) 2).length + 2 ≤ 100000) := Lib.hid (by
            rw [ksA_len, List.length_take]
            have := NL.out
            omega)
          have r1 : IntKind.u64.wrap ((Y[k].1 : Nat) : Int) = ((Y[k].1 : Nat) : Int) := IntWalk.u64_in _ (by have := q6.1; omega)
          have r2 : IntKind.u64.wrap ((Y[k].2 : Nat) : Int) = ((Y[k].2 : Nat) : Int) := IntWalk.u64_in _ (by have := q6.2; omega)
          have CB1 := Lib.hid (fun W => rint_any ((Y[k].1 : Nat) : Int) W (by omega) (by have := q6.1; omega))
          have CB2 := Lib.hid (fun W => rint_any ((Y[k].2 : Nat) : Int) W (by omega) (by have := q6.2; omega))
          have KB := Lib.hid KK.out.bel
          clear q6 HB
          generalize Y[k] = p at *
          obtain ⟨pl, ph⟩ := p
          dsimp only at r1 r2
          change Hid (∀ W, Calls _ _ #[.int .u64 (pl : Int)] W (GivesNode (intT (pl : Int)) W)) at CB1
          change Hid (∀ W, Calls _ _ #[.int .u64 (ph : Int)] W (GivesNode (intT (ph : Int)) W)) at CB2
          change Hid (_ = some (Value.int .u32 (pl : Int))) at PLo
          change Hid (_ = some (Value.int .u32 (ph : Int))) at PHi
          obtain ⟨A, cA, hA⟩ := KK.out.form (k := 2) (by decide)
          have hLn := PL.out
          obtain ⟨nX, hn⟩ : ∃ nX, (ksA X (Y.take k) 2).length = nX := ⟨_, rfl⟩
          rw [hn] at hA
          have EV := Lib.hid hA
          have NX := Lib.hid (⟨hn, hLn⟩ : _ ∧ _)
          have nI : IntKind.i64.wrap ((nX : Int) + 1) = ((nX + 1 : Nat) : Int) := (IntWalk.i64_in _ (by omega)).trans (by omega)
          clear hA hLn hn PL
          go_upto_region 17 with fail
          refine wp_region_plan3 (Still (wr.drewN 1).heap.size w3.heap.size V) (Still.refl _ _ _) Still.trans (.take 0 (.take 1 (.take 2 (.take 4 (.take 5 (.take 6 (.take 7 (.take 8 (.take 9 (.take 10 (.take 12 (.take 13 (.take 14 (.take 15 (.take 16 (.take 17 (.take 18 (.fork3 3 (.take 20 (.take 25 (.fork 11 (.fork 19 (.sole 21 (.sole 22 (.take 23 (.take 28 (.take 29 (.fork 24 (.take 26 (.fork 27 (.sole 30 .fin) 30 (.sole 27 .fin))) 30 (.sole 24 (.take 26 (.sole 27 .fin))))))))) 21 (.sole 19 (.sole 22 (.take 23 (.take 28 (.take 29 (.fork 24 (.take 26 (.fork 27 (.sole 30 .fin) 30 (.sole 27 .fin))) 30 (.sole 24 (.take 26 (.sole 27 .fin)))))))))) 21 (.sole 11 (.sole 19 (.sole 22 (.take 23 (.take 28 (.take 29 (.fork 24 (.take 26 (.fork 27 (.sole 30 .fin) 30 (.sole 27 .fin))) 30 (.sole 24 (.take 26 (.sole 27 .fin))))))))))))) 11 (.fork3 3 (.take 20 (.take 25 (.fork 19 (.sole 21 (.sole 22 (.take 23 (.take 28 (.take 29 (.fork 24 (.take 26 (.fork 27 (.sole 30 .fin) 30 (.sole 27 .fin))) 30 (.sole 24 (.take 26 (.sole 27 .fin))))))))) 21 (.sole 19 (.sole 22 (.take 23 (.take 28 (.take 29 (.fork 24 (.take 26 (.fork 27 (.sole 30 .fin) 30 (.sole 27 .fin))) 30 (.sole 24 (.take 26 (.sole 27 .fin)))))))))))) 19 (.fork 3 (.take 20 (.take 25 (.sole 21 (.sole 22 (.take 23 (.take 28 (.take 29 (.fork 24 (.take 26 (.fork 27 (.sole 30 .fin) 30 (.sole 27 .fin))) 30 (.sole 24 (.take 26 (.sole 27 .fin))))))))))) 21 (.sole 3 (.take 20 (.take 25 (.sole 22 (.take 23 (.take 28 (.take 29 (.fork 24 (.take 26 (.fork 27 (.sole 30 .fin) 30 (.sole 27 .fin))) 30 (.sole 24 (.take 26 (.sole 27 .fin)))))))))))) 21 (.fork 3 (.take 20 (.take 25 (.sole 19 (.sole 22 (.take 23 (.take 28 (.take 29 (.fork 24 (.take 26 (.fork 27 (.sole 30 .fin) 30 (.sole 27 .fin))) 30 (.sole 24 (.take 26 (.sole 27 .fin))))))))))) 19 (.sole 3 (.take 20 (.take 25 (.sole 22 (.take 23 (.take 28 (.take 29 (.fork 24 (.take 26 (.fork 27 (.sole 30 .fin) 30 (.sole 27 .fin))) 30 (.sole 24 (.take 26 (.sole 27 .fin))))))))))))) 21 (.fork 3 (.take 20 (.take 25 (.sole 11 (.sole 19 (.sole 22 (.take 23 (.take 28 (.take 29 (.fork 24 (.take 26 (.fork 27 (.sole 30 .fin) 30 (.sole 27 .fin))) 30 (.sole 24 (.take 26 (.sole 27 .fin)))))))))))) 11 (.fork 3 (.take 20 (.take 25 (.sole 19 (.sole 22 (.take 23 (.take 28 (.take 29 (.fork 24 (.take 26 (.fork 27 (.sole 30 .fin) 30 (.sole 27 .fin))) 30 (.sole 24 (.take 26 (.sole 27 .fin))))))))))) 19 (.sole 3 (.take 20 (.take 25 (.sole 22 (.take 23 (.take 28 (.take 29 (.fork 24 (.take 26 (.fork 27 (.sole 30 .fin) 30 (.sole 27 .fin))) 30 (.sole 24 (.take 26 (.sole 27 .fin))))))))))))))))))))))))))))))) (by kernel_rfl) (by kernel_rfl) rfl (by kernel_rfl) (fun _ _ _ _ _ h => h) ?_
          change wpPlan3 _ _ _ _ _ _ (wr.drewN 1)
          have BX9 := Lib.hid ((BX.out.below KB.out BX.out.lt).below (drewN_below wr 1) (Blk.lt (BX.out.below KB.out BX.out.lt)))
          replace KK := Lib.hid (KK.out.below (drewN_below wr 1))
          replace KB := Lib.hid KK.out.bel
          have GL : Hid (g < w3.heap.size) := Lib.hid BX.out.lt
          replace PLo : Hid ((wr.drewN 1).cell? ⟨bB, oB + k * 2, none⟩ = some (.int .u32 (pl : Int))) := PLo
          replace PHi : Hid ((wr.drewN 1).cell? ⟨bB, oB + k * 2 + 1, none⟩ = some (.int .u32 (ph : Int))) := PHi
          generalize wr.drewN 1 = w9 at *
          have QV : Hid (∀ x, x < w3.heap.size → ∀ j, j < 3 → (V j).ownBlock ≠ some x) := Lib.hid (fun x hx j hj e => by have := (KK.out.lt hj e).1; omega)
          have EX : Hid (∀ W, Still w9.heap.size w3.heap.size V w9 W → Blk W g 25 (resC false (.slice a n c) (.slice (some ⟨bB, oB, none⟩) m d))) := Lib.hid (fun W hW => Blk.still BX9.out hW BX9.out.lt (by have := GL.out; omega) (QV.out g GL.out))
          have EB : Hid (∀ W, Still w9.heap.size w3.heap.size V w9 W → W.heap[bB]? = w9.heap[bB]?) := Lib.hid (fun W hW => hW.2 bB (by have := BLt.out; have := KB.out.size; omega) (by have := BLt.out; omega) (QV.out bB BLt.out))
          have ELo := Lib.hid (fun W (hW : Still w9.heap.size w3.heap.size V w9 W) => (World.cell?_of_block (a := ⟨bB, oB + k * 2, none⟩) (EB.out W hW)).trans PLo.out)
          have EHi := Lib.hid (fun W (hW : Still w9.heap.size w3.heap.size V w9 W) => (World.cell?_of_block (a := ⟨bB, oB + k * 2 + 1, none⟩) (EB.out W hW)).trans PHi.out)
          clear BX9 EB c2
          have BC := Lib.hid (Still.refl w9.heap.size w3.heap.size V w9)
          refine plan3_take _ rfl (by rfl) (fun W hW => by go_simp; first | done | rfl) ?_
          simp only [Act.put, List.setIfInBounds_toArray, List.set_cons_zero, List.set_cons_succ]
          refine plan3_take _ rfl (by rfl) (fun W hW => by go_simp; first | done | rfl) ?_
          simp only [Act.put, List.setIfInBounds_toArray, List.set_cons_zero, List.set_cons_succ]
          refine plan3_take _ rfl (by rfl) (fun W hW => by go_simp; first | done | rfl) ?_
          simp only [Act.put, List.setIfInBounds_toArray, List.set_cons_zero, List.set_cons_succ]
          refine plan3_take _ rfl (by rfl) (fun W hW => by go_simp; first | done | rfl) ?_
          simp only [Act.put, List.setIfInBounds_toArray, List.set_cons_zero, List.set_cons_succ]
          refine plan3_take _ rfl (by rfl) (fun W hW => yields_ranges (.tmp 68) rfl g 2 (.slice (some ⟨bB, oB, none⟩) m d) rfl (Blk.cell (EX.out W (Still.trans _ _ _ BC.out hW)) 2)) ?_
          simp only [Act.put, List.setIfInBounds_toArray, List.set_cons_zero, List.set_cons_succ]
          refine plan3_take _ rfl (by rfl) (fun W hW => by go_simp; first | done | rfl) ?_
          simp only [Act.put, List.setIfInBounds_toArray, List.set_cons_zero, List.set_cons_succ]
          refine plan3_take _ rfl (by rfl) (fun W hW => by go_simp; first | done | rfl) ?_
          simp only [Act.put, List.setIfInBounds_toArray, List.set_cons_zero, List.set_cons_succ]
          refine plan3_take _ rfl (by rfl) (fun W hW => by go_simp; first | done | rfl) ?_
          simp only [Act.put, List.setIfInBounds_toArray, List.set_cons_zero, List.set_cons_succ]
          refine plan3_take _ rfl (by rfl) (fun W hW => yields_u32 (.tmp 72) rfl bB (oB + k * 2) (.int .u32 (pl : Int)) rfl (ELo.out W (Still.trans _ _ _ BC.out hW))) ?_
          simp only [Act.put, List.setIfInBounds_toArray, List.set_cons_zero, List.set_cons_succ]
          refine plan3_take _ rfl (by rfl) (fun W hW => by go_simp; first | done | rfl) ?_
          simp only [Act.put, List.setIfInBounds_toArray, List.set_cons_zero, List.set_cons_succ]
          refine plan3_take _ rfl (by rfl) (fun W hW => by go_simp; first | done | rfl) ?_
          simp only [Act.put, List.setIfInBounds_toArray, List.set_cons_zero, List.set_cons_succ]
          refine plan3_take _ rfl (by rfl) (fun W hW => yields_ranges (.tmp 76) rfl g 2 (.slice (some ⟨bB, oB, none⟩) m d) rfl (Blk.cell (EX.out W (Still.trans _ _ _ BC.out hW)) 2)) ?_
          simp only [Act.put, List.setIfInBounds_toArray, List.set_cons_zero, List.set_cons_succ]
          refine plan3_take _ rfl (by rfl) (fun W hW => by go_simp; first | done | rfl) ?_
          simp only [Act.put, List.setIfInBounds_toArray, List.set_cons_zero, List.set_cons_succ]
          refine plan3_take _ rfl (by rfl) (fun W hW => by go_simp; first | done | rfl) ?_
          simp only [Act.put, List.setIfInBounds_toArray, List.set_cons_zero, List.set_cons_succ]
          refine plan3_take _ rfl (by rfl) (fun W hW => by go_simp; first | done | rfl) ?_
          simp only [Act.put, List.setIfInBounds_toArray, List.set_cons_zero, List.set_cons_succ]
          refine plan3_take _ rfl (by rfl) (fun W hW => yields_u32 (.tmp 80) rfl bB (oB + k * 2 + 1) (.int .u32 (ph : Int)) rfl (EHi.out W (Still.trans _ _ _ BC.out hW))) ?_
          simp only [Act.put, List.setIfInBounds_toArray, List.set_cons_zero, List.set_cons_succ]
          refine plan3_take _ rfl (by rfl) (fun W hW => by go_simp; first | done | rfl) ?_
          simp only [Act.put, List.setIfInBounds_toArray, List.set_cons_zero, List.set_cons_succ]
          refine plan3_with (.take 23 (.take 28 (.take 29 (.fork 24 (.take 26 (.fork 27 (.sole 30 .fin) 30 (.sole 27 .fin))) 30 (.sole 24 (.take 26 (.sole 27 .fin))))))) (fun a1 (x : Value × Value × Nat × Nat × Nat) => ((((((a1.put (some 67) (.slice A nX cA)).put (some 75) x.1).put (some 83) x.2.1).put (some 84) (.int .i64 (nX : Int))).put (some 85) (.slice (some ⟨x.2.2.1, 0, none⟩) 2 2)).put (some 88) (.int .i64 ((nX + 1 : Nat) : Int))).put (some 86) (.slice (some ⟨x.2.2.2.1, 0, none⟩) (nX + 2) x.2.2.2.2)) (fun x W => Kids3 w3 W V (upd V 2 (.slice (some ⟨x.2.2.2.1, 0, none⟩) (nX + 2) x.2.2.2.2)) (upd (ksA X (Y.take k)) 2 ((ksA X (Y.take k)) 2 ++ [zeroT, zeroT])) (([] ++ [((intT (pl : Int)), x.1)]) ++ [((intT (ph : Int)), x.2.1)]) [x.2.2.1] ∧ ((V 2).ownBlock = some x.2.2.2.1 ∨ w9.heap.size ≤ x.2.2.2.1) ∧ Still w9.heap.size w3.heap.size V w9 W) ?_ ?_
          · as_aux_lemma =>
              clear KK BC
              rintro ⟨v1, v2, HZ, GX, cX⟩ W9 ⟨hkk, hgq, hst⟩
              have KK := Lib.hid hkk
              have GQ := Lib.hid hgq
              have BC := Lib.hid hst
              clear hkk hgq hst
              dsimp only at KK GQ
              simp only [Act.put, List.setIfInBounds_toArray, List.set_cons_zero, List.set_cons_succ]
              refine plan3_take _ rfl (by rfl) (fun W hW => yields_nodeAt (.tmp 86) (.tmp 84) rfl GX (nX + 2) cX rfl _ rfl nX rfl (by omega)) ?_
              simp only [Act.put, List.setIfInBounds_toArray, List.set_cons_zero, List.set_cons_succ]
              refine plan3_take _ rfl (by rfl) (fun W hW => by go_simp; first | done | rfl) ?_
              simp only [Act.put, List.setIfInBounds_toArray, List.set_cons_zero, List.set_cons_succ]
              refine plan3_take _ rfl (by rfl) (fun W hW => by go_simp; first | done | rfl) ?_
              simp only [Act.put, List.setIfInBounds_toArray, List.set_cons_zero, List.set_cons_succ]
              refine plan3_fork ?_ ?_
              · refine sole_take rfl (by rfl) (fun K1 hK1 => ?_)
                refine op_kids_set KK.out (.tmp 87) (.tmp 75) 2 (by decide) rfl rfl GX (nX + 2) cX nX _ (upd_at _ _ _) ?_ ?_ rfl (intT (pl : Int)) _ rfl rfl ?_ ?_
                · simp [upd_at, NX.out.1]
                · simp [upd_at, NX.out.1]
                · exact (List.mem_append_left _ (List.mem_append_right _ (List.mem_singleton.2 rfl)))
                intro W9 hkk hfar hsz
                have hs9 := Still.far (t := w3.heap.size) (k := 2) hfar hsz (by decide) GQ.out
                refine hK1 _ _ hs9 ?_
                clear hK1 K1
                replace KK := Lib.hid hkk
                replace BC := Lib.hid (Still.trans _ _ _ BC.out hs9)
                clear hkk hfar hsz hs9
                try simp only [Act.put, List.setIfInBounds_toArray, List.set_cons_zero, List.set_cons_succ]
                refine plan3_take _ rfl (by rfl) (fun W hW => yields_nodeAt (.tmp 86) (.tmp 88) rfl GX (nX + 2) cX rfl _ rfl (nX + 1) rfl (by omega)) ?_
                simp only [Act.put, List.setIfInBounds_toArray, List.set_cons_zero, List.set_cons_succ]
                refine plan3_fork ?_ ?_
                · refine sole_take rfl (by rfl) (fun K1 hK1 => ?_)
                  refine op_kids_set KK.out (.tmp 89) (.tmp 83) 2 (by decide) rfl rfl GX (nX + 2) cX (nX + 1) _ (upd_at _ _ _) ?_ ?_ rfl (intT (ph : Int)) _ rfl rfl ?_ ?_
                  · simp [upd_at, NX.out.1]
                  · simp [upd_at, NX.out.1]
                  · exact (List.mem_append_right _ (List.mem_singleton.2 rfl))
                  intro W9 hkk hfar hsz
                  have hs9 := Still.far (t := w3.heap.size) (k := 2) hfar hsz (by decide) GQ.out
                  refine hK1 _ _ hs9 ?_
                  clear hK1 K1
                  replace KK := Lib.hid hkk
                  replace BC := Lib.hid (Still.trans _ _ _ BC.out hs9)
                  clear hkk hfar hsz hs9
                  try simp only [Act.put, List.setIfInBounds_toArray, List.set_cons_zero, List.set_cons_succ]
                  refine plan3_sole (sole_take rfl (by rfl) (fun K1 hK1 => ?_))
                  refine op_kids_store KK.out (.tmp 91) (.tmp 86) 2 (by decide) rfl rfl _ _ _ _ rfl rfl rfl ?_
                  intro W9 hkk hfar hsz
                  have hs9 := Still.tab (B := w9.heap.size) (V := V) hfar hsz
                  refine hK1 _ _ hs9 ?_
                  clear hK1 K1
                  replace KK := Lib.hid hkk
                  replace BC := Lib.hid (Still.trans _ _ _ BC.out hs9)
                  clear hkk hfar hsz hs9
                  try simp only [Act.put, List.setIfInBounds_toArray, List.set_cons_zero, List.set_cons_succ]
                  refine plan3_end ?_
                  go_wp2_with fail
                  have K9 := Lib.hid (KK.out.closed rfl ((upd_three _ _ _ NX.out.1 _ _).trans PT.out))
                  clear KK
                  go_roundw
                  case rel => exact ⟨k + 1, _, by go_num, by omega, K9.out⟩
                  case measure => simp only [intOf]; omega
                · refine sole_take rfl (by rfl) (fun K1 hK1 => ?_)
                  refine op_kids_store KK.out (.tmp 91) (.tmp 86) 2 (by decide) rfl rfl _ _ _ _ rfl rfl rfl ?_
                  intro W9 hkk hfar hsz
                  have hs9 := Still.tab (B := w9.heap.size) (V := V) hfar hsz
                  refine hK1 _ _ hs9 ?_
                  clear hK1 K1
                  replace KK := Lib.hid hkk
                  replace BC := Lib.hid (Still.trans _ _ _ BC.out hs9)
                  clear hkk hfar hsz hs9
                  try simp only [Act.put, List.setIfInBounds_toArray, List.set_cons_zero, List.set_cons_succ]
                  refine plan3_sole (sole_take rfl (by rfl) (fun K1 hK1 => ?_))
                  refine op_kids_set KK.out (.tmp 89) (.tmp 83) 2 (by decide) rfl rfl GX (nX + 2) cX (nX + 1) _ (upd_at _ _ _) ?_ ?_ rfl (intT (ph : Int)) _ rfl rfl ?_ ?_
                  · simp [upd_at, NX.out.1]
                  · simp [upd_at, NX.out.1]
                  · exact (List.mem_append_right _ (List.mem_singleton.2 rfl))
                  intro W9 hkk hfar hsz
                  have hs9 := Still.far (t := w3.heap.size) (k := 2) hfar hsz (by decide) GQ.out
                  refine hK1 _ _ hs9 ?_
                  clear hK1 K1
                  replace KK := Lib.hid hkk
                  replace BC := Lib.hid (Still.trans _ _ _ BC.out hs9)
                  clear hkk hfar hsz hs9
                  try simp only [Act.put, List.setIfInBounds_toArray, List.set_cons_zero, List.set_cons_succ]
                  refine plan3_end ?_
                  go_wp2_with fail
                  have K9 := Lib.hid (KK.out.closed rfl ((upd_three _ _ _ NX.out.1 _ _).trans PT.out))
                  clear KK
                  go_roundw
                  case rel => exact ⟨k + 1, _, by go_num, by omega, K9.out⟩
                  case measure => simp only [intOf]; omega
              · refine sole_take rfl (by rfl) (fun K1 hK1 => ?_)
                refine op_kids_store KK.out (.tmp 91) (.tmp 86) 2 (by decide) rfl rfl _ _ _ _ rfl rfl rfl ?_
                intro W9 hkk hfar hsz
                have hs9 := Still.tab (B := w9.heap.size) (V := V) hfar hsz
                refine hK1 _ _ hs9 ?_
                clear hK1 K1
                replace KK := Lib.hid hkk
                replace BC := Lib.hid (Still.trans _ _ _ BC.out hs9)
                clear hkk hfar hsz hs9
                try simp only [Act.put, List.setIfInBounds_toArray, List.set_cons_zero, List.set_cons_succ]
                refine plan3_sole (sole_take rfl (by rfl) (fun K1 hK1 => ?_))
                refine op_kids_set KK.out (.tmp 87) (.tmp 75) 2 (by decide) rfl rfl GX (nX + 2) cX nX _ (upd_at _ _ _) ?_ ?_ rfl (intT (pl : Int)) _ rfl rfl ?_ ?_
                · simp [upd_at, NX.out.1]
                · simp [upd_at, NX.out.1]
                · exact (List.mem_append_left _ (List.mem_append_right _ (List.mem_singleton.2 rfl)))
                intro W9 hkk hfar hsz
                have hs9 := Still.far (t := w3.heap.size) (k := 2) hfar hsz (by decide) GQ.out
                refine hK1 _ _ hs9 ?_
                clear hK1 K1
                replace KK := Lib.hid hkk
                replace BC := Lib.hid (Still.trans _ _ _ BC.out hs9)
                clear hkk hfar hsz hs9
                try simp only [Act.put, List.setIfInBounds_toArray, List.set_cons_zero, List.set_cons_succ]
                refine plan3_take _ rfl (by rfl) (fun W hW => yields_nodeAt (.tmp 86) (.tmp 88) rfl GX (nX + 2) cX rfl _ rfl (nX + 1) rfl (by omega)) ?_
                simp only [Act.put, List.setIfInBounds_toArray, List.set_cons_zero, List.set_cons_succ]
                refine plan3_sole (sole_take rfl (by rfl) (fun K1 hK1 => ?_))
                refine op_kids_set KK.out (.tmp 89) (.tmp 83) 2 (by decide) rfl rfl GX (nX + 2) cX (nX + 1) _ (upd_at _ _ _) ?_ ?_ rfl (intT (ph : Int)) _ rfl rfl ?_ ?_
                · simp [upd_at, NX.out.1]
                · simp [upd_at, NX.out.1]
                · exact (List.mem_append_right _ (List.mem_singleton.2 rfl))
                intro W9 hkk hfar hsz
                have hs9 := Still.far (t := w3.heap.size) (k := 2) hfar hsz (by decide) GQ.out
                refine hK1 _ _ hs9 ?_
                clear hK1 K1
                replace KK := Lib.hid hkk
                replace BC := Lib.hid (Still.trans _ _ _ BC.out hs9)
                clear hkk hfar hsz hs9
                try simp only [Act.put, List.setIfInBounds_toArray, List.set_cons_zero, List.set_cons_succ]
                refine plan3_end ?_
                go_wp2_with fail
                have K9 := Lib.hid (KK.out.closed rfl ((upd_three _ _ _ NX.out.1 _ _).trans PT.out))
                clear KK
                go_roundw
                case rel => exact ⟨k + 1, _, by go_num, by omega, K9.out⟩
                case measure => simp only [intOf]; omega
          · as_aux_lemma =>
              intro TT
              replace TT := Lib.hid TT
              refine plan3_three ?_ ?_ ?_
              · refine sole_take rfl (by rfl) (fun K1 hK1 => ?_)
                refine op_kids_load KK.out (.tmp 66) rfl 2 (by decide) _ rfl rfl _ EV.out ?_
                refine hK1 _ _ (Still.refl _ _ _ _) ?_
                clear hK1 K1
                try simp only [Act.put, List.setIfInBounds_toArray, List.set_cons_zero, List.set_cons_succ]
                refine plan3_take _ rfl (by rfl) (fun W hW => by go_simp; first | done | rfl) ?_
                simp only [Act.put, List.setIfInBounds_toArray, List.set_cons_zero, List.set_cons_succ]
                refine plan3_take _ rfl (by rfl) (fun W hW => by go_simp; first | done | rfl) ?_
                simp only [Act.put, List.setIfInBounds_toArray, List.set_cons_zero, List.set_cons_succ]
                refine plan3_fork ?_ ?_
                · refine sole_take rfl (by rfl) (fun K1 hK1 => ?_)
                  go_simp
                  refine (CB1.out _).mono ?_
                  rintro e W9 ⟨A9, n9, c9, K9, m9, d9, rfl, hin, hb9⟩
                  refine hK1 _ _ (Still.below hb9 BC.out.1) ?_
                  clear hK1 K1 CB1
                  replace KK := Lib.hid (KK.out.node hb9 hin)
                  replace BC := Lib.hid (Still.trans _ _ _ BC.out (Still.below hb9 BC.out.1))
                  clear hin hb9
                  try simp only [Act.put, List.setIfInBounds_toArray, List.set_cons_zero, List.set_cons_succ]
                  refine plan3_fork ?_ ?_
                  · refine sole_take rfl (by rfl) (fun K1 hK1 => ?_)
                    go_simp
                    refine (CB2.out _).mono ?_
                    rintro e W9 ⟨A9, n9, c9, K9, m9, d9, rfl, hin, hb9⟩
                    refine hK1 _ _ (Still.below hb9 BC.out.1) ?_
                    clear hK1 K1 CB2
                    replace KK := Lib.hid (KK.out.node hb9 hin)
                    replace BC := Lib.hid (Still.trans _ _ _ BC.out (Still.below hb9 BC.out.1))
                    clear hin hb9
                    try simp only [Act.put, List.setIfInBounds_toArray, List.set_cons_zero, List.set_cons_succ]
                    refine plan3_sole (sole_take rfl (by rfl) (fun K1 hK1 => ?_))
                    refine op_kids_zero KK.out _ rfl (by kernel_rfl) ?_
                    intro HZ W9 hkk hb9
                    refine hK1 _ _ (Still.below hb9 BC.out.1) ?_
                    clear hK1 K1
                    replace KK := Lib.hid hkk
                    replace BC := Lib.hid (Still.trans _ _ _ BC.out (Still.below hb9 BC.out.1))
                    clear hkk hb9
                    try simp only [Act.put, List.setIfInBounds_toArray, List.set_cons_zero, List.set_cons_succ]
                    refine plan3_sole (sole_take rfl (by rfl) (fun K1 hK1 => ?_))
                    refine op_kids_append KK.out (.tmp 67) (.tmp 85) 2 (by decide) rfl EV.out.symm HZ (by simp) rfl NX.out.2 nX NX.out.1 ?_
                    intro GX cX W9 hkk hat hst
                    have hs9 := hst _ BC.out.1
                    refine hK1 _ _ hs9 ?_
                    clear hK1 K1
                    have GQ := Lib.hid (hat.imp_right (Nat.le_trans BC.out.1))
                    replace KK := Lib.hid hkk
                    replace BC := Lib.hid (Still.trans _ _ _ BC.out hs9)
                    clear hkk hat hst hs9
                    try simp only [Act.put, List.setIfInBounds_toArray, List.set_cons_zero, List.set_cons_succ]
                    have T0 := TT.out (_, _, HZ, GX, cX) W9 ⟨KK.out, GQ.out, BC.out⟩
                    simp only [Act.put, List.setIfInBounds_toArray, List.set_cons_zero, List.set_cons_succ] at T0
                    exact T0
                  · refine sole_take rfl (by rfl) (fun K1 hK1 => ?_)
                    refine op_kids_zero KK.out _ rfl (by kernel_rfl) ?_
                    intro HZ W9 hkk hb9
                    refine hK1 _ _ (Still.below hb9 BC.out.1) ?_
                    clear hK1 K1
                    replace KK := Lib.hid hkk
                    replace BC := Lib.hid (Still.trans _ _ _ BC.out (Still.below hb9 BC.out.1))
                    clear hkk hb9
                    try simp only [Act.put, List.setIfInBounds_toArray, List.set_cons_zero, List.set_cons_succ]
                    refine plan3_sole (sole_take rfl (by rfl) (fun K1 hK1 => ?_))
                    go_simp
                    refine (CB2.out _).mono ?_
                    rintro e W9 ⟨A9, n9, c9, K9, m9, d9, rfl, hin, hb9⟩
                    refine hK1 _ _ (Still.below hb9 BC.out.1) ?_
                    clear hK1 K1 CB2
                    replace KK := Lib.hid (KK.out.node hb9 hin)
                    replace BC := Lib.hid (Still.trans _ _ _ BC.out (Still.below hb9 BC.out.1))
                    clear hin hb9
                    try simp only [Act.put, List.setIfInBounds_toArray, List.set_cons_zero, List.set_cons_succ]
                    refine plan3_sole (sole_take rfl (by rfl) (fun K1 hK1 => ?_))
                    refine op_kids_append KK.out (.tmp 67) (.tmp 85) 2 (by decide) rfl EV.out.symm HZ (by simp) rfl NX.out.2 nX NX.out.1 ?_
                    intro GX cX W9 hkk hat hst
                    have hs9 := hst _ BC.out.1
                    refine hK1 _ _ hs9 ?_
                    clear hK1 K1
                    have GQ := Lib.hid (hat.imp_right (Nat.le_trans BC.out.1))
                    replace KK := Lib.hid hkk
                    replace BC := Lib.hid (Still.trans _ _ _ BC.out hs9)
                    clear hkk hat hst hs9
                    try simp only [Act.put, List.setIfInBounds_toArray, List.set_cons_zero, List.set_cons_succ]
                    have T0 := TT.out (_, _, HZ, GX, cX) W9 ⟨KK.out, GQ.out, BC.out⟩
                    simp only [Act.put, List.setIfInBounds_toArray, List.set_cons_zero, List.set_cons_succ] at T0
                    exact T0
                · refine sole_take rfl (by rfl) (fun K1 hK1 => ?_)
                  refine op_kids_zero KK.out _ rfl (by kernel_rfl) ?_
                  intro HZ W9 hkk hb9
                  refine hK1 _ _ (Still.below hb9 BC.out.1) ?_
                  clear hK1 K1
                  replace KK := Lib.hid hkk
                  replace BC := Lib.hid (Still.trans _ _ _ BC.out (Still.below hb9 BC.out.1))
                  clear hkk hb9
                  try simp only [Act.put, List.setIfInBounds_toArray, List.set_cons_zero, List.set_cons_succ]
                  refine plan3_sole (sole_take rfl (by rfl) (fun K1 hK1 => ?_))
                  go_simp
                  refine (CB1.out _).mono ?_
                  rintro e W9 ⟨A9, n9, c9, K9, m9, d9, rfl, hin, hb9⟩
                  refine hK1 _ _ (Still.below hb9 BC.out.1) ?_
                  clear hK1 K1 CB1
                  replace KK := Lib.hid (KK.out.node hb9 hin)
                  replace BC := Lib.hid (Still.trans _ _ _ BC.out (Still.below hb9 BC.out.1))
                  clear hin hb9
                  try simp only [Act.put, List.setIfInBounds_toArray, List.set_cons_zero, List.set_cons_succ]
                  refine plan3_sole (sole_take rfl (by rfl) (fun K1 hK1 => ?_))
                  go_simp
                  refine (CB2.out _).mono ?_
                  rintro e W9 ⟨A9, n9, c9, K9, m9, d9, rfl, hin, hb9⟩
                  refine hK1 _ _ (Still.below hb9 BC.out.1) ?_
                  clear hK1 K1 CB2
                  replace KK := Lib.hid (KK.out.node hb9 hin)
                  replace BC := Lib.hid (Still.trans _ _ _ BC.out (Still.below hb9 BC.out.1))
                  clear hin hb9
                  try simp only [Act.put, List.setIfInBounds_toArray, List.set_cons_zero, List.set_cons_succ]
                  refine plan3_sole (sole_take rfl (by rfl) (fun K1 hK1 => ?_))
                  refine op_kids_append KK.out (.tmp 67) (.tmp 85) 2 (by decide) rfl EV.out.symm HZ (by simp) rfl NX.out.2 nX NX.out.1 ?_
                  intro GX cX W9 hkk hat hst
                  have hs9 := hst _ BC.out.1
                  refine hK1 _ _ hs9 ?_
                  clear hK1 K1
                  have GQ := Lib.hid (hat.imp_right (Nat.le_trans BC.out.1))
                  replace KK := Lib.hid hkk
                  replace BC := Lib.hid (Still.trans _ _ _ BC.out hs9)
                  clear hkk hat hst hs9
                  try simp only [Act.put, List.setIfInBounds_toArray, List.set_cons_zero, List.set_cons_succ]
                  have T0 := TT.out (_, _, HZ, GX, cX) W9 ⟨KK.out, GQ.out, BC.out⟩
                  simp only [Act.put, List.setIfInBounds_toArray, List.set_cons_zero, List.set_cons_succ] at T0
                  exact T0
              · refine sole_take rfl (by rfl) (fun K1 hK1 => ?_)
                go_simp
                refine (CB1.out _).mono ?_
                rintro e W9 ⟨A9, n9, c9, K9, m9, d9, rfl, hin, hb9⟩
                refine hK1 _ _ (Still.below hb9 BC.out.1) ?_
                clear hK1 K1 CB1
                replace KK := Lib.hid (KK.out.node hb9 hin)
                replace BC := Lib.hid (Still.trans _ _ _ BC.out (Still.below hb9 BC.out.1))
                clear hin hb9
                try simp only [Act.put, List.setIfInBounds_toArray, List.set_cons_zero, List.set_cons_succ]
                refine plan3_three ?_ ?_ ?_
                · refine sole_take rfl (by rfl) (fun K1 hK1 => ?_)
                  refine op_kids_load KK.out (.tmp 66) rfl 2 (by decide) _ rfl rfl _ EV.out ?_
                  refine hK1 _ _ (Still.refl _ _ _ _) ?_
                  clear hK1 K1
                  try simp only [Act.put, List.setIfInBounds_toArray, List.set_cons_zero, List.set_cons_succ]
                  refine plan3_take _ rfl (by rfl) (fun W hW => by go_simp; first | done | rfl) ?_
                  simp only [Act.put, List.setIfInBounds_toArray, List.set_cons_zero, List.set_cons_succ]
                  refine plan3_take _ rfl (by rfl) (fun W hW => by go_simp; first | done | rfl) ?_
                  simp only [Act.put, List.setIfInBounds_toArray, List.set_cons_zero, List.set_cons_succ]
                  refine plan3_fork ?_ ?_
                  · refine sole_take rfl (by rfl) (fun K1 hK1 => ?_)
                    go_simp
                    refine (CB2.out _).mono ?_
                    rintro e W9 ⟨A9, n9, c9, K9, m9, d9, rfl, hin, hb9⟩
                    refine hK1 _ _ (Still.below hb9 BC.out.1) ?_
                    clear hK1 K1 CB2
                    replace KK := Lib.hid (KK.out.node hb9 hin)
                    replace BC := Lib.hid (Still.trans _ _ _ BC.out (Still.below hb9 BC.out.1))
                    clear hin hb9
                    try simp only [Act.put, List.setIfInBounds_toArray, List.set_cons_zero, List.set_cons_succ]
                    refine plan3_sole (sole_take rfl (by rfl) (fun K1 hK1 => ?_))
                    refine op_kids_zero KK.out _ rfl (by kernel_rfl) ?_
                    intro HZ W9 hkk hb9
                    refine hK1 _ _ (Still.below hb9 BC.out.1) ?_
                    clear hK1 K1
                    replace KK := Lib.hid hkk
                    replace BC := Lib.hid (Still.trans _ _ _ BC.out (Still.below hb9 BC.out.1))
                    clear hkk hb9
                    try simp only [Act.put, List.setIfInBounds_toArray, List.set_cons_zero, List.set_cons_succ]
                    refine plan3_sole (sole_take rfl (by rfl) (fun K1 hK1 => ?_))
                    refine op_kids_append KK.out (.tmp 67) (.tmp 85) 2 (by decide) rfl EV.out.symm HZ (by simp) rfl NX.out.2 nX NX.out.1 ?_
                    intro GX cX W9 hkk hat hst
                    have hs9 := hst _ BC.out.1
                    refine hK1 _ _ hs9 ?_
                    clear hK1 K1
                    have GQ := Lib.hid (hat.imp_right (Nat.le_trans BC.out.1))
                    replace KK := Lib.hid hkk
                    replace BC := Lib.hid (Still.trans _ _ _ BC.out hs9)
                    clear hkk hat hst hs9
                    try simp only [Act.put, List.setIfInBounds_toArray, List.set_cons_zero, List.set_cons_succ]
                    have T0 := TT.out (_, _, HZ, GX, cX) W9 ⟨KK.out, GQ.out, BC.out⟩
                    simp only [Act.put, List.setIfInBounds_toArray, List.set_cons_zero, List.set_cons_succ] at T0
                    exact T0
                  · refine sole_take rfl (by rfl) (fun K1 hK1 => ?_)
                    refine op_kids_zero KK.out _ rfl (by kernel_rfl) ?_
                    intro HZ W9 hkk hb9
                    refine hK1 _ _ (Still.below hb9 BC.out.1) ?_
                    clear hK1 K1
                    replace KK := Lib.hid hkk
                    replace BC := Lib.hid (Still.trans _ _ _ BC.out (Still.below hb9 BC.out.1))
                    clear hkk hb9
                    try simp only [Act.put, List.setIfInBounds_toArray, List.set_cons_zero, List.set_cons_succ]
                    refine plan3_sole (sole_take rfl (by rfl) (fun K1 hK1 => ?_))
                    go_simp
                    refine (CB2.out _).mono ?_
                    rintro e W9 ⟨A9, n9, c9, K9, m9, d9, rfl, hin, hb9⟩
                    refine hK1 _ _ (Still.below hb9 BC.out.1) ?_
                    clear hK1 K1 CB2
                    replace KK := Lib.hid (KK.out.node hb9 hin)
                    replace BC := Lib.hid (Still.trans _ _ _ BC.out (Still.below hb9 BC.out.1))
                    clear hin hb9
                    try simp only [Act.put, List.setIfInBounds_toArray, List.set_cons_zero, List.set_cons_succ]
                    refine plan3_sole (sole_take rfl (by rfl) (fun K1 hK1 => ?_))
                    refine op_kids_append KK.out (.tmp 67) (.tmp 85) 2 (by decide) rfl EV.out.symm HZ (by simp) rfl NX.out.2 nX NX.out.1 ?_
                    intro GX cX W9 hkk hat hst
                    have hs9 := hst _ BC.out.1
                    refine hK1 _ _ hs9 ?_
                    clear hK1 K1
                    have GQ := Lib.hid (hat.imp_right (Nat.le_trans BC.out.1))
                    replace KK := Lib.hid hkk
                    replace BC := Lib.hid (Still.trans _ _ _ BC.out hs9)
                    clear hkk hat hst hs9
                    try simp only [Act.put, List.setIfInBounds_toArray, List.set_cons_zero, List.set_cons_succ]
                    have T0 := TT.out (_, _, HZ, GX, cX) W9 ⟨KK.out, GQ.out, BC.out⟩
                    simp only [Act.put, List.setIfInBounds_toArray, List.set_cons_zero, List.set_cons_succ] at T0
                    exact T0
                · refine sole_take rfl (by rfl) (fun K1 hK1 => ?_)
                  go_simp
                  refine (CB2.out _).mono ?_
                  rintro e W9 ⟨A9, n9, c9, K9, m9, d9, rfl, hin, hb9⟩
                  refine hK1 _ _ (Still.below hb9 BC.out.1) ?_
                  clear hK1 K1 CB2
                  replace KK := Lib.hid (KK.out.node hb9 hin)
                  replace BC := Lib.hid (Still.trans _ _ _ BC.out (Still.below hb9 BC.out.1))
                  clear hin hb9
                  try simp only [Act.put, List.setIfInBounds_toArray, List.set_cons_zero, List.set_cons_succ]
                  refine plan3_fork ?_ ?_
                  · refine sole_take rfl (by rfl) (fun K1 hK1 => ?_)
                    refine op_kids_load KK.out (.tmp 66) rfl 2 (by decide) _ rfl rfl _ EV.out ?_
                    refine hK1 _ _ (Still.refl _ _ _ _) ?_
                    clear hK1 K1
                    try simp only [Act.put, List.setIfInBounds_toArray, List.set_cons_zero, List.set_cons_succ]
                    refine plan3_take _ rfl (by rfl) (fun W hW => by go_simp; first | done | rfl) ?_
                    simp only [Act.put, List.setIfInBounds_toArray, List.set_cons_zero, List.set_cons_succ]
                    refine plan3_take _ rfl (by rfl) (fun W hW => by go_simp; first | done | rfl) ?_
                    simp only [Act.put, List.setIfInBounds_toArray, List.set_cons_zero, List.set_cons_succ]
                    refine plan3_sole (sole_take rfl (by rfl) (fun K1 hK1 => ?_))
                    refine op_kids_zero KK.out _ rfl (by kernel_rfl) ?_
                    intro HZ W9 hkk hb9
                    refine hK1 _ _ (Still.below hb9 BC.out.1) ?_
                    clear hK1 K1
                    replace KK := Lib.hid hkk
                    replace BC := Lib.hid (Still.trans _ _ _ BC.out (Still.below hb9 BC.out.1))
                    clear hkk hb9
                    try simp only [Act.put, List.setIfInBounds_toArray, List.set_cons_zero, List.set_cons_succ]
                    refine plan3_sole (sole_take rfl (by rfl) (fun K1 hK1 => ?_))
                    refine op_kids_append KK.out (.tmp 67) (.tmp 85) 2 (by decide) rfl EV.out.symm HZ (by simp) rfl NX.out.2 nX NX.out.1 ?_
                    intro GX cX W9 hkk hat hst
                    have hs9 := hst _ BC.out.1
                    refine hK1 _ _ hs9 ?_
                    clear hK1 K1
                    have GQ := Lib.hid (hat.imp_right (Nat.le_trans BC.out.1))
                    replace KK := Lib.hid hkk
                    replace BC := Lib.hid (Still.trans _ _ _ BC.out hs9)
                    clear hkk hat hst hs9
                    try simp only [Act.put, List.setIfInBounds_toArray, List.set_cons_zero, List.set_cons_succ]
                    have T0 := TT.out (_, _, HZ, GX, cX) W9 ⟨KK.out, GQ.out, BC.out⟩
                    simp only [Act.put, List.setIfInBounds_toArray, List.set_cons_zero, List.set_cons_succ] at T0
                    exact T0
                  · refine sole_take rfl (by rfl) (fun K1 hK1 => ?_)
                    refine op_kids_zero KK.out _ rfl (by kernel_rfl) ?_
                    intro HZ W9 hkk hb9
                    refine hK1 _ _ (Still.below hb9 BC.out.1) ?_
                    clear hK1 K1
                    replace KK := Lib.hid hkk
                    replace BC := Lib.hid (Still.trans _ _ _ BC.out (Still.below hb9 BC.out.1))
                    clear hkk hb9
                    try simp only [Act.put, List.setIfInBounds_toArray, List.set_cons_zero, List.set_cons_succ]
                    refine plan3_sole (sole_take rfl (by rfl) (fun K1 hK1 => ?_))
                    refine op_kids_load KK.out (.tmp 66) rfl 2 (by decide) _ rfl rfl _ EV.out ?_
                    refine hK1 _ _ (Still.refl _ _ _ _) ?_
                    clear hK1 K1
                    try simp only [Act.put, List.setIfInBounds_toArray, List.set_cons_zero, List.set_cons_succ]
                    refine plan3_take _ rfl (by rfl) (fun W hW => by go_simp; first | done | rfl) ?_
                    simp only [Act.put, List.setIfInBounds_toArray, List.set_cons_zero, List.set_cons_succ]
                    refine plan3_take _ rfl (by rfl) (fun W hW => by go_simp; first | done | rfl) ?_
                    simp only [Act.put, List.setIfInBounds_toArray, List.set_cons_zero, List.set_cons_succ]
                    refine plan3_sole (sole_take rfl (by rfl) (fun K1 hK1 => ?_))
                    refine op_kids_append KK.out (.tmp 67) (.tmp 85) 2 (by decide) rfl EV.out.symm HZ (by simp) rfl NX.out.2 nX NX.out.1 ?_
                    intro GX cX W9 hkk hat hst
                    have hs9 := hst _ BC.out.1
                    refine hK1 _ _ hs9 ?_
                    clear hK1 K1
                    have GQ := Lib.hid (hat.imp_right (Nat.le_trans BC.out.1))
                    replace KK := Lib.hid hkk
                    replace BC := Lib.hid (Still.trans _ _ _ BC.out hs9)
                    clear hkk hat hst hs9
                    try simp only [Act.put, List.setIfInBounds_toArray, List.set_cons_zero, List.set_cons_succ]
                    have T0 := TT.out (_, _, HZ, GX, cX) W9 ⟨KK.out, GQ.out, BC.out⟩
                    simp only [Act.put, List.setIfInBounds_toArray, List.set_cons_zero, List.set_cons_succ] at T0
                    exact T0
                · refine sole_take rfl (by rfl) (fun K1 hK1 => ?_)
                  refine op_kids_zero KK.out _ rfl (by kernel_rfl) ?_
                  intro HZ W9 hkk hb9
                  refine hK1 _ _ (Still.below hb9 BC.out.1) ?_
                  clear hK1 K1
                  replace KK := Lib.hid hkk
                  replace BC := Lib.hid (Still.trans _ _ _ BC.out (Still.below hb9 BC.out.1))
                  clear hkk hb9
                  try simp only [Act.put, List.setIfInBounds_toArray, List.set_cons_zero, List.set_cons_succ]
                  refine plan3_fork ?_ ?_
                  · refine sole_take rfl (by rfl) (fun K1 hK1 => ?_)
                    refine op_kids_load KK.out (.tmp 66) rfl 2 (by decide) _ rfl rfl _ EV.out ?_
                    refine hK1 _ _ (Still.refl _ _ _ _) ?_
                    clear hK1 K1
                    try simp only [Act.put, List.setIfInBounds_toArray, List.set_cons_zero, List.set_cons_succ]
                    refine plan3_take _ rfl (by rfl) (fun W hW => by go_simp; first | done | rfl) ?_
                    simp only [Act.put, List.setIfInBounds_toArray, List.set_cons_zero, List.set_cons_succ]
                    refine plan3_take _ rfl (by rfl) (fun W hW => by go_simp; first | done | rfl) ?_
                    simp only [Act.put, List.setIfInBounds_toArray, List.set_cons_zero, List.set_cons_succ]
                    refine plan3_sole (sole_take rfl (by rfl) (fun K1 hK1 => ?_))
                    go_simp
                    refine (CB2.out _).mono ?_
                    rintro e W9 ⟨A9, n9, c9, K9, m9, d9, rfl, hin, hb9⟩
                    refine hK1 _ _ (Still.below hb9 BC.out.1) ?_
                    clear hK1 K1 CB2
                    replace KK := Lib.hid (KK.out.node hb9 hin)
                    replace BC := Lib.hid (Still.trans _ _ _ BC.out (Still.below hb9 BC.out.1))
                    clear hin hb9
                    try simp only [Act.put, List.setIfInBounds_toArray, List.set_cons_zero, List.set_cons_succ]
                    refine plan3_sole (sole_take rfl (by rfl) (fun K1 hK1 => ?_))
                    refine op_kids_append KK.out (.tmp 67) (.tmp 85) 2 (by decide) rfl EV.out.symm HZ (by simp) rfl NX.out.2 nX NX.out.1 ?_
                    intro GX cX W9 hkk hat hst
                    have hs9 := hst _ BC.out.1
                    refine hK1 _ _ hs9 ?_
                    clear hK1 K1
                    have GQ := Lib.hid (hat.imp_right (Nat.le_trans BC.out.1))
                    replace KK := Lib.hid hkk
                    replace BC := Lib.hid (Still.trans _ _ _ BC.out hs9)
                    clear hkk hat hst hs9
                    try simp only [Act.put, List.setIfInBounds_toArray, List.set_cons_zero, List.set_cons_succ]
                    have T0 := TT.out (_, _, HZ, GX, cX) W9 ⟨KK.out, GQ.out, BC.out⟩
                    simp only [Act.put, List.setIfInBounds_toArray, List.set_cons_zero, List.set_cons_succ] at T0
                    exact T0
                  · refine sole_take rfl (by rfl) (fun K1 hK1 => ?_)
                    go_simp
                    refine (CB2.out _).mono ?_
                    rintro e W9 ⟨A9, n9, c9, K9, m9, d9, rfl, hin, hb9⟩
                    refine hK1 _ _ (Still.below hb9 BC.out.1) ?_
                    clear hK1 K1 CB2
                    replace KK := Lib.hid (KK.out.node hb9 hin)
                    replace BC := Lib.hid (Still.trans _ _ _ BC.out (Still.below hb9 BC.out.1))
                    clear hin hb9
                    try simp only [Act.put, List.setIfInBounds_toArray, List.set_cons_zero, List.set_cons_succ]
                    refine plan3_sole (sole_take rfl (by rfl) (fun K1 hK1 => ?_))
                    refine op_kids_load KK.out (.tmp 66) rfl 2 (by decide) _ rfl rfl _ EV.out ?_
                    refine hK1 _ _ (Still.refl _ _ _ _) ?_
                    clear hK1 K1
                    try simp only [Act.put, List.setIfInBounds_toArray, List.set_cons_zero, List.set_cons_succ]
                    refine plan3_take _ rfl (by rfl) (fun W hW => by go_simp; first | done | rfl) ?_
                    simp only [Act.put, List.setIfInBounds_toArray, List.set_cons_zero, List.set_cons_succ]
                    refine plan3_take _ rfl (by rfl) (fun W hW => by go_simp; first | done | rfl) ?_
                    simp only [Act.put, List.setIfInBounds_toArray, List.set_cons_zero, List.set_cons_succ]
                    refine plan3_sole (sole_take rfl (by rfl) (fun K1 hK1 => ?_))
                    refine op_kids_append KK.out (.tmp 67) (.tmp 85) 2 (by decide) rfl EV.out.symm HZ (by simp) rfl NX.out.2 nX NX.out.1 ?_
                    intro GX cX W9 hkk hat hst
                    have hs9 := hst _ BC.out.1
                    refine hK1 _ _ hs9 ?_
                    clear hK1 K1
                    have GQ := Lib.hid (hat.imp_right (Nat.le_trans BC.out.1))
                    replace KK := Lib.hid hkk
                    replace BC := Lib.hid (Still.trans _ _ _ BC.out hs9)
                    clear hkk hat hst hs9
                    try simp only [Act.put, List.setIfInBounds_toArray, List.set_cons_zero, List.set_cons_succ]
                    have T0 := TT.out (_, _, HZ, GX, cX) W9 ⟨KK.out, GQ.out, BC.out⟩
                    simp only [Act.put, List.setIfInBounds_toArray, List.set_cons_zero, List.set_cons_succ] at T0
                    exact T0
              · refine sole_take rfl (by rfl) (fun K1 hK1 => ?_)
                refine op_kids_zero KK.out _ rfl (by kernel_rfl) ?_
                intro HZ W9 hkk hb9
                refine hK1 _ _ (Still.below hb9 BC.out.1) ?_
                clear hK1 K1
                replace KK := Lib.hid hkk
                replace BC := Lib.hid (Still.trans _ _ _ BC.out (Still.below hb9 BC.out.1))
                clear hkk hb9
                try simp only [Act.put, List.setIfInBounds_toArray, List.set_cons_zero, List.set_cons_succ]
                refine plan3_fork ?_ ?_
                · refine sole_take rfl (by rfl) (fun K1 hK1 => ?_)
                  refine op_kids_load KK.out (.tmp 66) rfl 2 (by decide) _ rfl rfl _ EV.out ?_
                  refine hK1 _ _ (Still.refl _ _ _ _) ?_
                  clear hK1 K1
                  try simp only [Act.put, List.setIfInBounds_toArray, List.set_cons_zero, List.set_cons_succ]
                  refine plan3_take _ rfl (by rfl) (fun W hW => by go_simp; first | done | rfl) ?_
                  simp only [Act.put, List.setIfInBounds_toArray, List.set_cons_zero, List.set_cons_succ]
                  refine plan3_take _ rfl (by rfl) (fun W hW => by go_simp; first | done | rfl) ?_
                  simp only [Act.put, List.setIfInBounds_toArray, List.set_cons_zero, List.set_cons_succ]
                  refine plan3_sole (sole_take rfl (by rfl) (fun K1 hK1 => ?_))
                  go_simp
                  refine (CB1.out _).mono ?_
                  rintro e W9 ⟨A9, n9, c9, K9, m9, d9, rfl, hin, hb9⟩
                  refine hK1 _ _ (Still.below hb9 BC.out.1) ?_
                  clear hK1 K1 CB1
                  replace KK := Lib.hid (KK.out.node hb9 hin)
                  replace BC := Lib.hid (Still.trans _ _ _ BC.out (Still.below hb9 BC.out.1))
                  clear hin hb9
                  try simp only [Act.put, List.setIfInBounds_toArray, List.set_cons_zero, List.set_cons_succ]
                  refine plan3_sole (sole_take rfl (by rfl) (fun K1 hK1 => ?_))
                  go_simp
                  refine (CB2.out _).mono ?_
                  rintro e W9 ⟨A9, n9, c9, K9, m9, d9, rfl, hin, hb9⟩
                  refine hK1 _ _ (Still.below hb9 BC.out.1) ?_
                  clear hK1 K1 CB2
                  replace KK := Lib.hid (KK.out.node hb9 hin)
                  replace BC := Lib.hid (Still.trans _ _ _ BC.out (Still.below hb9 BC.out.1))
                  clear hin hb9
                  try simp only [Act.put, List.setIfInBounds_toArray, List.set_cons_zero, List.set_cons_succ]
                  refine plan3_sole (sole_take rfl (by rfl) (fun K1 hK1 => ?_))
                  refine op_kids_append KK.out (.tmp 67) (.tmp 85) 2 (by decide) rfl EV.out.symm HZ (by simp) rfl NX.out.2 nX NX.out.1 ?_
                  intro GX cX W9 hkk hat hst
                  have hs9 := hst _ BC.out.1
                  refine hK1 _ _ hs9 ?_
                  clear hK1 K1
                  have GQ := Lib.hid (hat.imp_right (Nat.le_trans BC.out.1))
                  replace KK := Lib.hid hkk
                  replace BC := Lib.hid (Still.trans _ _ _ BC.out hs9)
                  clear hkk hat hst hs9
                  try simp only [Act.put, List.setIfInBounds_toArray, List.set_cons_zero, List.set_cons_succ]
                  have T0 := TT.out (_, _, HZ, GX, cX) W9 ⟨KK.out, GQ.out, BC.out⟩
                  simp only [Act.put, List.setIfInBounds_toArray, List.set_cons_zero, List.set_cons_succ] at T0
                  exact T0
                · refine sole_take rfl (by rfl) (fun K1 hK1 => ?_)
                  go_simp
                  refine (CB1.out _).mono ?_
                  rintro e W9 ⟨A9, n9, c9, K9, m9, d9, rfl, hin, hb9⟩
                  refine hK1 _ _ (Still.below hb9 BC.out.1) ?_
                  clear hK1 K1 CB1
                  replace KK := Lib.hid (KK.out.node hb9 hin)
                  replace BC := Lib.hid (Still.trans _ _ _ BC.out (Still.below hb9 BC.out.1))
                  clear hin hb9
                  try simp only [Act.put, List.setIfInBounds_toArray, List.set_cons_zero, List.set_cons_succ]
                  refine plan3_fork ?_ ?_
                  · refine sole_take rfl (by rfl) (fun K1 hK1 => ?_)
                    refine op_kids_load KK.out (.tmp 66) rfl 2 (by decide) _ rfl rfl _ EV.out ?_
                    refine hK1 _ _ (Still.refl _ _ _ _) ?_
                    clear hK1 K1
                    try simp only [Act.put, List.setIfInBounds_toArray, List.set_cons_zero, List.set_cons_succ]
                    refine plan3_take _ rfl (by rfl) (fun W hW => by go_simp; first | done | rfl) ?_
                    simp only [Act.put, List.setIfInBounds_toArray, List.set_cons_zero, List.set_cons_succ]
                    refine plan3_take _ rfl (by rfl) (fun W hW => by go_simp; first | done | rfl) ?_
                    simp only [Act.put, List.setIfInBounds_toArray, List.set_cons_zero, List.set_cons_succ]
                    refine plan3_sole (sole_take rfl (by rfl) (fun K1 hK1 => ?_))
                    go_simp
                    refine (CB2.out _).mono ?_
                    rintro e W9 ⟨A9, n9, c9, K9, m9, d9, rfl, hin, hb9⟩
                    refine hK1 _ _ (Still.below hb9 BC.out.1) ?_
                    clear hK1 K1 CB2
                    replace KK := Lib.hid (KK.out.node hb9 hin)
                    replace BC := Lib.hid (Still.trans _ _ _ BC.out (Still.below hb9 BC.out.1))
                    clear hin hb9
                    try simp only [Act.put, List.setIfInBounds_toArray, List.set_cons_zero, List.set_cons_succ]
                    refine plan3_sole (sole_take rfl (by rfl) (fun K1 hK1 => ?_))
                    refine op_kids_append KK.out (.tmp 67) (.tmp 85) 2 (by decide) rfl EV.out.symm HZ (by simp) rfl NX.out.2 nX NX.out.1 ?_
                    intro GX cX W9 hkk hat hst
                    have hs9 := hst _ BC.out.1
                    refine hK1 _ _ hs9 ?_
                    clear hK1 K1
                    have GQ := Lib.hid (hat.imp_right (Nat.le_trans BC.out.1))
                    replace KK := Lib.hid hkk
                    replace BC := Lib.hid (Still.trans _ _ _ BC.out hs9)
                    clear hkk hat hst hs9
                    try simp only [Act.put, List.setIfInBounds_toArray, List.set_cons_zero, List.set_cons_succ]
                    have T0 := TT.out (_, _, HZ, GX, cX) W9 ⟨KK.out, GQ.out, BC.out⟩
                    simp only [Act.put, List.setIfInBounds_toArray, List.set_cons_zero, List.set_cons_succ] at T0
                    exact T0
                  · refine sole_take rfl (by rfl) (fun K1 hK1 => ?_)
                    go_simp
                    refine (CB2.out _).mono ?_
                    rintro e W9 ⟨A9, n9, c9, K9, m9, d9, rfl, hin, hb9⟩
                    refine hK1 _ _ (Still.below hb9 BC.out.1) ?_
                    clear hK1 K1 CB2
                    replace KK := Lib.hid (KK.out.node hb9 hin)
                    replace BC := Lib.hid (Still.trans _ _ _ BC.out (Still.below hb9 BC.out.1))
                    clear hin hb9
                    try simp only [Act.put, List.setIfInBounds_toArray, List.set_cons_zero, List.set_cons_succ]
                    refine plan3_sole (sole_take rfl (by rfl) (fun K1 hK1 => ?_))
                    refine op_kids_load KK.out (.tmp 66) rfl 2 (by decide) _ rfl rfl _ EV.out ?_
                    refine hK1 _ _ (Still.refl _ _ _ _) ?_
                    clear hK1 K1
                    try simp only [Act.put, List.setIfInBounds_toArray, List.set_cons_zero, List.set_cons_succ]
                    refine plan3_take _ rfl (by rfl) (fun W hW => by go_simp; first | done | rfl) ?_
                    simp only [Act.put, List.setIfInBounds_toArray, List.set_cons_zero, List.set_cons_succ]
                    refine plan3_take _ rfl (by rfl) (fun W hW => by go_simp; first | done | rfl) ?_
                    simp only [Act.put, List.setIfInBounds_toArray, List.set_cons_zero, List.set_cons_succ]
                    refine plan3_sole (sole_take rfl (by rfl) (fun K1 hK1 => ?_))
                    refine op_kids_append KK.out (.tmp 67) (.tmp 85) 2 (by decide) rfl EV.out.symm HZ (by simp) rfl NX.out.2 nX NX.out.1 ?_
                    intro GX cX W9 hkk hat hst
                    have hs9 := hst _ BC.out.1
                    refine hK1 _ _ hs9 ?_
                    clear hK1 K1
                    have GQ := Lib.hid (hat.imp_right (Nat.le_trans BC.out.1))
                    replace KK := Lib.hid hkk
                    replace BC := Lib.hid (Still.trans _ _ _ BC.out hs9)
                    clear hkk hat hst hs9
                    try simp only [Act.put, List.setIfInBounds_toArray, List.set_cons_zero, List.set_cons_succ]
                    have T0 := TT.out (_, _, HZ, GX, cX) W9 ⟨KK.out, GQ.out, BC.out⟩
                    simp only [Act.put, List.setIfInBounds_toArray, List.set_cons_zero, List.set_cons_succ] at T0
                    exact T0
        · have t0 : decide ((k : Int) < (m : Int)) = false := decide_eq_false (by omega)
          have t0' : decide (k < m) = false := decide_eq_false hlt
          have e : Y.take k = Y := List.take_of_length_le (by rw [MA.out]; omega)
          rw [e] at KK
          have BN5 := Lib.hid (BN.out.below KK.out.bel BN.out.lt)
          obtain ⟨p0, p1, p2, f0, f1, f2⟩ := Blk.six (show Blk _ _ _ #[.int .i64 0, .slice none 0 0, .slice none 0 0] from BN5.out)
          have BW5 := Lib.hid (Below.step BW.out KK.out.bel)
          clear e
          go_wp2_with fail
          exact has_nodee (t := .node 48 [] [.node 48 [] (famT false X), .node 48 [] (famT true X), .node 48 [] (Y.flatMap rangeT)]) (W0 := w3) rfl rfl rfl BN5.out KK.out.done (by omega) BN.out.lt BW5.out
end Go.Proofs.YtlmndmfebgaidaaGreatDoor
