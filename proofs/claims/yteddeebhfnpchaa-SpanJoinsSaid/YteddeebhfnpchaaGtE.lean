/-
  Merged texts: SrE, SrF, SrG, SrH, SrI, SrJ.
-/
import Derived.Test.YteddeebhfnpchaaGtD
import Derived.Deep.LoopGhost
namespace Go.Proofs.Yteddeebhfnpchaa
open Go.RowKit
attribute [local go_sem] Oper.semAt_some
set_option linter.unusedVariables false

/-- The lengths of the valid prefixes at an address that are shorter than n, one by one. -/
def growN (v : Bool) (A : List Int) : Nat → List Int
  | 0 => []
  | k + 1 => if rightA v A (k : Int) then (k : Int) :: growN v A k else []
theorem round_any {m m' : Nat} {P : Program} {l : Nat} {f : FuncId} {tmps : Array Value} {assign body : Code} {w : World} {R : Ending → World → Prop} (h : RoundIn Fence.wide m P l f tmps assign body w R) : RoundIn Fence.wide m' P l f tmps assign body w R := ⟨h.1, fun c cs _ => h.2 c cs (room_wide _)⟩
theorem Kept.size' {O : Nat → Prop} {A B : World} (h : Kept O A B) : A.heap.size ≤ B.heap.size := h.size

theorem growing_any (v : Bool) (A : List Int) (L : Int) (w : World) :
    Calls Try.prog 55 #[.agg (pcells v A L)] w fun e w' => e = .returned (.func (.func 66) #[] #[.pointer (some ⟨w.heap.size, 0, none⟩)]) ∧ PBlk w' w.heap.size v A L ∧ Below w.heap.size w w' := by
  have BX := Lib.hid (pbox w v A L)
  have BW := Lib.hid (box_below w (.cells (pcells v A L) 37))
  go_enter Try.func55, Try.ntmps55
  go_wp2_with fail
  go_ret
  exact ⟨rfl, BX.out, BW.out⟩

set_option maxHeartbeats 1000000 in
set_option maxRecDepth 10000 in
theorem iter_growing (v : Bool) (A : List Int) (n g : Nat) (W : World) (hA : Sixteen A) (hn : n ≤ 128) (hb : PBlk W g v A (n : Int)) :
    IterAt Try.prog 66 #[.pointer (some ⟨g, 0, none⟩)] (fun L : Int => #[.agg (pcells v A L)]) (growN v A n) (fun k => k = g) W := by
  intro nn m l J Jx O hJ hlt hY h0 hc
  refine callsIn_wide.2 ?_
  have HA := Lib.hid hA
  have GB := Lib.hid hb
  have HJ := Lib.hid hJ
  have HL := Lib.hid hlt
  have HY := Lib.hid hY
  have nB : Hid (¬ O W.heap.size) := Lib.hid (fun h => Nat.lt_irrefl _ (hlt _ _ _ h0 _ h))
  have SP := Lib.hid (Try.sizeP (v := v) (L := (n : Int)) hA.1)
  have ZE : Hid (ZP.size = (pcells v A (n : Int)).size) := Lib.hid (by rw [pcells_size hA.1]; rfl)
  have P1 := Lib.hid (pcells_one v A (n : Int))
  have AZ : Hid (Blk (W.alloc (.cells ZP 37)) W.heap.size 37 ZP) := Lib.hid (Blk.new _ _ _)
  have B2 : Hid (PBlk (W.alloc (.cells (pcells v A (n : Int)) 37)) W.heap.size v A (n : Int)) := Lib.hid (pbox W v A (n : Int))
  have J2 : Hid (J [] O (W.alloc (.cells (pcells v A (n : Int)) 37))) := Lib.hid (hJ _ _ _ _ h0 (Kept.of_below (box_below _ _)))
  have mw : IntKind.i64.wrap ((n : Int) - 1) = (n : Int) - 1 := IntWalk.i64_in _ (by omega)
  clear hA hb hJ hlt hY h0 hc
  unfold PBlk at GB
  generalize hpc : pcells v A (n : Int) = PC at *
  go_enter Try.func66, Try.ntmps66
  go_upto_region 1 with (first
    | (refine wpList_load_row rfl 37 (.tmp 1) rfl g rfl 37 PC (0, 0) _ GB.out Try.underlying37 rfl SP.out ?_)
    | (refine Great.wpList_allocTo rfl (some 3) rfl (.pointer (some ⟨W.heap.size, 0, none⟩)) (.cells ZP 37) rfl ?_)
    | (refine wpList_store_rowTo rfl 37 (.tmp 3) (.tmp 4) rfl rfl W.heap.size PC rfl rfl 37 ZP AZ.out SP.out ZE.out P1.out ?_; rw [alloc_setRow]))
  clear GB AZ SP ZE P1
  generalize W.alloc (.cells PC 37) = W2 at *
  generalize W.heap.size = B at *
  clear hpc
  have c17 := B2.out.l HA.out.1
  have f17 := Blk.free B2.out 17
  have B3 := Lib.hid (PBlk.setL B2.out HA.out.1 ((n : Int) - 1))
  have J3 : Hid (J [] O (W2.setCell ⟨B, 17, none⟩ (.int .i64 ((n : Int) - 1)))) := Lib.hid (HJ.out _ _ _ _ J2.out ((Kept.refl _ _).setCell (p := ⟨B, 17, none⟩) nB.out _))
  go_wp2_with fail
  clear c17 f17 B2 J2
  generalize W2.setCell ⟨B, 17, none⟩ (.int .i64 ((n : Int) - 1)) = W3 at *
  go_loopg [] n (fun k wr => ∃ (pre : List Int) (O' : Nat → Prop), pre ++ growN v A k = growN v A n ∧ J pre O' wr ∧ ¬ O' B ∧ PBlk wr B v A ((k : Int) - 1) ∧ k ≤ n)
  case atStart => exact ⟨[], O, rfl, J3.out, nB.out, B3.out, Nat.le_refl _⟩
  case round =>
    obtain ⟨pre, O', hp, hj, no, hbx, hk⟩ := hrel
    have HP := Lib.hid hp
    have J5 := Lib.hid hj
    have N5 := Lib.hid no
    have B5 := Lib.hid hbx
    clear hp hj no hbx J3 nB B3
    have C1 := Lib.hid (fun W => right_any v A ((gk : Int) - 1) W HA.out (by omega) (by omega))
    have SP := Lib.hid (Try.sizeP (v := v) (L := (gk : Int) - 1) HA.out.1)
    have G0 : rightA v A ((gk : Int) - 1) = false → Hid (growN v A gk = []) := fun h => Lib.hid (by
      cases gk with
      | zero => rfl
      | succ i =>
        unfold growN
        rw [show ((i + 1 : Nat) : Int) - 1 = (i : Int) by omega] at h
        rw [h]
        rfl)
    have G1 : rightA v A ((gk : Int) - 1) = true → Hid (∃ i : Nat, gk = i + 1 ∧ growN v A gk = (i : Int) :: growN v A i) := fun h => Lib.hid (by
      cases gk with
      | zero =>
        have := (right_is v A _).1 h
        omega
      | succ i =>
        refine ⟨i, rfl, ?_⟩
        rw [show ((i + 1 : Nat) : Int) - 1 = (i : Int) by omega] at h
        show (if rightA v A (i : Int) = true then (i : Int) :: growN v A i else []) = _
        rw [if_pos h])
    go_upto_region 2 with (fail)
    refine (wpIn_wide (n := 3)).1 ?_
    cases hr : rightA v A ((gk : Int) - 1) with
    | false =>
      have E0 := G0 hr
      rw [hr] at C1
      clear G0 G1 hr
      have X5 := B5
      unfold PBlk at X5
      generalize pcells v A ((gk : Int) - 1) = PC at *
      gi_wp2_with (first
        | (refine in_load_row (fun _ => trivial) rfl 37 (.tmp 3) rfl B rfl 37 PC _ X5.out Try.underlying37 rfl SP.out ?_)
        | (refine ⟨trivial, ?_⟩; refine (callsIn_wide.2 (C1.out _)).mono ?_; rintro r w6 ⟨rfl, hb6⟩))
      refine ⟨fun _ h => (by cases h), ?_⟩
      gi_wp2
      go_wp2_with fail
      go_end0
      refine ⟨⟨_, rfl⟩, .inl ⟨O', ?_⟩⟩
      have e := HP.out
      rw [E0.out, List.append_nil] at e
      rw [← e]
      exact HJ.out _ _ _ _ J5.out (Kept.of_below hb6)
    | true =>
      obtain ⟨i, rfl, e1⟩ := (G1 hr).out
      have E1 := Lib.hid e1
      rw [hr] at C1
      clear G0 G1 hr e1
      have ei : ((i + 1 : Nat) : Int) - 1 = (i : Int) := by omega
      rw [ei] at C1 B5 SP
      have PX : Hid (pre ++ [(i : Int)] <+: growN v A n) := Lib.hid ⟨growN v A i, by rw [← HP.out, E1.out]; simp⟩
      have NP : Hid ((pre ++ [(i : Int)]) ++ growN v A i = growN v A n) := Lib.hid (by rw [← HP.out, E1.out]; simp)
      have HI : Hid (i + 1 ≤ n) := Lib.hid hk
      clear ei HP E1
      have X5 := B5
      unfold PBlk at X5
      have Y5 := Lib.hid (HY.out pre (i : Int) O')
      have mi : IntKind.i64.wrap ((i : Int) - 1) = (i : Int) - 1 := IntWalk.i64_in _ (by have := HI.out; omega)
      generalize hpc : pcells v A (i : Int) = PC at *
      have HC := Lib.hid hpc
      clear hpc hk
      gi_wp2_with (first
        | (refine in_load_row (fun _ => trivial) rfl 37 (.tmp 3) rfl B rfl 37 PC _ X5.out Try.underlying37 rfl SP.out ?_)
        | (refine ⟨trivial, ?_⟩
           refine (callsIn_wide.2 (C1.out _)).mono ?_
           rintro r w6 ⟨rfl, hb6⟩
           have J6 := Lib.hid (HJ.out _ _ _ _ J5.out (Kept.of_below hb6))
           have X6 := Lib.hid (X5.out.below hb6 X5.out.lt)
           obtain ⟨fn, tmps, assign, body, hy, hR⟩ := Y5.out w6 J6.out PX.out
           have HR := Lib.hid hR
           clear hR hb6 C1 X5)
        | (refine in_load_rowG (fun _ => trivial) rfl 37 (.tmp 3) rfl B rfl 37 PC _ X6.out Try.underlying37 rfl SP.out ?_))
      refine (round_any HR.out).mono ?_
      rintro e W7 (⟨rfl, O2, hj7, hk7, ho7⟩ | ⟨rfl, hx7⟩)
      · have N7 : Hid (¬ O2 B) := Lib.hid (fun h => by
          rcases ho7 B h with h | h
          · exact N5.out h
          · have := X6.out.lt
            omega)
        have B7 : Hid (PBlk W7 B v A (i : Int)) := Lib.hid (by
          have := hk7.block B X6.out.lt N5.out
          show Blk W7 B _ _
          rw [HC.out]
          exact this.trans X6.out)
        have J7 := Lib.hid hj7
        clear hj7 hk7 ho7 HR hy J6 X6 J5 N5 B5 Y5 PX
        gi_wp2
        have c17 := B7.out.l HA.out.1
        have f17 := Blk.free B7.out 17
        have B8 := Lib.hid (PBlk.setL B7.out HA.out.1 ((i : Int) - 1))
        have J8 : Hid (J (pre ++ [(i : Int)]) O2 (W7.setCell ⟨B, 17, none⟩ (.int .i64 ((i : Int) - 1)))) := Lib.hid (HJ.out _ _ _ _ J7.out ((Kept.refl _ _).setCell (p := ⟨B, 17, none⟩) N7.out _))
        clear HC
        go_wp2_with fail
        go_roundg i
        case measure => omega
        case rel => exact ⟨pre ++ [(i : Int)], O2, NP.out, J8.out, N7.out, B8.out, by have := HI.out; omega⟩
      · have X7 := Lib.hid hx7
        clear hx7 HR hy J6 X6 J5 N5 B5 Y5 PX
        gi_wp2
        go_wp2_with fail
        go_end0
        exact ⟨⟨_, rfl⟩, .inr X7.out⟩

end Go.Proofs.Yteddeebhfnpchaa

namespace Go.Proofs.Yteddeebhfnpchaa
open Go.RowKit
attribute [local go_sem] Oper.semAt_some
set_option linter.unusedVariables false

def mostN (v : Bool) : Nat := if v then 128 else 32
theorem mostN_is (v : Bool) : (mostN v : Int) = mostZ v := by cases v <;> rfl
/-- The length of the largest prefix at an address that goes no further than H. -/
def largeN (v : Bool) (A H : List Int) : Nat → Nat
  | 0 => 0
  | k + 1 => if rightA v A (k : Int) = true ∧ aN (hiA v A (k : Int)) ≤ aN H then largeN v A H k else k + 1
theorem grow_head {v : Bool} {A : List Int} {j : Nat} {x : Int} {r : List Int} (h : growN v A j = x :: r) : ∃ i : Nat, j = i + 1 ∧ x = (i : Int) ∧ rightA v A (i : Int) = true ∧ growN v A i = r := by
  cases j with
  | zero => cases h
  | succ i =>
    unfold growN at h
    split at h
    · rename_i hr
      injection h with h1 h2
      exact ⟨i, rfl, h1.symm, hr, h2⟩
    · cases h
theorem grow_none {v : Bool} {A H : List Int} {j : Nat} (h : growN v A j = []) : largeN v A H j = j := by
  cases j with
  | zero => rfl
  | succ i =>
    unfold growN at h
    split at h
    · cases h
    · rename_i hr
      unfold largeN
      rw [if_neg (fun k => hr k.1)]
theorem Kept.below {O : Nat → Prop} {A B w : World} {n : Nat} (h : Kept O A B) (hw : Below n w A) (hn : n ≤ w.heap.size) (hO : ∀ k, k < n → O k) : Below n w B :=
  ⟨h.os.trans hw.os, h.tape.trans hw.tape, h.output.trans hw.output, Nat.le_trans hw.size h.size, fun k hk => (h.block k (by have := hw.size; omega) (hO k hk)).trans (hw.block k hk)⟩
theorem Kept.setRow {O : Nat → Prop} {A B : World} (h : Kept O A B) {g : Nat} (hg : ¬ O g) (cs : Array Value) : Kept O A (B.setRow g cs) :=
  h.trans ⟨rfl, rfl, rfl, by simp [World.setRow], fun i hi ho => setRow_other B g i cs (fun e => hg (e ▸ ho))⟩
theorem Kept.drew' {O : Nat → Prop} {A B : World} (h : Kept O A B) : Kept O A B.drew := ⟨h.os, h.tape, h.output, h.size, h.block⟩
theorem Kept.blk {O : Nat → Prop} {A B : World} (h : Kept O A B) {g : Nat} {t : TypeId} {cs : Array Value} (hb : Blk A g t cs) (hO : O g) : Blk B g t cs := (h.block g hb.lt hO).trans hb

set_option maxHeartbeats 2000000 in
set_option maxRecDepth 10000 in
theorem largest_any (s : SpanZ) (w : World) (hs : SixS s) :
    Calls Try.prog 49 #[.agg (scells s)] w fun e w' => e = .returned (.agg (pcells s.v s.lo (largeN s.v s.lo s.hi (mostN s.v) : Int))) ∧ Below w.heap.size w w' := by
  have C1 := Lib.hid (fun W => (first_any s W hs).mono (fun _ _ h => (⟨h.1, h.2.1⟩ : _ ∧ Below W.heap.size W _)))
  have MN := mostN_is s.v
  have C2 := Lib.hid (fun W => growing_any s.v s.lo (mostN s.v : Int) W)
  have IG := Lib.hid (fun W g (hb : PBlk W g s.v s.lo (mostN s.v : Int)) => iter_growing s.v s.lo (mostN s.v) g W hs.1 (by cases s.v <;> simp [mostN]) hb)
  have HS := Lib.hid hs
  have FC : Hid (firstC s = pcells s.v s.lo (mostN s.v : Int)) := Lib.hid (by unfold firstC; rw [MN])
  rw [FC.out] at C1
  obtain ⟨gs, hgs⟩ : ∃ gs, w.heap.size = gs := ⟨_, rfl⟩
  have SB : Hid (Blk ((w.alloc (.cells (scells s) 30)).alloc (.cells ZP 37)) gs 30 (scells s)) := Lib.hid (by rw [← hgs]; exact Blk.alloc (sbox w s) _)
  have ZB : Hid (Blk ((w.alloc (.cells (scells s) 30)).alloc (.cells ZP 37)) (gs + 1) 37 ZP) := Lib.hid (by
    have := Blk.new (w.alloc (.cells (scells s) 30)) 37 ZP
    rwa [World.size_alloc, hgs] at this)
  have BW := Lib.hid (Below.step (box_below w (.cells (scells s) 30)) (box_below _ (.cells ZP 37)))
  have SS := Lib.hid (Try.sizeS hs)
  have SP := Lib.hid (Try.sizeP (v := s.v) (L := (mostN s.v : Int)) hs.1.1)
  have ZE : Hid (ZP.size = (pcells s.v s.lo (mostN s.v : Int)).size) := Lib.hid (by rw [pcells_size hs.1.1]; rfl)
  have P1 := Lib.hid (pcells_one s.v s.lo (mostN s.v : Int))
  refine (callsIn_wide (n := 3)).1 ?_
  refine callsIn_of_wp_marks Try.func49 rfl trivial ?_ rfl
  simp only [Try.ntmps49, List.size_toArray, List.length_cons, List.length_nil, Nat.reduceAdd, Nat.reduceSub, Array.replicate_succ, Array.replicate_zero, List.push_toArray, List.append_toArray, List.nil_append, List.cons_append]
  have B0 : Hid (Below gs w w) := Lib.hid (Below.refl _ _)
  generalize hF : scells s = F at *
  generalize hpc : pcells s.v s.lo (mostN s.v : Int) = PC at *
  gi_wp2_with (first
    | (refine in_alloc (fun _ => trivial) rfl (by intro c hc; cases hc) (some 3) rfl (.pointer (some ⟨w3.heap.size, 0, none⟩)) (.cells ZP 37) rfl ?_
       have AZ : Hid (Blk (w3.alloc (.cells ZP 37)) w3.heap.size 37 ZP) := Lib.hid (Blk.new _ _ _)
       have X4 : Hid (Blk (w3.alloc (.cells PC 37)) w3.heap.size 37 PC) := Lib.hid (Blk.new _ _ _)
       have S4 := Lib.hid (S3.out.alloc (.cells PC 37))
       have Z4 := Lib.hid (Z3.out.alloc (.cells PC 37))
       have B4 := Lib.hid (Below.step B3.out (box_below w3 (.cells PC 37))))
    | (refine in_load_row (fun _ => trivial) rfl 30 (.tmp 1) rfl gs rfl 30 F _ SB.out Try.underlying30 rfl SS.out ?_)
    | (refine ⟨trivial, ?_⟩
       refine (callsIn_wide.2 (C1.out _)).mono ?_
       rintro r w3 ⟨rfl, hb3⟩
       have S3 := Lib.hid (SB.out.below hb3 SB.out.lt)
       have Z3 := Lib.hid (ZB.out.below hb3 ZB.out.lt)
       have B3 := Lib.hid (Below.step BW.out hb3)
       have Z3s : Hid (gs + 1 < w3.heap.size) := Lib.hid Z3.out.lt
       clear hb3 C1)
    | (refine in_store_row (fun _ => trivial) rfl 37 (.tmp 3) (.tmp 8) rfl rfl w3.heap.size PC rfl rfl 37 ZP AZ.out SP.out ZE.out P1.out ?_; rw [alloc_setRow]; clear AZ S3 Z3 B3)
    | (refine in_load_row (fun _ => trivial) rfl 37 (.tmp 3) rfl w3.heap.size rfl 37 PC _ X4.out Try.underlying37 rfl SP.out ?_)
    | (refine ⟨trivial, ?_⟩
       refine (callsIn_wide.2 (C2.out _)).mono ?_
       rintro r w5 ⟨rfl, gb5, hb5⟩
       clear C2))
  have X5 := Lib.hid (X4.out.below hb5 X4.out.lt)
  have S5 := Lib.hid (S4.out.below hb5 S4.out.lt)
  have Z5 := Lib.hid (Z4.out.below hb5 Z4.out.lt)
  have B5 := Lib.hid (Below.step B4.out hb5)
  have PB : Hid (gs + 1 < w3.heap.size ∧ w3.heap.size < (w3.alloc (.cells PC 37)).heap.size ∧ (w3.alloc (.cells PC 37)).heap.size < w5.heap.size) := Lib.hid (by
    have h1 := gb5.lt
    have h2 := X4.out.lt
    have h3 : gs + 1 < w3.heap.size := Z3s.out
    omega)
  clear X4 S4 Z4 B4 hb5 Z3s
  rw [World.size_alloc] at gb5 PB
  generalize w3.heap.size = pb at *
  refine wp_range (gf := 66) (lb := #[.pointer (some ⟨pb + 1, 0, none⟩)]) rfl (enters_of Try.func66 (by kernel_rfl) rfl)
    (encs := fun L : Int => #[.agg (pcells s.v s.lo L)]) (xs := growN s.v s.lo (mostN s.v)) (Cap := fun k => k = pb + 1)
    (fun W hb => IG.out W (pb + 1) (PBlk.below gb5 hb gb5.lt)) (fun _ => rfl) (fun k hk => by rw [hk]; exact PB.out.2.2)
    (fun pre O W => (∀ k, O k ↔ k < gs + 2 ∨ k = pb) ∧ ∃ j : Nat, pre ++ growN s.v s.lo j = growN s.v s.lo (mostN s.v) ∧ largeN s.v s.lo s.hi j = largeN s.v s.lo s.hi (mostN s.v) ∧ PBlk W pb s.v s.lo (j : Int) ∧ Blk W gs 30 F ∧ Blk W (gs + 1) 37 ZP ∧ Below gs w W)
    (fun c W => c = .exit 0 ∧ PBlk W pb s.v s.lo (largeN s.v s.lo s.hi (mostN s.v) : Int) ∧ Blk W (gs + 1) 37 ZP ∧ Below gs w W)
    ?hI ?hlt ?hIx (fun k => k < gs + 2 ∨ k = pb) ?h0 ?hc0 ?hround ?hdone ?hstop
  case hI =>
    rintro pre O W1 W2 ⟨ho, j, h1, h2, h3, h4, h5, h6⟩ hk
    exact ⟨ho, j, h1, h2, hk.blk h3 ((ho pb).2 (.inr rfl)), hk.blk h4 ((ho gs).2 (.inl (by omega))), hk.blk h5 ((ho (gs + 1)).2 (.inl (by omega))), hk.below h6 (by omega) (fun k hk => (ho k).2 (.inl (by omega)))⟩
  case hlt =>
    rintro pre O W1 ⟨ho, j, h1, h2, h3, h4, h5, h6⟩ k hk
    have := h3.lt
    have := h5.lt
    rcases (ho k).1 hk with h | h <;> omega
  case hIx =>
    rintro c W1 W2 ⟨h1, h2, h3, h4⟩ hk
    have := PB.out
    exact ⟨h1, hk.blk h2 (by omega), hk.blk h3 (by omega), hk.below h4 (by omega) (fun k hk => by omega)⟩
  case h0 =>
    refine ⟨fun k => Iff.rfl, mostN s.v, rfl, rfl, ?_, S5.out, Z5.out, by rw [← hgs]; exact B5.out⟩
    show Blk _ _ _ (pcells s.v s.lo (mostN s.v : Int))
    rw [hpc]
    exact X5.out
  case hc0 =>
    intro k hk h
    have := PB.out
    omega
  case hround =>
    rintro l pre x O W rfl ⟨ho, j, h1, h2, h3, h4, h5, h6⟩ hnl hpre hsz
    obtain ⟨r, hr⟩ := hpre
    have hgj : growN s.v s.lo j = x :: r := by
      have := h1.trans hr.symm
      rw [List.append_assoc] at this
      exact List.append_cancel_left this
    obtain ⟨i, rfl, rfl, hri, hgi⟩ := grow_head hgj
    have PR : Hid ((pre ++ [(i : Int)]) ++ growN s.v s.lo i = growN s.v s.lo (mostN s.v)) := Lib.hid (by rw [hgi]; exact hr)
    have OS := ofS_six (v := s.v) (L := (i : Int)) HS.out.1
    have OE : ofS s.v s.lo (i : Int) = ⟨s.v, s.lo, hiA s.v s.lo (i : Int)⟩ := by unfold ofS; rw [if_pos hri]
    have LE : Hid (largeN s.v s.lo s.hi (i + 1) = if aN (hiA s.v s.lo (i : Int)) ≤ aN s.hi then largeN s.v s.lo s.hi i else i + 1) := Lib.hid (by
      show (if rightA s.v s.lo (i : Int) = true ∧ aN (hiA s.v s.lo (i : Int)) ≤ aN s.hi then largeN s.v s.lo s.hi i else i + 1) = _
      simp only [hri, true_and])
    have im : i < 200 := by
      have := (right_is s.v s.lo (i : Int)).1 hri
      have := most_le s.v
      omega
    have C3 := Lib.hid (fun W => of_any s.v s.lo (i : Int) W HS.out.1 (by omega) (by omega))
    have H2 := Lib.hid h2
    have X3 := Lib.hid h3
    have S3 := Lib.hid h4
    have Z3 := Lib.hid h5
    have B3 := Lib.hid h6
    have HO := Lib.hid ho
    have L6 := HS.out.1.1
    have SPi := Lib.hid (Try.sizeP (v := s.v) (L := (i : Int)) L6)
    have ZPi : Hid (ZP.size = (pcells s.v s.lo (i : Int)).size) := Lib.hid (by rw [pcells_size L6]; rfl)
    have XPi : Hid ((pcells s.v s.lo ((i + 1 : Nat) : Int)).size = (pcells s.v s.lo (i : Int)).size) := Lib.hid (by rw [pcells_size L6, pcells_size L6])
    have PPi := Lib.hid (pcells_one s.v s.lo (i : Int))
    have AZ : Hid (Blk (W.alloc (.cells ZP 37)) W.heap.size 37 ZP) := Lib.hid (Blk.new _ _ _)
    have T1 : Hid (Blk (W.alloc (.cells (pcells s.v s.lo (i : Int)) 37)) W.heap.size 37 (pcells s.v s.lo (i : Int))) := Lib.hid (Blk.new _ _ _)
    clear h1 h2 h3 h4 h5 h6 ho hgj hgi hr hri
    generalize hpi : pcells s.v s.lo (i : Int) = PI at *
    have HPI := Lib.hid hpi
    clear hpi
    obtain ⟨gx, hgx0⟩ : ∃ gx, W.heap.size = gx := ⟨_, rfl⟩
    have HGX := Lib.hid hgx0
    clear hgx0
    rw [zip_one]
    simp only [List.setIfInBounds_toArray, List.set_cons_zero, List.set_cons_succ]
    refine wpIn_region_lit ?_
    refine in_alloc (fun _ => trivial) rfl (by intro c hc; cases hc) (some 4) rfl (.pointer (some ⟨W.heap.size, 0, none⟩)) (.cells ZP 37) rfl ?_
    refine in_store_row (fun _ => trivial) rfl 37 (.tmp 4) (.tmp 11) rfl rfl W.heap.size PI rfl rfl 37 ZP AZ.out SPi.out ZPi.out PPi.out ?_
    rw [alloc_setRow]
    refine wpListIn_nil ?_
    have hgx := HGX.out
    refine ⟨Kept.of_below (box_below _ _), fun W2 hk2 hs2 => ?_⟩
    have nl : ∀ k, O k → k ≠ w5.heap.size + 1 := fun k hk e => hnl (e ▸ hk)
    have kO : Kept O W W2 := (Kept.of_below (box_below W (.cells PI 37))).trans (hk2.fewer nl)
    have X4 : Hid (PBlk W2 pb s.v s.lo ((i + 1 : Nat) : Int)) := Lib.hid (kO.blk X3.out ((HO.out pb).2 (.inr rfl)))
    have S4 := Lib.hid (kO.blk S3.out ((HO.out gs).2 (.inl (by omega))))
    have Z4 := Lib.hid (kO.blk Z3.out ((HO.out (gs + 1)).2 (.inl (by omega))))
    have B4 := Lib.hid (kO.below B3.out (by omega) (fun k hk => (HO.out k).2 (.inl (by omega))))
    have T4 := Lib.hid (hk2.blk T1.out (by omega))
    have GX : Hid (pb < gx ∧ gs + 1 < gx ∧ gx < W2.heap.size) := Lib.hid ⟨by rw [← hgx]; exact X3.out.lt, by rw [← hgx]; exact Z3.out.lt, by rw [hs2, ← hgx]; simp⟩
    clear hk2 kO X3 S3 Z3 B3 T1 AZ nl hs2
    rw [hgx] at T4 ⊢
    clear hgx
    simp only [List.setIfInBounds_toArray, List.set_cons_zero, List.set_cons_succ, Act.put]
    have K4 : Hid (Kept (fun k => ¬ O k) W2 W2) := Lib.hid (Kept.refl _ _)
    have T1S : Hid (ofS s.v s.lo (i : Int) = ⟨s.v, s.lo, hiA s.v s.lo (i : Int)⟩) := Lib.hid OE
    clear OE
    generalize ofS s.v s.lo (i : Int) = T1 at *
    generalize ofE s.v s.lo (i : Int) = E1 at *
    have SO := Lib.hid (Try.sizeS OS)
    have ZO : Hid ((scells zeroS).size = (scells T1).size) := Lib.hid (by rw [scells_size OS, scells_size zeroS_six])
    have OO := Lib.hid (scells_one T1)
    have CL := Lib.hid (fun W => (last_any T1 W OS).mono (fun _ _ h => (⟨h.1, h.2.1⟩ : _ ∧ Below W.heap.size W _)))
    have CS : Hid (∀ W, Calls Try.prog 26 #[.agg F] W fun e w' => e = .returned (.agg (lastC s)) ∧ Below W.heap.size W w') := Lib.hid (fun W => by rw [← hF]; exact (last_any s W HS.out).mono (fun _ _ h => ⟨h.1, h.2.1⟩))
    have CC : Hid (∀ W, Calls Try.prog 25 #[.agg (lastC T1), .agg (lastC s)] W fun e w' => e = .returned (.int .i64 (cmpA T1.v T1.hi (mostZ T1.v) s.v s.hi (mostZ s.v))) ∧ Below W.heap.size W w') := Lib.hid (fun W => (pcmp_any _ _ _ _ _ _ W OS.2 HS.out.2).mono (fun _ _ h => ⟨h.1, h.2.1⟩))
    have CE : Hid (decide (cmpA T1.v T1.hi (mostZ T1.v) s.v s.hi (mostZ s.v) ≤ 0) = decide (aN (hiA s.v s.lo (i : Int)) ≤ aN s.hi)) := Lib.hid (by rw [T1S.out]; exact cmp_ends s.v (hiA s.v s.lo (i : Int)) s.hi)
    clear OS T1S hF
    gi_wp2_with (first
      | (refine in_load_row (fun _ => trivial) rfl 37 (.tmp 4) rfl gx rfl 37 PI _ T4.out Try.underlying37 rfl SPi.out ?_)
      | (refine ⟨trivial, ?_⟩
         refine (CallsIn.inRound _ (callsIn_wide.2 (C3.out _))).mono ?_
         rintro r w6 ⟨rfl, hb6⟩
         have X6 := Lib.hid (X4.out.below hb6 X4.out.lt)
         have S6 := Lib.hid (S4.out.below hb6 S4.out.lt)
         have Z6 := Lib.hid (Z4.out.below hb6 Z4.out.lt)
         have T6 := Lib.hid (T4.out.below hb6 T4.out.lt)
         have B6 := Lib.hid (B4.out.trans (hb6.mono (by have := GX.out; omega)))
         have K6 := Lib.hid (K4.out.trans (Kept.of_below hb6))
         have A6 : Hid (Blk (w6.alloc (.cells (scells zeroS) 30)) w6.heap.size 30 (scells zeroS)) := Lib.hid (Blk.new _ _ _)
         clear hb6 C3 X4 S4 Z4 T4 B4 K4)
      | (refine in_alloc (fun _ => trivial) rfl (by intro c hc; cases hc) (some 5) rfl (.pointer (some ⟨w6.heap.size, 0, none⟩)) (.cells (scells zeroS) 30) rfl ?_)
      | (refine in_store_row (fun _ => trivial) rfl 30 (.tmp 5) (.tmp 15) rfl rfl w6.heap.size (scells T1) rfl rfl 30 (scells zeroS) A6.out SO.out ZO.out OO.out ?_; rw [alloc_setRow]))
    have S7 : Hid (Blk (w6.alloc (.cells (scells T1) 30)).drew gs 30 F) := Lib.hid (show Blk (w6.alloc (.cells (scells T1) 30)) _ _ _ from S6.out.alloc _)
    have X7 : Hid (PBlk (w6.alloc (.cells (scells T1) 30)).drew pb s.v s.lo ((i + 1 : Nat) : Int)) := Lib.hid (show Blk (w6.alloc (.cells (scells T1) 30)) _ _ _ from Blk.alloc X6.out _)
    have Z7 : Hid (Blk (w6.alloc (.cells (scells T1) 30)).drew (gs + 1) 37 ZP) := Lib.hid (show Blk (w6.alloc (.cells (scells T1) 30)) _ _ _ from Z6.out.alloc _)
    have T7 : Hid (Blk (w6.alloc (.cells (scells T1) 30)).drew gx 37 PI) := Lib.hid (show Blk (w6.alloc (.cells (scells T1) 30)) _ _ _ from T6.out.alloc _)
    have U7 : Hid (Blk (w6.alloc (.cells (scells T1) 30)).drew w6.heap.size 30 (scells T1)) := Lib.hid (show Blk (w6.alloc (.cells (scells T1) 30)) _ _ _ from Blk.new _ _ _)
    have B7 : Hid (Below gs w (w6.alloc (.cells (scells T1) 30)).drew) := Lib.hid (((B6.out.alloc (by have := GX.out; have := T6.out.lt; omega) _)).drew)
    have K7 : Hid (Kept (fun k => ¬ O k) W2 (w6.alloc (.cells (scells T1) 30)).drew) := Lib.hid (K6.out.trans (Kept.of_below (box_below _ _))).drew'
    clear S6 X6 Z6 T6 B6 K6 A6
    refine in_region_ord (by intro o ho c; simp only [List.mem_cons, List.not_mem_nil, or_false] at ho; rcases ho with rfl | rfl | rfl | rfl | rfl | rfl <;> (intro hc; cases hc)) (by rintro ⟨_, _, h⟩; exact h) Ext Ext.refl (fun _ _ _ => Ext.trans) ((0, false) :: (2, false) :: (1, true) :: (3, true) :: (4, true) :: (5, false) :: []) (by kernel_rfl) (by kernel_rfl) rfl (by kernel_rfl) (fun _ _ _ _ _ h => h) ?_
    generalize (w6.alloc (.cells (scells T1) 30)).drew = w7 at *
    generalize w6.heap.size = g5 at *
    generalize cmpA T1.v T1.hi (mostZ T1.v) s.v s.hi (mostZ s.v) = c at *
    generalize scells T1 = FT at *
    by_cases hc : c ≤ 0
    · have tc : decide (0 < c) = false := decide_eq_false (by omega)
      repeat (first
        | (refine ord_skip rfl (by rfl) ?_; simp only [Act.put, List.setIfInBounds_toArray, List.set_cons_zero, List.set_cons_succ])
        | (refine ord_take _ rfl (by rfl) (fun W hW => yields_row 30 (.tmp 5) rfl g5 30 FT _ rfl (Blk.below U7.out hW U7.out.lt) Try.underlying30 rfl SO.out) ?_; simp only [Act.put, List.setIfInBounds_toArray, List.set_cons_zero, List.set_cons_succ])
        | (refine ord_take _ rfl (by rfl) (fun W hW => yields_row 30 (.tmp 1) rfl gs 30 F _ rfl (Blk.below S7.out hW S7.out.lt) Try.underlying30 rfl SS.out) ?_; simp only [Act.put, List.setIfInBounds_toArray, List.set_cons_zero, List.set_cons_succ])
        | (refine ord_take _ rfl (by rfl) (fun W hW => by go_simp; first | done | rfl) ?_; simp only [Act.put, List.setIfInBounds_toArray, List.set_cons_zero, List.set_cons_succ])
        | (refine ord_sole rfl (by rfl) (fun K1 hK1 => ?_)
           go_simp
           first
             | (refine (CL.out _).mono ?_; clear CL)
             | refine (CS.out _).mono ?_
             | refine (CC.out _).mono ?_
           rintro r w5 ⟨rfl, hb5⟩
           refine hK1 _ _ hb5 ?_
           clear hK1 K1
           replace B7 := Lib.hid (B7.out.trans (hb5.mono (by have := S7.out.lt; omega)))
           replace S7 := Lib.hid (S7.out.below hb5 S7.out.lt)
           replace Z7 := Lib.hid (Z7.out.below hb5 Z7.out.lt)
           replace T7 := Lib.hid (T7.out.below hb5 T7.out.lt)
           replace U7 := Lib.hid (U7.out.below hb5 U7.out.lt)
           replace X7 := Lib.hid (PBlk.below X7.out hb5 (Blk.lt X7.out))
           replace K7 := Lib.hid (K7.out.trans (Kept.of_below hb5))
           clear hb5))
      refine ord_end ?_
      have hle : aN (hiA s.v s.lo (i : Int)) ≤ aN s.hi := of_decide_eq_true (by rw [← CE.out]; exact decide_eq_true hc)
      have LN := LE.out
      rw [if_pos hle] at LN
      have LN2 : Hid (largeN s.v s.lo s.hi i = largeN s.v s.lo s.hi (mostN s.v)) := Lib.hid (LN.symm.trans H2.out)
      have K9 : Hid (Kept (fun k => ¬ O k) W2 (w5.setRow pb PI)) := Lib.hid (K7.out.setRow (fun h => h ((HO.out pb).2 (.inr rfl))) _)
      have S9 := Lib.hid (show Blk (w5.setRow pb PI) gs 30 F from (setRow_other _ _ _ _ (by have := PB.out; omega)).trans S7.out)
      have Z9 := Lib.hid (show Blk (w5.setRow pb PI) (gs + 1) 37 ZP from (setRow_other _ _ _ _ (by have := PB.out; omega)).trans Z7.out)
      have X9 := Lib.hid (show PBlk (w5.setRow pb PI) pb s.v s.lo (i : Int) from by
        have := setRow_heap w5 pb _ PI 37 (0, 0) X7.out
        show Blk _ _ _ (pcells s.v s.lo (i : Int))
        rw [HPI.out]
        exact this)
      have B9 := Lib.hid (below_setRow B7.out (show gs ≤ pb by have := PB.out; omega) PI)
      clear LN hle LE H2 CE hc K7 S7 Z7 B7
      gi_wp2_with (first
        | (refine in_load_row (fun _ => trivial) rfl 37 (.tmp 4) rfl gx rfl 37 PI _ T7.out Try.underlying37 rfl SPi.out ?_)
        | (refine in_store_row (fun _ => trivial) rfl 37 (.tmp 3) (.tmp 23) rfl rfl pb PI rfl rfl 37 _ X7.out SPi.out XPi.out PPi.out ?_))
      exact ⟨K9.out, O, ⟨HO.out, i, PR.out, LN2.out, X9.out, S9.out, Z9.out, B9.out⟩, fun k h => .inl h⟩
    · have tc : decide (0 < c) = true := decide_eq_true (by omega)
      repeat (first
        | (refine ord_skip rfl (by rfl) ?_; simp only [Act.put, List.setIfInBounds_toArray, List.set_cons_zero, List.set_cons_succ])
        | (refine ord_take _ rfl (by rfl) (fun W hW => yields_row 30 (.tmp 5) rfl g5 30 FT _ rfl (Blk.below U7.out hW U7.out.lt) Try.underlying30 rfl SO.out) ?_; simp only [Act.put, List.setIfInBounds_toArray, List.set_cons_zero, List.set_cons_succ])
        | (refine ord_take _ rfl (by rfl) (fun W hW => yields_row 30 (.tmp 1) rfl gs 30 F _ rfl (Blk.below S7.out hW S7.out.lt) Try.underlying30 rfl SS.out) ?_; simp only [Act.put, List.setIfInBounds_toArray, List.set_cons_zero, List.set_cons_succ])
        | (refine ord_take _ rfl (by rfl) (fun W hW => by go_simp; first | done | rfl) ?_; simp only [Act.put, List.setIfInBounds_toArray, List.set_cons_zero, List.set_cons_succ])
        | (refine ord_sole rfl (by rfl) (fun K1 hK1 => ?_)
           go_simp
           first
             | (refine (CL.out _).mono ?_; clear CL)
             | refine (CS.out _).mono ?_
             | refine (CC.out _).mono ?_
           rintro r w5 ⟨rfl, hb5⟩
           refine hK1 _ _ hb5 ?_
           clear hK1 K1
           replace B7 := Lib.hid (B7.out.trans (hb5.mono (by have := S7.out.lt; omega)))
           replace S7 := Lib.hid (S7.out.below hb5 S7.out.lt)
           replace Z7 := Lib.hid (Z7.out.below hb5 Z7.out.lt)
           replace T7 := Lib.hid (T7.out.below hb5 T7.out.lt)
           replace U7 := Lib.hid (U7.out.below hb5 U7.out.lt)
           replace X7 := Lib.hid (PBlk.below X7.out hb5 (Blk.lt X7.out))
           replace K7 := Lib.hid (K7.out.trans (Kept.of_below hb5))
           clear hb5))
      refine ord_end ?_
      have hle : ¬ aN (hiA s.v s.lo (i : Int)) ≤ aN s.hi := fun h => hc (of_decide_eq_true (by rw [CE.out]; exact decide_eq_true h))
      have LN := LE.out
      rw [if_neg hle] at LN
      have LN2 : Hid (largeN s.v s.lo s.hi (mostN s.v) = i + 1) := Lib.hid (H2.out.symm.trans LN)
      clear LN hle LE H2 CE hc
      gi_wp2
      exact ⟨K7.out, rfl, by rw [LN2.out]; exact X7.out, Z7.out, B7.out⟩
  case hdone =>
    rintro O W ⟨ho, j, h1, h2, h3, h4, h5, h6⟩ hD hlt
    have hj : growN s.v s.lo j = [] := by simpa using h1
    have E := Lib.hid ((grow_none (H := s.hi) hj).symm.trans h2)
    rw [E.out] at h3
    have X8 := Lib.hid h3
    have Z8 := Lib.hid h5
    have B8 := Lib.hid h6
    have L6 := HS.out.1.1
    obtain ⟨n, hn⟩ : ∃ n, largeN s.v s.lo s.hi (mostN s.v) = n := ⟨_, rfl⟩
    have NE := Lib.hid hn
    rw [hn] at X8
    clear hn
    have SP8 := Lib.hid (Try.sizeP (v := s.v) (L := (n : Int)) L6)
    have ZE8 : Hid (ZP.size = (pcells s.v s.lo (n : Int)).size) := Lib.hid (by rw [pcells_size L6]; rfl)
    have P8 := Lib.hid (pcells_one s.v s.lo (n : Int))
    clear h1 h2 h3 h4 h5 h6 hj E ho
    gi_wp2_with (first
      | (refine in_load_row (fun _ => trivial) rfl 37 (.tmp 3) rfl pb rfl 37 (pcells s.v s.lo (n : Int)) _ X8.out Try.underlying37 rfl SP8.out ?_)
      | (refine in_store_row (fun _ => trivial) rfl 37 (.tmp 2) (.tmp 24) rfl rfl (gs + 1) (pcells s.v s.lo (n : Int)) rfl rfl 37 ZP Z8.out SP8.out ZE8.out P8.out ?_))
    have hK : (W.setRow (gs + 1) (pcells s.v s.lo (n : Int))).heap[w5.heap.size]? = some (.deferred (some [])) := (setRow_other _ _ _ _ (by have := PB.out; omega)).trans hD
    refine ⟨by simp, .inl ⟨_, _, rfl, run_takeDeferred hK, ?_⟩⟩
    refine ⟨_, results_cell_row rfl _ _ (gs + 1) 37 (pcells s.v s.lo (n : Int)) (0, 0) _ rfl ((World.putObj_heap_other (by have := PB.out; omega)).trans (setRow_heap _ _ _ _ 37 _ Z8.out)) Try.underlying37 rfl SP8.out, by rw [NE.out], ?_⟩
    rw [hgs]
    have b := below_setRow (B := gs) B8.out (show gs ≤ gs + 1 by omega) (pcells s.v s.lo (n : Int))
    exact ⟨b.os, b.tape, b.output, by simpa using b.size, fun k hk => (World.putObj_heap_other (by have := PB.out; omega)).trans (b.block k hk)⟩
  case hstop =>
    rintro c W ⟨rfl, h3, h5, h6⟩ hD hlt
    have X8 := Lib.hid h3
    have Z8 := Lib.hid h5
    have B8 := Lib.hid h6
    have L6 := HS.out.1.1
    obtain ⟨n, hn⟩ : ∃ n, largeN s.v s.lo s.hi (mostN s.v) = n := ⟨_, rfl⟩
    have NE := Lib.hid hn
    rw [hn] at X8
    clear hn
    have SP8 := Lib.hid (Try.sizeP (v := s.v) (L := (n : Int)) L6)
    have ZE8 : Hid (ZP.size = (pcells s.v s.lo (n : Int)).size) := Lib.hid (by rw [pcells_size L6]; rfl)
    have P8 := Lib.hid (pcells_one s.v s.lo (n : Int))
    clear h3 h5 h6
    gi_wp2_with (first
      | (refine in_load_row (fun _ => trivial) rfl 37 (.tmp 3) rfl pb rfl 37 (pcells s.v s.lo (n : Int)) _ X8.out Try.underlying37 rfl SP8.out ?_)
      | (refine in_store_row (fun _ => trivial) rfl 37 (.tmp 2) (.tmp 24) rfl rfl (gs + 1) (pcells s.v s.lo (n : Int)) rfl rfl 37 ZP Z8.out SP8.out ZE8.out P8.out ?_))
    have hK : (W.setRow (gs + 1) (pcells s.v s.lo (n : Int))).heap[w5.heap.size]? = some (.deferred (some [])) := (setRow_other _ _ _ _ (by have := PB.out; omega)).trans hD
    refine ⟨by simp, .inl ⟨_, _, rfl, run_takeDeferred hK, ?_⟩⟩
    refine ⟨_, results_cell_row rfl _ _ (gs + 1) 37 (pcells s.v s.lo (n : Int)) (0, 0) _ rfl ((World.putObj_heap_other (by have := PB.out; omega)).trans (setRow_heap _ _ _ _ 37 _ Z8.out)) Try.underlying37 rfl SP8.out, by rw [NE.out], ?_⟩
    rw [hgs]
    have b := below_setRow (B := gs) B8.out (show gs ≤ gs + 1 by omega) (pcells s.v s.lo (n : Int))
    exact ⟨b.os, b.tape, b.output, by simpa using b.size, fun k hk => (World.putObj_heap_other (by have := PB.out; omega)).trans (b.block k hk)⟩

end Go.Proofs.Yteddeebhfnpchaa

namespace Go.Proofs.Yteddeebhfnpchaa
open Go.RowKit
set_option linter.unusedVariables false

def lenL (v : Bool) (A H : List Int) : Nat := largeN v A H (mostN v)
/-- A span's prefixes from an address on: so many at the most. -/
def prefL (v : Bool) (H : List Int) : Nat → List Int → List (List Int × Int)
  | 0, _ => []
  | f + 1, A => (A, (lenL v A H : Int)) :: if hiA v A (lenL v A H : Int) = H then [] else prefL v H f (nextA v (hiA v A (lenL v A H : Int)))
def prefS (s : SpanZ) : List (List Int × Int) := if rightS s then prefL s.v s.hi (lineZ s.v s.hi - lineZ s.v s.lo + 1) s.lo else []
theorem large_step (v : Bool) (A H : List Int) (k : Nat) : largeN v A H (k + 1) = if rightA v A (k : Int) = true ∧ aN (hiA v A (k : Int)) ≤ aN H then largeN v A H k else k + 1 := rfl
theorem large_ok {v : Bool} {A H : List Int} (j : Nat) (h1 : rightA v A (j : Int) = true) (h2 : aN (hiA v A (j : Int)) ≤ aN H) : rightA v A (largeN v A H j : Int) = true ∧ aN (hiA v A (largeN v A H j : Int)) ≤ aN H := by
  induction j with
  | zero => exact ⟨h1, h2⟩
  | succ j ih =>
    rw [large_step]
    by_cases h : rightA v A (j : Int) = true ∧ aN (hiA v A (j : Int)) ≤ aN H
    · rw [if_pos h]
      exact ih h.1 h.2
    · rw [if_neg h]
      exact ⟨h1, h2⟩
theorem one_right {s : SpanZ} (hs : SpanOk s) : rightA s.v s.lo (mostN s.v : Int) = true := by
  rw [mostN_is, right_end]
  have := ok_parts hs
  cases hv : s.v
  · simp [this.1 hv]
  · rfl
theorem one_hi {v : Bool} {A : List Int} (hA : Sixteen A) (hr : rightA v A (mostN v : Int) = true) : hiA v A (mostN v : Int) = A := by
  have h := hiA_num hA hr
  have e : (2 : Nat) ^ (128 - (mostN v : Int).toNat) = unitZ v := by cases v <;> rfl
  rw [e] at h
  exact aN_inj (hiA_ok hA hr).2 hA.2 (by rw [(hiA_ok hA hr).1, hA.1]) (by omega)
theorem len_ok {s : SpanZ} (hs : SpanOk s) : rightA s.v s.lo (lenL s.v s.lo s.hi : Int) = true ∧ aN (hiA s.v s.lo (lenL s.v s.lo s.hi : Int)) ≤ aN s.hi :=
  large_ok (mostN s.v) (one_right hs) (by rw [one_hi hs.1 (one_right hs)]; exact (ok_parts hs).2.2)
theorem hi_ge {v : Bool} {A : List Int} {L : Int} (hA : Sixteen A) (hr : rightA v A L = true) : aN A ≤ aN (hiA v A L) ∧ (v = false → aN (hiA v A L) % 2 ^ 96 = 0) := by
  have h := hiA_num hA hr
  have hp := (right_is v A L).1 hr
  have hm := most_le v
  cases v with
  | true =>
    have : 0 < 2 ^ (128 - L.toNat) := Nat.two_pow_pos _
    refine ⟨?_, fun e => by cases e⟩
    simp only [unitZ, if_true] at h
    omega
  | false =>
    have hl : L.toNat ≤ 32 := by have := hp.2.1; simp only [mostZ, Bool.false_eq_true, if_false] at this; omega
    obtain ⟨d, hd⟩ : ∃ d, 128 - L.toNat = 96 + d := ⟨32 - L.toNat, by omega⟩
    have e1 : (2 : Nat) ^ (128 - L.toNat) = 2 ^ 96 * 2 ^ d := by rw [hd, Nat.pow_add]
    have pd : 0 < 2 ^ d := Nat.two_pow_pos _
    have hmod := hp.2.2
    rw [e1] at h hmod
    simp only [unitZ, Bool.false_eq_true, if_false] at h
    have k1 : aN A % 2 ^ 96 = 0 := by
      have := Nat.mod_mul_right_mod (aN A) (2 ^ 96) (2 ^ d)
      rw [hmod] at this
      simpa using this.symm
    obtain ⟨q, hq⟩ := Nat.dvd_of_mod_eq_zero k1
    have k2 : 2 ^ 96 * 1 ≤ 2 ^ 96 * 2 ^ d := Nat.mul_le_mul_left _ pd
    refine ⟨by omega, fun _ => ?_⟩
    have : aN (hiA false A L) = 2 ^ 96 * (q + 2 ^ d - 1) := by
      rw [Nat.mul_sub, Nat.mul_add]
      omega
    rw [this, Nat.mul_mod_right]
/-- The rest of a span behind its first prefix. -/
theorem rest_ok {s : SpanZ} (hs : SpanOk s) (hne : hiA s.v s.lo (lenL s.v s.lo s.hi : Int) ≠ s.hi) :
    SpanOk ⟨s.v, nextA s.v (hiA s.v s.lo (lenL s.v s.lo s.hi : Int)), s.hi⟩ ∧ lineZ s.v (nextA s.v (hiA s.v s.lo (lenL s.v s.lo s.hi : Int))) = lineZ s.v (hiA s.v s.lo (lenL s.v s.lo s.hi : Int)) + 1 ∧ lineZ s.v s.lo ≤ lineZ s.v (hiA s.v s.lo (lenL s.v s.lo s.hi : Int)) := by
  obtain ⟨h1, h2⟩ := len_ok hs
  have hh := hiA_ok hs.1 h1
  obtain ⟨h3, h4⟩ := hi_ge hs.1 h1
  have hp := ok_parts hs
  generalize hiA s.v s.lo (lenL s.v s.lo s.hi : Int) = B at *
  have hlt : aN B < aN s.hi := by
    rcases Nat.lt_or_ge (aN B) (aN s.hi) with h | h
    · exact h
    · exact absurd (aN_inj hh.2 hs.2.1.2 (by rw [hh.1, hs.2.1.1]) (by omega)) hne
  have h128 := aN_lt16 hs.2.1
  have hu : aN B + unitZ s.v ≤ aN s.hi := by
    cases hv : s.v with
    | true => simp only [unitZ, if_true]; omega
    | false =>
      have k1 := h4 hv
      have k2 := hp.2.1 hv
      simp only [unitZ, Bool.false_eq_true, if_false]
      omega
  have en : aN (nextA s.v B) = aN B + unitZ s.v := by
    unfold nextA
    rw [aN_by16 (Nat.mod_lt _ (by decide)), Nat.mod_eq_of_lt (by omega)]
  obtain ⟨l1, l2⟩ := line_next (v := s.v) h4 en
  refine ⟨⟨next_ok _ _, hs.2.1, ?_⟩, l1, (line_le hp.1 h4).2 h3⟩
  unfold rightZ
  rw [Bool.and_eq_true, decide_eq_true_iff]
  refine ⟨?_, by show aN (nextA s.v B) ≤ aN s.hi; omega⟩
  cases hv : s.v with
  | true => rfl
  | false =>
    simp only [Bool.false_or, Bool.and_eq_true, decide_eq_true_iff]
    exact ⟨by have := l2 hv; rw [hv] at this; exact this, hp.2.1 hv⟩
/-- A prefix's span has that prefix alone. -/
theorem large_of {v : Bool} {A : List Int} {L : Nat} (hA : Sixteen A) (hr : rightA v A (L : Int) = true) : ∀ (j : Nat), L ≤ j → (j : Int) ≤ mostZ v → largeN v A (hiA v A (L : Int)) j = L
  | 0, h, _ => by
    obtain rfl : L = 0 := by omega
    rfl
  | j + 1, h, hm => by
    have hp := (right_is v A (L : Int)).1 hr
    have hmost := most_le v
    rw [large_step]
    rcases Nat.lt_or_ge j L with hj | hj
    · obtain rfl : L = j + 1 := by omega
      rw [if_neg]
      rintro ⟨h1, h2⟩
      have n1 := hiA_num hA h1
      have n2 := hiA_num hA hr
      have e : (2 : Nat) ^ (128 - (j : Int).toNat) = 2 ^ (128 - ((j + 1 : Nat) : Int).toNat) * 2 := by
        rw [← Nat.pow_succ]
        congr 1
        omega
      have : 0 < 2 ^ (128 - ((j + 1 : Nat) : Int).toNat) := Nat.two_pow_pos _
      omega
    · have hrj : rightA v A (j : Int) = true := by
        refine (right_is v A _).2 ⟨by omega, by omega, ?_⟩
        have e : (2 : Nat) ^ (128 - (L : Int).toNat) = 2 ^ (128 - (j : Int).toNat) * 2 ^ (j - L) := by
          rw [← Nat.pow_add]
          congr 1
          omega
        have hmod := hp.2.2
        rw [e] at hmod
        have := Nat.mod_mul_right_mod (aN A) (2 ^ (128 - (j : Int).toNat)) (2 ^ (j - L))
        rw [hmod] at this
        simpa using this.symm
      have n1 := hiA_num hA hrj
      have n2 := hiA_num hA hr
      have hpw : 2 ^ (128 - (j : Int).toNat) ≤ 2 ^ (128 - (L : Int).toNat) := Nat.pow_le_pow_right (by decide) (by omega)
      rw [if_pos ⟨hrj, by omega⟩]
      exact large_of hA hr j hj (by omega)
theorem of_ok {v : Bool} {A : List Int} {L : Int} (hA : Sixteen A) (hr : rightA v A L = true) : SpanOk ⟨v, A, hiA v A L⟩ := by
  refine ⟨hA, hiA_ok hA hr, ?_⟩
  obtain ⟨h1, h2⟩ := hi_ge hA hr
  have hp := (right_is v A L).1 hr
  unfold rightZ
  rw [Bool.and_eq_true, decide_eq_true_iff]
  refine ⟨?_, h1⟩
  cases v with
  | true => rfl
  | false =>
    simp only [Bool.false_or, Bool.and_eq_true, decide_eq_true_iff]
    refine ⟨?_, h2 rfl⟩
    have hl : L.toNat ≤ 32 := by have := hp.2.1; simp only [mostZ, Bool.false_eq_true, if_false] at this; omega
    have e : (2 : Nat) ^ (128 - L.toNat) = 2 ^ 96 * 2 ^ (32 - L.toNat) := by
      rw [← Nat.pow_add]
      congr 1
      omega
    have hmod := hp.2.2
    rw [e] at hmod
    have := Nat.mod_mul_right_mod (aN A) (2 ^ 96) (2 ^ (32 - L.toNat))
    rw [hmod] at this
    simpa using this.symm
theorem pref_of {v : Bool} {A : List Int} {L : Int} (hA : Sixteen A) (hr : rightA v A L = true) : prefS ⟨v, A, hiA v A L⟩ = [(A, L)] := by
  have hp := (right_is v A L).1 hr
  obtain ⟨n, rfl⟩ : ∃ n : Nat, L = (n : Int) := ⟨L.toNat, by omega⟩
  have hl : lenL v A (hiA v A (n : Int)) = n := large_of hA hr (mostN v) (by have := mostN_is v; omega) (by rw [mostN_is]; exact Int.le_refl _)
  have hs : rightS ⟨v, A, hiA v A (n : Int)⟩ = true := (of_ok hA hr).2.2
  unfold prefS
  rw [if_pos hs]
  show prefL v (hiA v A (n : Int)) (_ + 1) A = _
  unfold prefL
  rw [hl, if_pos rfl]

end Go.Proofs.Yteddeebhfnpchaa

namespace Go.Proofs.Yteddeebhfnpchaa
open Go.RowKit
set_option linter.unusedVariables false

theorem items16d (d : Nat) (xs ys : List Int) (hx : xs.length = 16) (hy : ys.length = 16) (w : World) : ∀ js : List Nat, (∀ j ∈ js, j < 16) → (Op.eqItems (d + 1) 5 1 (acells xs).toArray (acells ys).toArray js).run Try.prog w = .ok (js.all fun j => xs[j]?.getD 0 == ys[j]?.getD 0) w := by
  intro js
  induction js with
  | nil => intro _; simp [Op.eqItems]
  | cons j js ih =>
    intro h
    have hj : (acells xs).toArray[j]? = _ := List.getElem?_toArray.trans (acells_at hx j (h j (by simp)))
    have hk : (acells ys).toArray[j]? = _ := List.getElem?_toArray.trans (acells_at hy j (h j (by simp)))
    have q : ∀ (a b : Int) (w : World), (Op.equalIn (d + 1) 5 (.int .u8 a) (.int .u8 b)).run Try.prog w = .ok (a == b) w := fun a b w => run_equalIn_int w d 5 .u8 .u8 a b Try.underlying5
    simp only [Op.eqItems, Sem.run_bind, Nat.mul_one, part8 _ j _ hj, part8 _ j _ hk, q, Result.andThen_ok]
    have e := ih (fun i hi => h i (by simp [hi]))
    cases hb : (xs[j]?.getD 0 == ys[j]?.getD 0) with
    | true => simpa [hb] using e
    | false => simp [hb]
theorem two_addr_top (xs ys : List Int) (hx : xs.length = 16) (hy : ys.length = 16) (w : World) : (Op.equalIn 10000 28 (.agg (acells xs).toArray) (.agg (acells ys).toArray)).run Try.prog w = .ok (decide (xs = ys)) w := by
  have hd : ((List.range 16).all fun j => xs[j]?.getD 0 == ys[j]?.getD 0) = decide (xs = ys) := by
    rw [Bool.eq_iff_iff, decide_eq_true_iff, List.all_eq_true]
    constructor
    · intro h
      refine ext16 hx hy (fun q hq => ?_)
      simpa using h q (List.mem_range.2 hq)
    · rintro rfl j _
      simp
  obtain ⟨i0, hi⟩ := Option.isSome_iff_exists.1 Try.infoB8
  rw [run_equalIn_array w 9999 _ _ Try.underlying28 hi, Try.cellsB8, ← hd]
  exact items16d 9998 xs ys hx hy w _ (fun j hj => List.mem_range.1 hj)
set_option maxHeartbeats 4000000 in
theorem alloc_span_run {o : Oper} {a : Act} {w : World} (ho : o.op = .alloc 30) : (execOp a.eval o).run Try.prog w = .ok (.value (.pointer (some ⟨w.heap.size, 0, none⟩))) (w.alloc (.cells (scells zeroS) 30)) := by
  unfold execOp
  simp only [ho]
  rfl
set_option maxHeartbeats 4000000 in
theorem alloc_prefix_run {o : Oper} {a : Act} {w : World} (ho : o.op = .alloc 37) : (execOp a.eval o).run Try.prog w = .ok (.value (.pointer (some ⟨w.heap.size, 0, none⟩))) (w.alloc (.cells ZP 37)) := by
  unfold execOp
  simp only [ho]
  rfl
theorem heap_setCells_other (g k : Nat) (h : k ≠ g) : ∀ (vs : List Value) (o : Nat) (w : World), (w.setCells g o vs).heap[k]? = w.heap[k]?
  | [], _, _ => rfl
  | v :: r, o, w => (heap_setCells_other g k h r (o + 1) _).trans (Below.heap_setCell w ⟨g, o, none⟩ v k h)
/-- A prefix's address, taken out of it. -/
theorem field_addr {o : Oper} {a : Act} {W : World} (x : Operand) (ho : o.op = .field 37 x 1) (v : Bool) (A : List Int) (L : Int) (hA : A.length = 16) (hx : a.eval x = .agg (pcells v A L)) : (execOp a.eval o).run Try.prog W = .ok (.value (.agg (acells A).toArray)) W := by
  unfold execOp
  simp only [ho, hx, Instr.field, Sem.run_bind, run_underlying Try.underlying37 W, Result.andThen_ok]
  simp [asAgg, part_a v L hA W, Result.andThen]
/-- A part of a value that is a prefix. -/
theorem SBlk.loBelow {w w' : World} {g : Nat} {s : SpanZ} (h : SBlk w g s) (hb : Below w.heap.size w w') : SBlk w' g s := Blk.below h hb (Blk.lt h)

set_option maxHeartbeats 1000000 in
set_option maxRecDepth 10000 in
/-- It turns one block alone, that of the rest. -/
theorem advance_any (v : Bool) (A : List Int) (L : Int) (g gs : Nat) (B H S0 : List Int) (w : World) (hA : Sixteen A) (l0 : -9223372036854775808 ≤ L) (l1 : L ≤ 9223372036854775807) (hB : Sixteen B) (hH : Sixteen H) (hS : Sixteen S0) (hr : rightA v A L = true) (hg : SBlk w g ⟨v, B, H⟩) (hgs : SBlk w gs ⟨v, S0, H⟩) (hne : g ≠ gs) :
    Calls Try.prog 48 #[.agg (pcells v A L), .pointer (some ⟨g, 0, none⟩), .pointer (some ⟨gs, 0, none⟩)] w fun e w' => e = .returned (.bool (!decide (hiA v A L = H))) ∧ SBlk w' g ⟨v, nextA v (hiA v A L), H⟩ ∧ Kept (fun k => k ≠ g) w w' := by
  have BX : Hid (Blk (w.alloc (.cells (pcells v A L) 37)) w.heap.size 37 (pcells v A L)) := Lib.hid (Blk.new _ _ _)
  have GX := Lib.hid (hg.loBelow (box_below w (.cells (pcells v A L) 37)))
  have GS := Lib.hid (hgs.loBelow (box_below w (.cells (pcells v A L) 37)))
  have BW := Lib.hid (box_below w (.cells (pcells v A L) 37))
  have C1 := Lib.hid (fun W => of_any v A L W hA l0 l1)
  have OE : ofS v A L = ⟨v, A, hiA v A L⟩ ∧ ofE v A L = 0 := ⟨by unfold ofS; rw [if_pos hr], by unfold ofE; rw [if_pos hr]⟩
  rw [OE.1, OE.2] at C1
  have hh := hiA_ok hA hr
  have HH := Lib.hid hh
  have C2 := Lib.hid (fun W => (last_any ⟨v, A, hiA v A L⟩ W ⟨hA, hh⟩).mono (fun _ _ h => (⟨h.1, h.2.1⟩ : _ ∧ Below W.heap.size W _)))
  have C3 : Hid (∀ W, Calls Try.prog 41 #[.agg (lastC ⟨v, A, hiA v A L⟩)] W fun e w' => e = .returned (.agg (pcells v (nextA v (hiA v A L)) (mostZ v))) ∧ Below W.heap.size W w') := Lib.hid (fun W => (after_any v (hiA v A L) (mostZ v) W hh).mono (fun _ _ h => ⟨h.1, h.2.1⟩))
  have SP := Lib.hid (Try.sizeP (v := v) (L := L) hA.1)
  have s6 : SixS ⟨v, A, hiA v A L⟩ := ⟨hA, hh⟩
  have SO := Lib.hid (Try.sizeS s6)
  have ZO : Hid ((scells zeroS).size = (scells ⟨v, A, hiA v A L⟩).size) := Lib.hid (by rw [scells_size s6, scells_size zeroS_six])
  have OO := Lib.hid (scells_one ⟨v, A, hiA v A L⟩)
  have NX := Lib.hid (next_ok v (hiA v A L))
  have SN := Lib.hid (Try.sizeA (next_ok v (hiA v A L)).1)
  have SH := Lib.hid (Try.sizeA hh.1)
  have SH2 := Lib.hid (Try.sizeA hH.1)
  have SAN : Hid ((Try.prog.info? 28).map (·.size) = some (acells (nextA v (hiA v A L))).toArray.size) := Lib.hid (by rw [SN.out]; simp)
  have A1 : Hid ((acells (nextA v (hiA v A L))).toArray.all (·.oneCell') = true) := Lib.hid (Array.all_eq_true_iff_forall_mem.2 (fun v hv => by
    unfold acells at hv
    obtain ⟨x, _, rfl⟩ := List.mem_map.1 (List.mem_toArray.1 hv)
    rfl))
  have EQ := Lib.hid (fun W => two_addr_top (hiA v A L) H hh.1 hH.1 W)
  have X6 := Lib.hid (show SixS ⟨v, A, hiA v A L⟩ from s6)
  have G6 : Hid (SixS ⟨v, B, H⟩) := Lib.hid ⟨hB, hH⟩
  have S6 : Hid (SixS ⟨v, S0, H⟩) := Lib.hid ⟨hS, hH⟩
  have HN := Lib.hid hne
  clear s6 hA hB hH hS hh hr hg hgs hne OE
  go_enter Try.func48, Try.ntmps48
  generalize hw2 : w.alloc (.cells (pcells v A L) 37) = w2 at *
  generalize pcells v A L = PC at *
  generalize hN : nextA v (hiA v A L) = N at *
  generalize hZ : hiA v A L = Z at *
  clear hN hZ
  generalize hpn : pcells v N (mostZ v) = PN at *
  have HPN := Lib.hid hpn
  clear hpn
  generalize hft : scells ⟨v, A, Z⟩ = FT at *
  have HFT := Lib.hid hft
  clear hft
  generalize hlc : lastC ⟨v, A, Z⟩ = LC at *
  clear hlc
  go_upto_region 2 with (first
    | (refine wpList_load_row rfl 37 (.tmp 3) rfl w.heap.size rfl 37 PC (0, 0) _ BX.out Try.underlying37 rfl SP.out ?_)
    | (go_at_call 18
       refine (C1.out _).mono ?_
       rintro r w3 ⟨rfl, hb3⟩
       have G3 := Lib.hid (GX.out.loBelow hb3)
       have T3 := Lib.hid (GS.out.loBelow hb3)
       have B3 := Lib.hid (Below.step BW.out hb3)
       have AZ : Hid (Blk (w3.alloc (.cells (scells zeroS) 30)) w3.heap.size 30 (scells zeroS)) := Lib.hid (Blk.new _ _ _)
       clear hb3 GX GS BW BX)
    | (refine Great.wpList_allocTo rfl (some 5) rfl (.pointer (some ⟨w3.heap.size, 0, none⟩)) (.cells (scells zeroS) 30) (alloc_span_run rfl) ?_)
    | (refine wpList_store_rowTo rfl 30 (.tmp 5) (.tmp 10) rfl rfl w3.heap.size FT rfl rfl 30 (scells zeroS) AZ.out SO.out ZO.out OO.out ?_; rw [alloc_setRow]))
  have U4 : Hid (Blk (w3.alloc (.cells FT 30)) w3.heap.size 30 FT) := Lib.hid (Blk.new _ _ _)
  have G4 := Lib.hid (G3.out.loBelow (box_below w3 (.cells FT 30)))
  have T4 := Lib.hid (T3.out.loBelow (box_below w3 (.cells FT 30)))
  have B4 := Lib.hid (Below.step B3.out (box_below w3 (.cells FT 30)))
  have GL : Hid (g < w3.heap.size) := Lib.hid (Blk.lt G3.out)
  clear hw2 AZ G3 T3 B3 C1
  generalize w3.alloc (.cells FT 30) = w4 at *
  generalize w3.heap.size = gb at *
  go_upto_region 3 with (first
    | (refine wpList_load_row rfl 30 (.tmp 5) rfl gb rfl 30 FT (0, 0) _ U4.out Try.underlying30 rfl SO.out ?_)
    | (go_at_call 26
       refine (C2.out _).mono ?_
       rintro r w5 ⟨rfl, hb5⟩
       have U5 := Lib.hid (U4.out.below hb5 U4.out.lt)
       have G5 := Lib.hid (G4.out.loBelow hb5)
       have T5 := Lib.hid (T4.out.loBelow hb5)
       have B5 := Lib.hid (Below.step B4.out hb5)
       clear hb5 U4 G4 T4 B4 C2)
    | (go_at_call 41
       refine (C3.out _).mono ?_
       rintro r w6 ⟨rfl, hb6⟩
       have U7 := Lib.hid (U5.out.below hb6 U5.out.lt)
       have G7 := Lib.hid (G5.out.loBelow hb6)
       have T7 := Lib.hid (T5.out.loBelow hb6)
       have B7 := Lib.hid (Below.step B5.out hb6)
       have TH : Hid (w6.there g 1 (acells N).toArray.size) := Lib.hid (by rw [show (acells N).toArray.size = 16 by simp [acells_len NX.out.1]]; exact G7.out.thereLo G6.out)
       clear hb6 U5 G5 T5 B5 C3)
    | (refine Great.wpList_runTo rfl (some 15) rfl (.agg (acells N).toArray) w6 (field_addr (.tmp 14) rfl v N (mostZ v) NX.out.1 (by rw [HPN.out]; rfl)) ?_)
    | (refine wpList_store_mid rfl 28 (.tmp 16) (.tmp 15) rfl g 1 (acells N).toArray rfl rfl TH.out SAN.out A1.out ?_))
  have G8 := Lib.hid (SBlk.wholeLo G6.out NX.out.1 G7.out)
  have U8 : Hid (Blk (w6.setCells g 1 (acells N)) gb 30 FT) := Lib.hid (Blk.farAll (by have := GL.out; omega) (acells N) 1 w6 U7.out)
  have T8 : Hid (SBlk (w6.setCells g 1 (acells N)) gs ⟨v, S0, H⟩) := Lib.hid (Blk.farAll (fun e => HN.out e.symm) (acells N) 1 w6 T7.out)
  have K8 : Hid (Kept (fun k => k ≠ g) w (w6.setCells g 1 (acells N))) := Lib.hid (by
    have k0 : Kept (fun k => k ≠ g) w w6 := Kept.of_below B7.out
    refine ⟨?_, ?_, ?_, ?_, fun k hk hne => ?_⟩
    · rw [← k0.os]; exact (below_setCells (B := 0) (w := w6) (Nat.zero_le g) (acells N) 1 w6 (Below.refl _ _)).os
    · rw [← k0.tape]; exact (below_setCells (B := 0) (w := w6) (Nat.zero_le g) (acells N) 1 w6 (Below.refl _ _)).tape
    · rw [← k0.output]; exact (below_setCells (B := 0) (w := w6) (Nat.zero_le g) (acells N) 1 w6 (Below.refl _ _)).output
    · exact Nat.le_trans k0.size (below_setCells (B := 0) (w := w6) (Nat.zero_le g) (acells N) 1 w6 (Below.refl _ _)).size
    · rw [← k0.block k hk hne]
      exact heap_setCells_other g k hne (acells N) 1 w6)
  have HR := Lib.hid ((show SBlk (w6.setCells g 1 (acells N)) gb ⟨v, A, Z⟩ from by unfold SBlk; rw [HFT.out]; exact U8.out).hi X6.out)
  have HR2 := Lib.hid (T8.out.hi S6.out)
  clear G7 U7 T7 B7 TH U8 T8
  generalize w6.setCells g 1 (acells N) = w8 at *
  have EQ2 := EQ.out w8
  go_wp2_with (first
    | (refine wpList_load_mid rfl 28 (.tmp 17) rfl gb 17 rfl (acells Z) _ HR.out Try.underlying28 rfl SH.out ?_)
    | (refine wpList_load_mid rfl 28 (.tmp 19) rfl gs 17 rfl (acells H) _ HR2.out Try.underlying28 rfl SH2.out ?_))
  go_ret
  exact ⟨rfl, G8.out, K8.out⟩

end Go.Proofs.Yteddeebhfnpchaa

namespace Go.Proofs.Yteddeebhfnpchaa
open Go.RowKit
attribute [local go_sem] Oper.semAt_some
set_option linter.unusedVariables false

theorem prefixes_any (s : SpanZ) (w : World) :
    Calls Try.prog 35 #[.agg (scells s)] w fun e w' => e = .returned (.func (.func 47) #[] #[.pointer (some ⟨w.heap.size, 0, none⟩)]) ∧ SBlk w' w.heap.size s ∧ Below w.heap.size w w' := by
  have BX := Lib.hid (sbox w s)
  have BW := Lib.hid (box_below w (.cells (scells s) 30))
  go_enter Try.func35, Try.ntmps35
  go_wp2_with fail
  go_ret
  exact ⟨rfl, BX.out, BW.out⟩

def encP (v : Bool) (x : List Int × Int) : Array Value := #[.agg (pcells v x.1 x.2)]
/-- Where the iterator stands. -/
def PrefAt (v : Bool) (H : List Int) (s : SpanZ) (xs : List (List Int × Int)) (J : List (List Int × Int) → (Nat → Prop) → World → Prop) (Jx : World → Prop) (B gs k : Nat) (m : Value) (wr : World) : Prop :=
  (m = .bool true ∧ ∃ pre O' A, J pre O' wr ∧ ¬ O' B ∧ ¬ O' gs ∧ SBlk wr B ⟨v, A, H⟩ ∧ SBlk wr gs s ∧ SpanOk ⟨v, A, H⟩ ∧ lineZ v H < lineZ v A + k ∧ pre ++ prefL v H k A = xs) ∨
  (m = .bool false ∧ ((∃ O', J xs O' wr) ∨ Jx wr))

set_option maxHeartbeats 2000000 in
set_option maxRecDepth 10000 in
theorem iter_prefixes (s : SpanZ) (gs : Nat) (W : World) (hs : SixS s) (hb : SBlk W gs s) :
    IterAt Try.prog 47 #[.pointer (some ⟨gs, 0, none⟩)] (encP s.v) (prefS s) (fun k => k = gs) W := by
  intro nn m l J Jx O hJ hlt hY h0 hc
  refine callsIn_wide.2 ?_
  have HS := Lib.hid hs
  have GB : Hid (Blk W gs 30 (scells s)) := Lib.hid hb
  have HJ := Lib.hid hJ
  have HL := Lib.hid hlt
  have HY := Lib.hid hY
  have HC : Hid (¬ O gs) := Lib.hid (hc gs rfl)
  have nB : Hid (¬ O W.heap.size) := Lib.hid (fun h => Nat.lt_irrefl _ (hlt _ _ _ h0 _ h))
  have SA := Lib.hid (Try.sizeS hs)
  have ZA : Hid ((scells zeroS).size = (scells s).size) := Lib.hid (by rw [scells_size hs, scells_size zeroS_six])
  have OA := Lib.hid (scells_one s)
  have AZ : Hid (Blk (W.alloc (.cells (scells zeroS) 30)) W.heap.size 30 (scells zeroS)) := Lib.hid (Blk.new _ _ _)
  have B2 : Hid (SBlk (W.alloc (.cells (scells s) 30)) W.heap.size s) := Lib.hid (sbox W s)
  have G2 : Hid (Blk (W.alloc (.cells (scells s) 30)) gs 30 (scells s)) := Lib.hid (Blk.alloc hb _)
  have J2 : Hid (J [] O (W.alloc (.cells (scells s) 30))) := Lib.hid (hJ _ _ _ _ h0 (Kept.of_below (box_below _ _)))
  have NG : Hid (W.heap.size ≠ gs) := Lib.hid (fun e => by have := Blk.lt hb; omega)
  have C1 := Lib.hid (fun W => sright_any s W hs)
  clear hb hJ hlt hY h0 hc
  generalize hF : scells s = F at *
  have HF := Lib.hid hF
  clear hF
  go_enter Try.func47, Try.ntmps47
  go_upto_region 1 with (first
    | (refine wpList_load_row rfl 30 (.tmp 1) rfl gs rfl 30 F (0, 0) _ GB.out Try.underlying30 rfl SA.out ?_)
    | (refine Great.wpList_allocTo rfl (some 3) rfl (.pointer (some ⟨W.heap.size, 0, none⟩)) (.cells (scells zeroS) 30) (alloc_span_run rfl) ?_)
    | (refine wpList_store_rowTo rfl 30 (.tmp 3) (.tmp 7) rfl rfl W.heap.size F rfl rfl 30 (scells zeroS) AZ.out SA.out ZA.out OA.out ?_; rw [alloc_setRow]))
  clear GB AZ ZA OA
  generalize W.alloc (.cells F 30) = W2 at *
  generalize W.heap.size = B at *
  generalize hz : rightZ s.v s.lo s.hi = z at *
  have HZ := Lib.hid hz
  clear hz
  go_wp2_with (first
    | (refine wpList_load_row rfl 30 (.tmp 1) rfl gs rfl 30 F (0, 0) _ G2.out Try.underlying30 rfl SA.out ?_)
    | (go_at_call 15
       refine (C1.out _).mono ?_
       rintro r W3 ⟨rfl, hb3⟩
       have B3 := Lib.hid (B2.out.loBelow hb3)
       have G3 := Lib.hid (show SBlk W3 gs s from by unfold SBlk; rw [HF.out]; exact G2.out.below hb3 G2.out.lt)
       have J3 := Lib.hid (HJ.out _ _ _ _ J2.out (Kept.of_below hb3))
       clear hb3 B2 G2 J2 C1))
  go_loopg [5] (lineZ s.v s.hi - lineZ s.v s.lo + 1) (fun k mV wr => PrefAt s.v s.hi s (prefS s) J Jx B gs k mV wr)
  case atStart =>
    cases z with
    | true =>
      have ok : SpanOk ⟨s.v, s.lo, s.hi⟩ := ⟨HS.out.1, HS.out.2, HZ.out⟩
      refine .inl ⟨rfl, [], O, s.lo, J3.out, nB.out, HC.out, B3.out, G3.out, ok, by omega, ?_⟩
      unfold prefS
      rw [if_pos (show rightS s = true from HZ.out)]
      rfl
    | false =>
      refine .inr ⟨rfl, .inl ⟨O, ?_⟩⟩
      unfold prefS
      rw [if_neg (by show ¬ rightS s = true; unfold rightS; rw [HZ.out]; simp)]
      exact J3.out
  case round =>
    have HR := Lib.hid hrel
    clear hrel J3 B3 G3 nB HC
    rcases HR.out with ⟨rfl, pre, O', A, hj, no, ng, hbx, hgx, hok, hk, hp⟩ | ⟨rfl, hd⟩
    · clear HR
      have hle := ok_line hok
      obtain ⟨f, rfl⟩ : ∃ f, gk = f + 1 := ⟨gk - 1, by have : lineZ s.v A ≤ lineZ s.v s.hi := hle; omega⟩
      have J5 := Lib.hid hj
      have N5 := Lib.hid no
      have M5 := Lib.hid ng
      have B5 := Lib.hid hbx
      have G5 := Lib.hid hgx
      have OK := Lib.hid hok
      have KL := Lib.hid hk
      have s6 : SixS ⟨s.v, A, s.hi⟩ := ⟨hok.1, hok.2.1⟩
      obtain ⟨lr, lh⟩ := len_ok hok
      have RO := Lib.hid (fun h => rest_ok hok h)
      have HP : Hid (pre ++ ((A, (lenL s.v A s.hi : Int)) :: if hiA s.v A (lenL s.v A s.hi : Int) = s.hi then [] else prefL s.v s.hi f (nextA s.v (hiA s.v A (lenL s.v A s.hi : Int)))) = prefS s) := Lib.hid hp
      have C2 : Hid (∀ W, Calls Try.prog 49 #[.agg (scells ⟨s.v, A, s.hi⟩)] W fun e w' => e = .returned (.agg (pcells s.v A (lenL s.v A s.hi : Int))) ∧ Below W.heap.size W w') := Lib.hid (fun W => largest_any ⟨s.v, A, s.hi⟩ W s6)
      have l128 : (lenL s.v A s.hi : Int) ≤ 128 := by
        have := (right_is s.v A _).1 lr
        have := most_le s.v
        have h3 : ((lenL (⟨s.v, A, s.hi⟩ : SpanZ).v (⟨s.v, A, s.hi⟩ : SpanZ).lo (⟨s.v, A, s.hi⟩ : SpanZ).hi : Nat) : Int) = (lenL s.v A s.hi : Int) := rfl
        omega
      have CA := Lib.hid (fun (W : World) (hg : SBlk W B ⟨s.v, A, s.hi⟩) (hgs : SBlk W gs s) => advance_any s.v A (lenL s.v A s.hi : Int) B gs A s.hi s.lo W hok.1 (by omega) (by omega) hok.1 hok.2.1 HS.out.1 lr hg hgs NG.out)
      have SB := Lib.hid (Try.sizeS s6)
      have SP := Lib.hid (Try.sizeP (v := s.v) (L := (lenL s.v A s.hi : Int)) hok.1.1)
      have ZE : Hid (ZP.size = (pcells s.v A (lenL s.v A s.hi : Int)).size) := Lib.hid (by rw [pcells_size hok.1.1]; rfl)
      have P1 := Lib.hid (pcells_one s.v A (lenL s.v A s.hi : Int))
      have PX : Hid (pre ++ [(A, (lenL s.v A s.hi : Int))] <+: prefS s) := Lib.hid ⟨_, by rw [← HP.out, List.append_assoc]; rfl⟩
      have Y5 := Lib.hid (HY.out pre (A, (lenL s.v A s.hi : Int)) O')
      have E5 : Hid (encP s.v (A, (lenL s.v A s.hi : Int)) = #[.agg (pcells s.v A (lenL s.v A s.hi : Int))]) := Lib.hid rfl
      rw [E5.out] at Y5
      clear hj no ng hbx hgx hok hk hp hle s6 lr lh l128 E5
      generalize hpc : pcells s.v A (lenL s.v A s.hi : Int) = PC at *
      clear hpc
      have X5 : Hid (Blk wr B 30 (scells ⟨s.v, A, s.hi⟩)) := B5
      generalize hft : scells ⟨s.v, A, s.hi⟩ = FT at *
      have HFT := Lib.hid hft
      clear hft
      go_upto_region 5 with (first
        | (refine wpList_load_row rfl 30 (.tmp 3) rfl B rfl 30 FT (0, 0) _ X5.out Try.underlying30 rfl SB.out ?_)
        | (go_at_call 49
           refine (C2.out _).mono ?_
           rintro r w5 ⟨rfl, hb5⟩
           have B6 := Lib.hid (B5.out.loBelow hb5)
           have G6 := Lib.hid (G5.out.loBelow hb5)
           have J6 := Lib.hid (HJ.out _ _ _ _ J5.out (Kept.of_below hb5))
           have AP : Hid (Blk (w5.alloc (.cells ZP 37)) w5.heap.size 37 ZP) := Lib.hid (Blk.new _ _ _)
           clear hb5 C2 B5 G5 J5 X5)
        | (refine Great.wpList_allocTo rfl (some 6) rfl (.pointer (some ⟨w5.heap.size, 0, none⟩)) (.cells ZP 37) (alloc_prefix_run rfl) ?_)
        | (refine wpList_store_rowTo rfl 37 (.tmp 6) (.tmp 13) rfl rfl w5.heap.size PC rfl rfl 37 ZP AP.out SP.out ZE.out P1.out ?_; rw [alloc_setRow]))
      have P7 : Hid (Blk (w5.alloc (.cells PC 37)) w5.heap.size 37 PC) := Lib.hid (Blk.new _ _ _)
      have B7 := Lib.hid (B6.out.loBelow (box_below w5 (.cells PC 37)))
      have G7 := Lib.hid (G6.out.loBelow (box_below w5 (.cells PC 37)))
      have J7 := Lib.hid (HJ.out _ _ _ _ J6.out (Kept.of_below (box_below w5 (.cells PC 37))))
      have NP : Hid (¬ O' w5.heap.size) := Lib.hid (fun h => Nat.lt_irrefl _ (HL.out _ _ _ J6.out _ h))
      clear AP B6 G6 J6
      generalize w5.alloc (.cells PC 37) = w7 at *
      generalize w5.heap.size = gp at *
      obtain ⟨fn, tmps, assign, body, hy, hR⟩ := Y5.out w7 J7.out PX.out
      have HR := Lib.hid hR
      clear hR Y5 PX
      have BL := Lib.hid B7.out.lt
      have GL := Lib.hid G7.out.lt
      have PL := Lib.hid P7.out.lt
      generalize hlN : (lenL s.v A s.hi : Int) = LN at *
      clear hlN
      refine (wpIn_wide (n := 3)).1 ?_
      gi_wp2_with (first
        | (refine in_load_row (fun _ => trivial) rfl 37 (.tmp 6) rfl gp rfl 37 PC _ P7.out Try.underlying37 rfl SP.out ?_))
      refine (round_any HR.out).mono ?_
      rintro e W8 (⟨rfl, hO⟩ | ⟨rfl, hx8⟩)
      · obtain ⟨O2, hj8, hk8, ho8⟩ := hO
        have nO2 : ∀ k, k < w7.heap.size → ¬ O' k → ¬ O2 k := fun k hk hn h => by
          rcases ho8 k h with h | h
          · exact hn h
          · omega
        have N8 : Hid (¬ O2 B) := Lib.hid (nO2 B BL.out N5.out)
        have M8 : Hid (¬ O2 gs) := Lib.hid (nO2 gs GL.out M5.out)
        have B8 : Hid (SBlk W8 B ⟨s.v, A, s.hi⟩) := Lib.hid ((hk8.block B BL.out N5.out).trans B7.out)
        have G8 : Hid (SBlk W8 gs s) := Lib.hid ((hk8.block gs GL.out M5.out).trans G7.out)
        have P8 : Hid (Blk W8 gp 37 PC) := Lib.hid ((hk8.block gp PL.out NP.out).trans P7.out)
        have J8 := Lib.hid hj8
        clear hj8 hk8 ho8 nO2 HR hy B7 G7 P7 J7 NP N5 M5 BL GL PL
        have dh : decide (hiA s.v A LN = s.hi) = decide (hiA s.v A LN = s.hi) := rfl
        have CB := Lib.hid (CA.out W8 B8.out G8.out)
        clear CA
        by_cases he : hiA s.v A LN = s.hi
        · have HE := Lib.hid he
          rw [decide_eq_true he] at CB
          rw [if_pos he] at HP
          clear dh he RO
          gi_wp2_with (first
            | (refine in_load_rowG (fun _ => trivial) rfl 37 (.tmp 6) rfl gp rfl 37 PC _ P8.out Try.underlying37 rfl SP.out ?_)
            | (refine ⟨trivial, ?_⟩
               refine (callsIn_wide.2 CB.out).mono ?_
               rintro r W9 ⟨rfl, hg9, hk9⟩
               have G9 := Lib.hid hg9
               have K9 := Lib.hid hk9
               clear hg9 hk9 CB))
          go_wp2_with fail
          go_roundg f
          case measure => omega
          case rel =>
            refine .inr ⟨rfl, .inl ⟨O2, ?_⟩⟩
            rw [← HP.out]
            exact HJ.out _ _ _ _ J8.out (K9.out.fewer (fun k hk e => N8.out (e ▸ hk)))
        · have RO2 := Lib.hid (RO.out he)
          rw [decide_eq_false he] at CB
          rw [if_neg he] at HP
          clear dh he RO
          gi_wp2_with (first
            | (refine in_load_rowG (fun _ => trivial) rfl 37 (.tmp 6) rfl gp rfl 37 PC _ P8.out Try.underlying37 rfl SP.out ?_)
            | (refine ⟨trivial, ?_⟩
               refine (callsIn_wide.2 CB.out).mono ?_
               rintro r W9 ⟨rfl, hg9, hk9⟩
               have G9 := Lib.hid hg9
               have K9 := Lib.hid hk9
               clear hg9 hk9 CB))
          go_wp2_with fail
          go_roundg f
          case measure => omega
          case rel =>
            obtain ⟨ok2, e2, l2⟩ := RO2.out
            have kl := KL.out
            refine .inl ⟨rfl, pre ++ [(A, LN)], O2, nextA s.v (hiA s.v A LN), ?_, N8.out, M8.out, G9.out, ?_, ok2, by omega, ?_⟩
            · exact HJ.out _ _ _ _ J8.out (K9.out.fewer (fun k hk e => N8.out (e ▸ hk)))
            · exact (K9.out.block gs G8.out.lt (fun e => NG.out e.symm)).trans G8.out
            · rw [← HP.out, List.append_assoc]
              rfl
      · have X8 := Lib.hid hx8
        clear hx8 HR hy B7 G7 P7 J7 NP N5 M5 BL GL PL CA RO
        gi_wp2_with fail
        refine ⟨fun _ h => (by cases h), ?_⟩
        gi_wp2
        go_wp2_with fail
        go_roundg f
        case measure => omega
        case rel => exact .inr ⟨rfl, .inr X8.out⟩
    · clear HR
      have HD := Lib.hid hd
      clear hd
      go_wp2_with fail
      go_end0
      exact ⟨⟨_, rfl⟩, HD.out⟩

end Go.Proofs.Yteddeebhfnpchaa

namespace Go.Proofs.Yteddeebhfnpchaa
open Go.RowKit
set_option linter.unusedVariables false

/-- A prefix. -/
structure PfZ where
  v : Bool
  a : List Int
  l : Int
def qcells (p : PfZ) : Array Value := pcells p.v p.a p.l
def SixQ (p : PfZ) : Prop := Sixteen p.a
def zeroQ : PfZ := ⟨false, List.replicate 16 0, 0⟩
theorem zeroQ_six : SixQ zeroQ := ⟨rfl, fun x hx => by rw [(List.mem_replicate.1 hx).2]; omega⟩
theorem qcells_size {p : PfZ} (h : SixQ p) : (qcells p).size = 18 := pcells_size h.1
theorem qcells_one (p : PfZ) : (qcells p).all (·.oneCell') = true := pcells_one _ _ _
def qcL (s : PfZ) : List Value := Value.bool s.v :: (acells s.a ++ [.int .i64 s.l])
theorem qcells_len {p : PfZ} (h : SixQ p) : (qcL p).length = 18 := by simp [qcL, acells_len h.1]
theorem qcL_len {s : PfZ} (h : SixQ s) : (qcL s).length = 18 := qcells_len h
theorem qcL_arr (s : PfZ) : (qcL s).toArray = qcells s := rfl
/-- The cells of several spans. -/
def flatQ (L : List PfZ) : List Value := L.flatMap qcL
def SixM (L : List PfZ) : Prop := ∀ s ∈ L, SixQ s
theorem flatQ_len : ∀ {L : List PfZ}, SixM L → (flatQ L).length = L.length * 18
  | [], _ => rfl
  | s :: r, h => by
    show (qcL s ++ flatQ r).length = _
    rw [List.length_append, qcL_len (h s (by simp)), flatQ_len (fun x hx => h x (by simp [hx])), List.length_cons]
    omega
theorem flatQ_app (L M : List PfZ) : flatQ (L ++ M) = flatQ L ++ flatQ M := List.flatMap_append
theorem flatQ_at : ∀ {L : List PfZ} (_ : SixM L) (j i : Nat) (hj : j < L.length), i < 18 → (flatQ L)[j * 18 + i]? = (qcL (L[j]))[i]?
  | [], _, j, i, hj, _ => absurd hj (by simp)
  | s :: r, h, 0, i, hj, hi => by
    show (qcL s ++ flatQ r)[0 * 18 + i]? = _
    rw [List.getElem?_append_left (by rw [qcL_len (h s (by simp))]; omega), Nat.zero_mul, Nat.zero_add]
    rfl
  | s :: r, h, j + 1, i, hj, hi => by
    show (qcL s ++ flatQ r)[(j + 1) * 18 + i]? = _
    have l := qcL_len (h s (by simp))
    rw [List.getElem?_append_right (by rw [l]; omega), l, show (j + 1) * 18 + i - 18 = j * 18 + i by omega, flatQ_at (fun x hx => h x (by simp [hx])) j i (by simpa using hj) hi]
    rfl
theorem flatQ_one (L : List PfZ) : ∀ u ∈ flatQ L, u.oneCell' = true := by
  intro u hu
  obtain ⟨s, _, hs⟩ := List.mem_flatMap.1 hu
  exact (Array.all_eq_true_iff_forall_mem.1 (qcells_one s)) u (by rw [← qcL_arr]; exact List.mem_toArray.2 hs)
theorem flatQ_take : ∀ {L : List PfZ} (_ : SixM L) (k : Nat), k ≤ L.length → flatQ (L.take k) = (flatQ L).take (k * 18)
  | [], _, k, hk => by
    obtain rfl : k = 0 := by simpa using hk
    rfl
  | s :: r, h, 0, hk => by simp [flatQ]
  | s :: r, h, k + 1, hk => by
    have l := qcL_len (h s (by simp))
    show qcL s ++ flatQ (r.take k) = (qcL s ++ flatQ r).take ((k + 1) * 18)
    rw [flatQ_take (fun x hx => h x (by simp [hx])) k (by simpa using hk), List.take_append, l, List.take_of_length_le (l := qcL s) (by rw [l]; omega), show (k + 1) * 18 - 18 = k * 18 by omega]

/-- A slice value with n elements reads as these spans; where there is an element, it lies in a block of this world. -/
def PfRow (w : World) (a : Option Addr) (n : Nat) (L : List PfZ) : Prop :=
  L.length = n ∧ SixM L ∧ (0 < n → ∃ b off, a = some ⟨b, off, none⟩ ∧ b < w.heap.size ∧ ∀ i, i < n * 18 → w.cell? ⟨b, off + i, none⟩ = (flatQ L)[i]?)
theorem PfRow.below {w w' : World} {a : Option Addr} {n : Nat} {L : List PfZ} (h : PfRow w a n L) (hb : Below w.heap.size w w') : PfRow w' a n L := by
  refine ⟨h.1, h.2.1, fun hn => ?_⟩
  obtain ⟨b, off, e, hlt, hc⟩ := h.2.2 hn
  exact ⟨b, off, e, Nat.lt_of_lt_of_le hlt hb.size, fun i hi => (hb.cell (p := ⟨b, off + i, none⟩) hlt).trans (hc i hi)⟩
/-- One of them. -/
theorem PfRow.range {w : World} {b off n : Nat} {L : List PfZ} (h : PfRow w (some ⟨b, off, none⟩) n L) (j : Nat) (hj : j < L.length) : w.rangeAt b (off + j * 18) (qcL L[j]) := by
  intro i v hv
  obtain ⟨b', off', e, _, hc⟩ := h.2.2 (by have := h.1; omega)
  injection e with e
  injection e with e1 e2
  subst e1 e2
  have s6 := h.2.1 _ (List.getElem_mem hj)
  have hi : i < 18 := by
    have := (List.getElem?_eq_some_iff.1 hv).1
    rwa [qcL_len s6] at this
  rw [Nat.add_assoc, hc (j * 18 + i) (by have := h.1; omega), flatQ_at h.2.1 j i hj hi]
  exact hv
theorem PfRow.form {w : World} {a : Option Addr} {n : Nat} {L : List PfZ} (h : PfRow w a n L) (h0 : 0 < n) : ∃ b off, a = some ⟨b, off, none⟩ ∧ b < w.heap.size := by
  obtain ⟨b, off, e, hlt, _⟩ := h.2.2 h0
  exact ⟨b, off, e, hlt⟩
theorem PfRow.nil (w : World) (a : Option Addr) : PfRow w a 0 [] := ⟨rfl, fun _ h => absurd h (by simp), fun h => absurd h (by omega)⟩
/-- What stands behind the first k. -/
theorem PfRow.rest {w : World} {b off n : Nat} {L : List PfZ} (h : PfRow w (some ⟨b, off, none⟩) n L) (k : Nat) (hk : k ≤ n) : PfRow w (some ⟨b, off + k * 18, none⟩) (n - k) (L.drop k) := by
  have hl := h.1
  refine ⟨by rw [List.length_drop]; omega, fun s hs => h.2.1 s (List.mem_of_mem_drop hs), fun h0 => ?_⟩
  obtain ⟨b', off', e, hb, hc⟩ := h.2.2 (by omega)
  injection e with e
  injection e with e1 e2
  subst e1 e2
  refine ⟨_, _, rfl, hb, fun i hi => ?_⟩
  have e : flatQ L = (flatQ (L.take k)) ++ flatQ (L.drop k) := by rw [← flatQ_app, List.take_append_drop]
  have l : (flatQ (L.take k)).length = k * 18 := by rw [flatQ_take h.2.1 k (by omega), List.length_take, flatQ_len h.2.1]; omega
  rw [Nat.add_assoc, hc (k * 18 + i) (by omega), e, List.getElem?_append_right (by rw [l]; omega), l, show k * 18 + i - k * 18 = i by omega]

theorem Try.infoPf : (Try.prog.info? 37).map (fun i => (i.zero, i.size, i.bytes)) = some (some (.agg (qcells zeroQ)), 18, 32) := by kernel_rfl

/-- The slice V is the call's own, in memory newer than W0, and reads as these spans. -/
def PfOut (W0 wr : World) (V : Value) (L : List PfZ) : Prop := wr.ownsRow W0.heap.size 37 18 V L.length (flatQ L) ∧ Below W0.heap.size W0 wr ∧ SixM L
theorem PfOut.below {W0 wr w' : World} {V : Value} {L : List PfZ} (h : PfOut W0 wr V L) (hb : Below wr.heap.size wr w') : PfOut W0 w' V L := by
  refine ⟨⟨h.1.1, ?_⟩, Below.step h.2.1 hb, h.2.2⟩
  rcases h.1.2 with h' | ⟨g, cap, cur, e, h1, h2, h3⟩
  · exact .inl h'
  · exact .inr ⟨g, cap, cur, e, h1, (hb.block g (Array.getElem?_eq_some_iff.1 h2).1).trans h2, h3⟩
theorem PfOut.alloc {W0 wr : World} {V : Value} {L : List PfZ} (h : PfOut W0 wr V L) (o : Obj) : PfOut W0 (wr.alloc o) V L := h.below (box_below _ _)
theorem PfOut.wider {w W0 wr : World} {V : Value} {L : List PfZ} (h : PfOut W0 wr V L) (hb : Below w.heap.size w W0) : PfOut w wr V L := by
  refine ⟨⟨h.1.1, ?_⟩, Below.step hb h.2.1, h.2.2⟩
  rcases h.1.2 with h' | ⟨g, cap, cur, e, h1, h2⟩
  · exact .inl h'
  · exact .inr ⟨g, cap, cur, e, Nat.le_trans hb.size h1, h2⟩
theorem PfOut.start (w : World) : PfOut w w (.slice none 0 0) [] := ⟨World.ownsRow_nil _ _ _ _, Below.refl _ _, fun _ h => absurd h (by simp)⟩
theorem PfOut.row {W0 wr : World} {V : Value} {L : List PfZ} (h : PfOut W0 wr V L) : ∃ a c, V = .slice a L.length c ∧ PfRow wr a L.length L ∧ (a = none → L = [] ∧ c = 0) := by
  rcases h.1.2 with ⟨rfl, h0⟩ | ⟨g, cap, cur, rfl, h1, h2, h3⟩
  · have : L = [] := List.eq_nil_of_length_eq_zero h0
    subst this
    exact ⟨none, 0, rfl, PfRow.nil _ _, fun _ => ⟨rfl, rfl⟩⟩
  · refine ⟨_, cap, rfl, ⟨rfl, h.2.2, fun hn => ⟨g, 0, rfl, (h.1.lt g rfl).2, fun i hi => ?_⟩⟩, fun e => by cases e⟩
    rw [Nat.zero_add, h.1.cellAt i hi]
/-- Its form, where it has a block. -/
theorem PfOut.form {W0 wr : World} {V : Value} {L : List PfZ} (h : PfOut W0 wr V L) : (V = .slice none 0 0 ∧ L = []) ∨ ∃ g cap, V = .slice (some ⟨g, 0, none⟩) L.length cap ∧ W0.heap.size ≤ g ∧ g < wr.heap.size ∧ L.length ≤ cap := by
  rcases h.1.2 with ⟨rfl, h0⟩ | ⟨g, cap, cur, rfl, h1, h2, h3, _⟩
  · exact .inl ⟨rfl, List.eq_nil_of_length_eq_zero h0⟩
  · exact .inr ⟨g, cap, rfl, h1, (h.1.lt g rfl).2, h3⟩

/-- Spans are appended. -/
theorem pf_append {ops : Array Oper} {rest : List Oper} {o : Oper} {a : Act} {Q : Exit → Act → World → Prop} {W0 w : World} {V : Value} {L zs : List PfZ} {A : Option Addr} {m c : Nat} (hgd : o.guard = none) (s x : Operand)
    (hop : o.op = .call { callee := .builtin .append, args := #[s, x], argTypes := #[42, 42] }) (hs : a.eval s = V) (hout : PfOut W0 w V L) (hx : a.eval x = .slice A m c) (hr : PfRow w A m zs) (hA : A = none → m = 0 ∧ c = 0) (hl : L.length + m ≤ 100000)
    (h : ∀ V' w', PfOut W0 w' V' (L ++ zs) → wpList Try.prog ops Q rest (a.put o.dst V') w') : wpList Try.prog ops Q (o :: rest) a w := by
  obtain ⟨i0, hi5, hz0, hz1, hz2⟩ := info_parts Try.infoPf
  cases A with
  | none =>
    obtain ⟨rfl, rfl⟩ := hA rfl
    obtain rfl : zs = [] := List.eq_nil_of_length_eq_zero hr.1
    refine wpList_append_own_none hgd s x 42 hop W0.heap.size 37 i0 18 Try.underlying42 hi5 V L.length _ hs hout.1 hx ?_
    have := h V w (by simpa using hout)
    exact this
  | some ad =>
    have hcl : (flatQ zs).length = m * 18 := by rw [flatQ_len hr.2.1, hr.1]
    refine wpList_append_own _ hgd s x 42 hop W0.heap.size 37 i0 (.agg (qcells zeroQ)) 18 32 Try.underlying42 hi5 hz0 hz1 hz2 (qcells_size zeroQ_six) (by decide) V L.length (flatQ L) hs hout.1 ad m c (flatQ zs) hx hcl ?_ (flatQ_one zs) (by unfold maxLen; omega) (by omega) hout.2.1.size ?_
    · intro j u hu
      have hj : j < m * 18 := by
        have := (List.getElem?_eq_some_iff.1 hu).1
        omega
      obtain ⟨b, off, e, _, hc⟩ := hr.2.2 (by omega)
      injection e with e
      subst e
      rw [Addr.add_lit, hc j hj]
      exact hu
    · intro V' w' hown hg _
      refine h V' w' ⟨?_, hout.2.1.grown hg hout.2.1.size (fun k hk => (hout.1.lt k hk).1), fun z hz => ?_⟩
      · rw [List.length_append, hr.1, flatQ_app]
        exact hown
      · rcases List.mem_append.1 hz with hz | hz
        · exact hout.2.2 z hz
        · exact hr.2.1 z hz

end Go.Proofs.Yteddeebhfnpchaa
