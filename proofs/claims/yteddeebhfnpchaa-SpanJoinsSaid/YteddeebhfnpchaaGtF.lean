/-
  Merged texts: SrK, SrL, Shelf, SqK, SqL, SrN, SrO.
-/
import Derived.Test.YteddeebhfnpchaaGtE
import Derived.Maps.AppendAt
import Derived.RangeFuncBox
import Derived.Shelf.SlSortCmp.WholeK
import Derived.Ground.SlsfProg
import Derived.Shelf.SlGeneric
import Derived.Test.YteddeebhfnpchaaProg
import Derived.Test.YteddeebhfnpchaaGtD
import Derived.Shelf.SlSortCmp.NoneTotal
namespace Go.Proofs.Yteddeebhfnpchaa
open Go.RowKit
attribute [local go_sem] Oper.semAt_some
set_option linter.unusedVariables false

theorem built_pf (p : PfZ) (h : SixQ p) : Try.prog.builtSlice 37 1 [(0, .agg (qcells p))] = some (qcells p) := by
  obtain ⟨v, A, L⟩ := p
  obtain ⟨a0, a1, a2, a3, a4, a5, a6, a7, a8, a9, a10, a11, a12, a13, a14, a15, rfl⟩ := sixteen_parts h.1
  kernel_rfl

/-- A prefix is appended in a round. -/
theorem pf_append_in {F : Fence} {nn : Nat} {ops : Array Oper} {rest : List Oper} {o : Oper} {a : Act} {Q : Exit → Act → World → Prop} {w : World} (hgd : o.guard = none) (s x : Operand)
    (hop : o.op = .call { callee := .builtin .append, args := #[s, x], argTypes := #[42, 42] }) (N : Nat) (hN : N ≤ w.heap.size) (V : Value) (L : List PfZ) (hs : a.eval s = V) (hown : w.ownsRow N 37 18 V L.length (flatQ L))
    (g : Nat) (p : PfZ) (hp : SixQ p) (hx : a.eval x = .slice (some ⟨g, 0, none⟩) 1 1) (hb : Blk w g 37 (qcells p)) (hl : L.length ≤ 100000)
    (h : ∀ g' cap w', w'.ownsRow N 37 18 (.slice (some ⟨g', 0, none⟩) (L.length + 1) cap) (L ++ [p]).length (flatQ (L ++ [p])) → w.grownBy w' V.ownBlock → (V.ownBlock = some g' ∨ g' = w.heap.size) → N ≤ g' →
      wpListIn F nn Try.prog ops Q rest (a.put o.dst (.slice (some ⟨g', 0, none⟩) (L.length + 1) cap)) w') : wpListIn F nn Try.prog ops Q (o :: rest) a w := by
  obtain ⟨i0, hi5, hz0, hz1, hz2⟩ := info_parts Try.infoPf
  have hn : (qcL p).length = 1 * 18 := by rw [qcells_len hp]
  have hc : ∀ j u, (qcL p)[j]? = some u → w.cell? ((⟨g, 0, none⟩ : Addr).add j) = some u := by
    intro j u hj
    rw [Addr.add_lit, Nat.zero_add, hb.cell j]
    rw [← qcL_arr, List.getElem?_toArray]
    exact hj
  have h1 : ∀ u ∈ qcL p, u.oneCell' = true := by
    intro u hu
    exact (Array.all_eq_true_iff_forall_mem.1 (qcells_one p)) u (by rw [← qcL_arr]; exact List.mem_toArray.2 hu)
  refine wpListIn_plain hgd fun K hK' => ?_
  obtain ⟨v', w', hrun, r1, r2, r3, r4⟩ := run_append_own_at (P := Try.prog) w N 42 o.type 37 i0 (.agg (qcells zeroQ)) 18 32 Try.underlying42 hi5 hz0 hz1 hz2 (qcells_size zeroQ_six) (by decide) V L.length (flatQ L) hown ⟨g, 0, none⟩ 1 1 (qcL p) hn hc h1 (by unfold maxLen; omega) (by omega) hN
  unfold Oper.wpIn
  refine ⟨?_, ?_⟩
  · simp [Oper.about, hop, resolve, Target.leads, Sem.run_pure]
  · rw [Oper.semAt_plain F _ _ (by rw [hop]; intro c hc'; cases hc')]
    simp [execOp, hop, resolve, invoke, builtin, hs, hx, hrun, Result.andThen]
    obtain ⟨g', cap, rfl⟩ := ownsRow_succ r1
    refine hK' _ _ (h g' cap w' ?_ r2 ?_ (r1.lt g' rfl).1)
    · rw [List.length_append, flatQ_app]
      show w'.ownsRow N _ 18 _ (L.length + 1) (flatQ L ++ flatQ [p])
      rw [show flatQ [p] = qcL p by show qcL p ++ [] = _; rw [List.append_nil]]
      exact r1
    · rcases r4 with r4 | r4
      · exact .inl r4.symm
      · injection r4 with r4
        exact .inr r4

theorem is_func : (match Try.prog.underlying 53 with | some (.func _ _ _) => true | _ => false) = true := by kernel_rfl
theorem func_eqIn {P : Program} (d : Nat) (ty : TypeId) (ps rs : Array TypeId) (va : Bool) (h : P.underlying ty = some (.func ps rs va)) (fn : Fn) (x y : Array Value) (w : World) : (Op.equalIn (d + 1) ty (.func fn x y) .nilFunc).run P w = .ok false w := by
  simp [Op.equalIn, run_underlying h]
theorem func_eq {P : Program} (ty : TypeId) (ps rs : Array TypeId) (va : Bool) (h : P.underlying ty = some (.func ps rs va)) (fn : Fn) (x y : Array Value) (w : World) : (Op.equal ty (.func fn x y) .nilFunc).run P w = .ok false w := func_eqIn 9999 ty ps rs va h fn x y w
theorem func_nil (fn : Fn) (x y : Array Value) (w : World) : (binOp .eql 53 (.func fn x y) .nilFunc).run Try.prog w = .ok (.bool false) w := by
  have e : (Op.equal 53 (.func fn x y) .nilFunc).run Try.prog w = .ok false w := by
    have h := is_func
    cases hu : Try.prog.underlying 53 with
    | none => rw [hu] at h; cases h
    | some d =>
      rw [hu] at h
      cases d <;> first | (cases h; done) | exact func_eq 53 _ _ _ hu fn x y w
  simp [binOp, go_sem, e]
/-- A span's prefixes as a row. -/
def rowP (v : Bool) (l : List (List Int × Int)) : List PfZ := l.map fun x => ⟨v, x.1, x.2⟩

def ToldI (v : Bool) (n : Nat) (m : Int) (w : World) (pre : List (List Int × Int)) (O : Nat → Prop) (W : World) : Prop :=
  ∃ V, (∀ k, O k ↔ k < n + 3 ∨ V.ownBlock = some k) ∧ Blk W (n + 2) 42 #[V] ∧ Blk W (n + 1) 3 #[.int .i64 m] ∧ W.ownsRow (n + 3) 37 18 V (rowP v pre).length (flatQ (rowP v pre)) ∧ Below n w W ∧ SixM (rowP v pre)

theorem Kept.row {O : Nat → Prop} {A B : World} {base : Nat} {e : TypeId} {size : Nat} {v : Value} {n : Nat} {xs : List Value} (h : Kept O A B) (hr : A.ownsRow base e size v n xs) (hO : ∀ k, v.ownBlock = some k → O k) : B.ownsRow base e size v n xs := by
  refine ⟨hr.1, ?_⟩
  rcases hr.2 with h' | ⟨g, cap, cur, e', h1, h2, h3⟩
  · exact .inl h'
  · exact .inr ⟨g, cap, cur, e', h1, (h.block g (Array.getElem?_eq_some_iff.1 h2).1 (hO g (by rw [e']; rfl))).trans h2, h3⟩
theorem own_lower {w : World} {base base' : Nat} {e : TypeId} {size : Nat} {v : Value} {n : Nat} {xs : List Value} (h : w.ownsRow base e size v n xs) (hb : base' ≤ base) : w.ownsRow base' e size v n xs := by
  refine ⟨h.1, ?_⟩
  rcases h.2 with h' | ⟨g, cap, cur, e', h1, h2⟩
  · exact .inl h'
  · exact .inr ⟨g, cap, cur, e', Nat.le_trans hb h1, h2⟩
theorem prefL_six (v : Bool) (H : List Int) : ∀ (k : Nat) (A : List Int), Sixteen A → ∀ x ∈ prefL v H k A, Sixteen x.1
  | 0, _, _, x, h => by cases h
  | k + 1, A, hA, x, h => by
    unfold prefL at h
    rcases List.mem_cons.1 h with rfl | h
    · exact hA
    · split at h
      · cases h
      · exact prefL_six v H k _ (next_ok _ _) x h
theorem prefS_six (s : SpanZ) (hs : SixS s) : ∀ x ∈ prefS s, Sixteen x.1 := by
  intro x h
  unfold prefS at h
  split at h
  · exact prefL_six _ _ _ _ hs.1 x h
  · cases h

set_option maxHeartbeats 2000000 in
set_option maxRecDepth 10000 in
theorem told_any (s : SpanZ) (m : Nat) (w : World) (hs : SixS s) (hm : (prefS s).length ≤ m) (hm2 : m ≤ 1000) :
    Calls Try.prog 20 #[.agg (scells s), .int .i64 (m : Int)] w fun e w' => ∃ V, e = .returned V ∧ PfOut w w' V (rowP s.v (prefS s)) := by
  have C2 := Lib.hid (fun W => prefixes_any s W)
  have IG := Lib.hid (fun W g (hb : SBlk W g s) => iter_prefixes s g W hs hb)
  have PS := Lib.hid (prefS_six s hs)
  have HM := Lib.hid hm
  have HM2 := Lib.hid hm2
  have SS := Lib.hid (Try.sizeS hs)
  obtain ⟨n, hn⟩ : ∃ n, w.heap.size = n := ⟨_, rfl⟩
  have SB : Hid (SBlk (((w.alloc (.cells (scells s) 30)).alloc (.cells #[.int .i64 (m : Int)] 3)).alloc (.cells #[.slice none 0 0] 42)) n s) := Lib.hid (by rw [← hn]; exact Blk.alloc (Blk.alloc (sbox w s) _) _)
  have MB : Hid (Blk (((w.alloc (.cells (scells s) 30)).alloc (.cells #[.int .i64 (m : Int)] 3)).alloc (.cells #[.slice none 0 0] 42)) (n + 1) 3 #[.int .i64 (m : Int)]) := Lib.hid (by
    have := Blk.new (w.alloc (.cells (scells s) 30)) 3 #[.int .i64 (m : Int)]
    rw [World.size_alloc, hn] at this
    exact this.alloc _)
  have OB : Hid (Blk (((w.alloc (.cells (scells s) 30)).alloc (.cells #[.int .i64 (m : Int)] 3)).alloc (.cells #[.slice none 0 0] 42)) (n + 2) 42 #[.slice none 0 0]) := Lib.hid (by
    have := Blk.new ((w.alloc (.cells (scells s) 30)).alloc (.cells #[.int .i64 (m : Int)] 3)) 42 #[.slice none 0 0]
    rwa [World.size_alloc, World.size_alloc, hn] at this)
  have UB : Hid (Below n w (((w.alloc (.cells (scells s) 30)).alloc (.cells #[.int .i64 (m : Int)] 3)).alloc (.cells #[.slice none 0 0] 42))) := Lib.hid (by
    rw [← hn]
    exact Below.step (Below.step (box_below w _) (box_below _ _)) (box_below _ _))
  have US : Hid ((((w.alloc (.cells (scells s) 30)).alloc (.cells #[.int .i64 (m : Int)] 3)).alloc (.cells #[.slice none 0 0] 42)).heap.size = n + 3) := Lib.hid (by simp [hn])
  refine (callsIn_wide (n := 3)).1 ?_
  refine callsIn_of_wp_marks Try.func20 rfl trivial ?_ rfl
  simp only [Try.ntmps20, List.size_toArray, List.length_cons, List.length_nil, Nat.reduceAdd, Nat.reduceSub, Array.replicate_succ, Array.replicate_zero, List.push_toArray, List.append_toArray, List.nil_append, List.cons_append]
  have X0 : Hid (Blk (((w.alloc (.cells (scells s) 30)).alloc (.cells #[.int .i64 (m : Int)] 3)).alloc (.cells #[.slice none 0 0] 42)) n 30 (scells s)) := SB
  generalize hF : scells s = F at *
  have HF := Lib.hid hF
  clear hF
  gi_wp2_with (first
    | (refine in_load_row (fun _ => trivial) rfl 30 (.tmp 2) rfl n rfl 30 F _ X0.out Try.underlying30 rfl SS.out ?_)
    | (refine ⟨trivial, ?_⟩
       refine (callsIn_wide.2 (C2.out _)).mono ?_
       rintro r w5 ⟨rfl, gb5, hb5⟩
       clear C2)
    | rw [func_nil])
  have O5 := Lib.hid (OB.out.below hb5 (by rw [US.out]; omega))
  have M5 := Lib.hid (MB.out.below hb5 (by rw [US.out]; omega))
  have U5 := Lib.hid (UB.out.trans (hb5.mono (by rw [US.out]; omega)))
  rw [US.out] at gb5
  have PB : Hid (n + 3 < w5.heap.size) := Lib.hid gb5.lt
  have G5 := Lib.hid gb5
  clear gb5 hb5 OB MB UB US SB X0
  refine wp_range (gf := 47) (lb := #[.pointer (some ⟨n + 3, 0, none⟩)]) rfl (enters_of Try.func47 (by kernel_rfl) rfl)
    (encs := encP s.v) (xs := prefS s) (Cap := fun k => k = n + 3)
    (fun W hb => IG.out W (n + 3) (Blk.below G5.out hb G5.out.lt)) (fun _ => rfl) (fun k hk => by rw [hk]; exact PB.out)
    (ToldI s.v n (m : Int) w) (fun c W => False)
    ?hI ?hlt ?hIx (fun k => k < n + 3) ?h0 ?hc0 ?hround ?hdone ?hstop
  case hI =>
    rintro pre O W1 W2 ⟨V, ho, h1, h2, h3, h4, h5⟩ hk
    exact ⟨V, ho, hk.blk h1 ((ho _).2 (.inl (by omega))), hk.blk h2 ((ho _).2 (.inl (by omega))), hk.row h3 (fun k hk => (ho k).2 (.inr hk)), hk.below h4 (by omega) (fun k hk => (ho k).2 (.inl (by omega))), h5⟩
  case hlt =>
    rintro pre O W1 ⟨V, ho, h1, h2, h3, h4, h5⟩ k hk
    rcases (ho k).1 hk with h | h
    · have := h1.lt
      omega
    · exact (h3.lt k h).2
  case hIx => exact fun _ _ _ h _ => h
  case h0 => exact ⟨.slice none 0 0, fun k => ⟨.inl, fun h => by rcases h with h | h; exact h; cases h⟩, O5.out, M5.out, World.ownsRow_nil _ _ _ _, U5.out, fun _ h => absurd h (by simp [rowP])⟩
  case hc0 =>
    intro k hk h
    omega
  case hround =>
    rintro l pre x O W rfl ⟨V, ho, h1, h2, h3, h4, h5⟩ hnl hpre hsz
    have x6 : SixQ ⟨s.v, x.1, x.2⟩ := PS.out x (by obtain ⟨r, hr⟩ := hpre; rw [← hr]; simp)
    have X6 := Lib.hid x6
    have PL : Hid (pre.length < m) := Lib.hid (by
      obtain ⟨r, hr⟩ := hpre
      have := HM.out
      rw [← hr] at this
      simp at this
      omega)
    have RL : Hid ((rowP s.v pre).length = pre.length) := Lib.hid (by simp [rowP])
    have RA : Hid (rowP s.v pre ++ [⟨s.v, x.1, x.2⟩] = rowP s.v (pre ++ [x])) := Lib.hid (by simp [rowP])
    have HO := Lib.hid ho
    have O3 := Lib.hid h1
    have M3 := Lib.hid h2
    have R3 := Lib.hid h3
    have B3 := Lib.hid h4
    have S3 := Lib.hid h5
    have SPi := Lib.hid (Try.sizeP (v := s.v) (A := x.1) (L := x.2) x6.1)
    have ZPi : Hid (ZP.size = (pcells s.v x.1 x.2).size) := Lib.hid (by rw [pcells_size x6.1]; rfl)
    have PPi := Lib.hid (pcells_one s.v x.1 x.2)
    have BP : Hid (Try.prog.builtSlice 37 1 [(0, .agg (pcells s.v x.1 x.2))] = some (pcells s.v x.1 x.2)) := Lib.hid (built_pf ⟨s.v, x.1, x.2⟩ x6)
    have AZ : Hid (Blk (W.alloc (.cells ZP 37)) W.heap.size 37 ZP) := Lib.hid (Blk.new _ _ _)
    have T1 : Hid (Blk (W.alloc (.cells (pcells s.v x.1 x.2) 37)) W.heap.size 37 (pcells s.v x.1 x.2)) := Lib.hid (Blk.new _ _ _)
    clear h1 h2 h3 h4 h5 ho hpre x6
    unfold encP
    have QP : Hid (qcells ⟨s.v, x.1, x.2⟩ = pcells s.v x.1 x.2) := Lib.hid rfl
    generalize hpi : pcells s.v x.1 x.2 = PI at *
    clear hpi
    obtain ⟨gx, hgx0⟩ : ∃ gx, W.heap.size = gx := ⟨_, rfl⟩
    have HGX := Lib.hid hgx0
    clear hgx0
    rw [zip_one]
    simp only [List.setIfInBounds_toArray, List.set_cons_zero, List.set_cons_succ]
    refine wpIn_region_lit ?_
    refine in_alloc (fun _ => trivial) rfl (by intro c hc; cases hc) (some 7) rfl (.pointer (some ⟨W.heap.size, 0, none⟩)) (.cells ZP 37) rfl ?_
    refine in_store_row (fun _ => trivial) rfl 37 (.tmp 7) (.tmp 13) rfl rfl W.heap.size PI rfl rfl 37 ZP AZ.out SPi.out ZPi.out PPi.out ?_
    rw [alloc_setRow]
    refine wpListIn_nil ?_
    have hgx := HGX.out
    refine ⟨Kept.of_below (box_below _ _), fun W2 hk2 hs2 => ?_⟩
    have nl : ∀ k, O k → k ≠ w5.heap.size + 1 := fun k hk e => hnl (e ▸ hk)
    have kO : Kept O W W2 := (Kept.of_below (box_below W (.cells PI 37))).trans (hk2.fewer nl)
    have O4 : Hid (Blk W2 (n + 2) 42 #[V]) := Lib.hid (kO.blk O3.out ((HO.out _).2 (.inl (by omega))))
    have M4 : Hid (Blk W2 (n + 1) 3 #[.int .i64 (m : Int)]) := Lib.hid (kO.blk M3.out ((HO.out _).2 (.inl (by omega))))
    have R4 := Lib.hid (kO.row R3.out (fun k hk => (HO.out k).2 (.inr hk)))
    have B4 := Lib.hid (kO.below B3.out (by omega) (fun k hk => (HO.out k).2 (.inl (by omega))))
    have T4 := Lib.hid (hk2.blk T1.out (by omega))
    have WS : Hid (n + 3 ≤ W2.heap.size ∧ W.heap.size ≤ W2.heap.size) := Lib.hid (by
      have := PB.out
      rw [hs2]
      simp
      omega)
    clear hk2 kO O3 M3 R3 B3 T1 AZ nl hs2
    rw [hgx] at T4 ⊢
    clear hgx
    simp only [List.setIfInBounds_toArray, List.set_cons_zero, List.set_cons_succ, Act.put]
    have OC : W2.cell? ⟨n + 2, 0, none⟩ = some V := (O4.out.cell 0)
    have MC : W2.cell? ⟨n + 1, 0, none⟩ = some (.int .i64 (m : Int)) := (M4.out.cell 0)
    obtain ⟨V0, c0, hV⟩ : ∃ a c, V = .slice a (rowP s.v pre).length c := by
      rcases R4.out.2 with ⟨rfl, h0⟩ | ⟨g, cap, cur, rfl, _⟩
      · exact ⟨none, 0, by rw [h0]⟩
      · exact ⟨_, _, rfl⟩
    have LE : Hid (((rowP s.v pre).length : Int) ≠ (m : Int)) := Lib.hid (by have := RL.out; have := PL.out; omega)
    have dl : (((rowP s.v pre).length : Int) == (m : Int)) = false := beq_eq_false_iff_ne.2 LE.out
    subst hV
    have AB : Hid (Blk (W2.alloc (.cells PI 37)) W2.heap.size 37 (qcells ⟨s.v, x.1, x.2⟩)) := Lib.hid (by rw [QP.out]; exact Blk.new _ _ _)
    have RA4 := Lib.hid (R4.out.alloc (.cells PI 37))
    have RL2 : Hid ((rowP s.v pre).length ≤ 100000) := Lib.hid (by have := RL.out; have := PL.out; have := HM2.out; omega)
    gi_wp2_with (first
      | (refine in_load_row (fun _ => trivial) rfl 37 (.tmp 7) rfl gx rfl 37 PI _ T4.out Try.underlying37 rfl SPi.out ?_)
      | (refine in_buildSlice (fun _ => trivial) rfl 42 37 1 _ rfl W2.heap.size rfl (some 20) rfl Try.underlying42 PI _ BP.out (by kernel_rfl) ?_)
      | (refine pf_append_in rfl _ _ rfl (n + 3) (by have := WS.out; simp; omega) _ (rowP s.v pre) rfl RA4.out W2.heap.size ⟨s.v, x.1, x.2⟩ X6.out rfl AB.out RL2.out ?_
         intro g' cap w8 ho8 hg8 hr8 hn8
         have O8 : Hid (Blk w8 (n + 2) 42 #[.slice V0 (rowP s.v pre).length c0]) := Lib.hid ((hg8.block (n + 2) (by have := WS.out; simp; omega) (fun e => by have := (RA4.out.lt (n + 2) e.symm).1; omega)).trans (O4.out.alloc (.cells PI 37)))
         have M8 : Hid (Blk w8 (n + 1) 3 #[.int .i64 (m : Int)]) := Lib.hid ((hg8.block (n + 1) (by have := WS.out; simp; omega) (fun e => by have := (RA4.out.lt (n + 1) e.symm).1; omega)).trans (M4.out.alloc (.cells PI 37)))
         have B8 : Hid (Below n w w8) := Lib.hid (by
           have b := B4.out.alloc (by have := WS.out; omega) (.cells PI 37)
           exact ⟨hg8.os.trans b.os, hg8.tape.trans b.tape, hg8.output.trans b.output, Nat.le_trans b.size hg8.size, fun k hk => (hg8.block k (by have := WS.out; simp; omega) (fun e => by have := (RA4.out.lt k e.symm).1; omega)).trans (b.block k hk)⟩)
         have K8 : Hid (Kept (fun k => ¬ O k) W2 w8) := Lib.hid ((Kept.of_below (box_below W2 (.cells PI 37))).trans ⟨hg8.os, hg8.tape, hg8.output, hg8.size, fun k hk hk2 => hg8.block k hk (fun e => hk2 ((HO.out k).2 (.inr e.symm)))⟩)
         have R8 := Lib.hid ho8
         have G8 : Hid (O g' ∨ W2.heap.size ≤ g') := Lib.hid (by
           rcases hr8 with h | h
           · exact .inl ((HO.out g').2 (.inr h))
           · exact .inr (by rw [h]; simp))
         have N8 := Lib.hid hn8
         have c8 := O8.out.cell 0
         have f8 := Blk.free O8.out 0
         clear ho8 hg8 hr8 hn8 O4 M4 R4 B4 RA4 OC MC))
    have R9 : Hid ((w8.setCell ⟨n + 2, 0, none⟩ (.slice (some ⟨g', 0, none⟩) ((rowP s.v pre).length + 1) cap)).ownsRow (n + 3) 37 18 (.slice (some ⟨g', 0, none⟩) ((rowP s.v pre).length + 1) cap) ((rowP s.v pre).length + 1) (flatQ (rowP s.v pre ++ [⟨s.v, x.1, x.2⟩]))) := Lib.hid (by
      have r8 := R8.out
      rw [List.length_append] at r8
      exact r8.kept (grownBy_setCell' w8 (n + 2) _) (.inr (fun e => by
      injection e with e
      have := N8.out
      simp only at e
      omega)))
    refine ⟨K8.out.setCell (p := ⟨n + 2, 0, none⟩) (fun h => h ((HO.out (n + 2)).2 (.inl (by omega)))) _, fun k => k < n + 3 ∨ k = g', ?_, ?_⟩
    · refine ⟨_, fun k => ⟨fun h => ?_, fun h => ?_⟩, O8.out.set 0 (.slice (some ⟨g', 0, none⟩) ((rowP s.v pre).length + 1) cap), M8.out.far (by omega) 0 _, ?_, ?_, ?_⟩
      · rcases h with h | h
        · exact .inl h
        · exact .inr (by rw [h]; rfl)
      · rcases h with h | h
        · exact .inl h
        · injection h with h
          exact .inr h.symm
      · rw [← RA.out, List.length_append]
        exact R9.out
      · exact B8.out.setCell (show n ≤ n + 1 + 1 by omega) _
      · rw [← RA.out]
        intro y hy
        rcases List.mem_append.1 hy with h | h
        · exact S3.out y h
        · rw [List.mem_singleton.1 h]
          exact X6.out
    · rintro k (h | rfl)
      · exact .inl ((HO.out k).2 (.inl h))
      · rw [← HGX.out]
        rcases G8.out with h | h
        · exact .inl h
        · exact .inr (Nat.le_trans WS.out.2 h)
  case hdone =>
    rintro O W ⟨V, ho, h1, h2, h3, h4, h5⟩ hD hlt
    have R3 := Lib.hid h3
    have B3 := Lib.hid h4
    have S3 := Lib.hid h5
    have OC : W.cell? ⟨n + 2, 0, none⟩ = some V := h1.cell 0
    obtain ⟨V0, c0, hV⟩ : ∃ a c, V = .slice a (rowP s.v (prefS s)).length c := by
      rcases R3.out.2 with ⟨rfl, h0⟩ | ⟨g, cap, cur, rfl, _⟩
      · exact ⟨none, 0, by rw [h0]⟩
      · exact ⟨_, _, rfl⟩
    subst hV
    clear h1 h2 h3 h4 h5 ho
    gi_wp2_with fail
    refine ⟨by simp, .inl ⟨_, _, rfl, run_takeDeferred hD, ?_⟩⟩
    refine ⟨_, results_tmp rfl _ _ _, _, rfl, ?_, ?_, S3.out⟩
    · rw [hn]
      refine own_lower (R3.out.kept (grownBy_putObj' W w5.heap.size _) ?_) (by omega)
      right
      intro e
      obtain ⟨g, cap, cur, e1, e2⟩ : ∃ g cap cur, (Value.slice V0 (rowP s.v (prefS s)).length c0) = .slice (some ⟨g, 0, none⟩) (rowP s.v (prefS s)).length cap ∧ W.heap[g]? = some (.cells cur 37 (0, 0)) := by
        rcases R3.out.2 with ⟨h, _⟩ | ⟨g, cap, cur, h, _, h2, _⟩
        · rw [h] at e
          cases e
        · exact ⟨g, cap, cur, h, h2⟩
      rw [e1] at e
      injection e with e
      rw [← e] at hD
      simp only at hD
      rw [e2] at hD
      cases hD
    · rw [hn]
      have b := B3.out
      exact ⟨b.os, b.tape, b.output, by simpa using b.size, fun k hk => (World.putObj_heap_other (by have := PB.out; omega)).trans (b.block k hk)⟩
  case hstop => exact fun _ _ h => h.elim

end Go.Proofs.Yteddeebhfnpchaa

namespace Go.Proofs.Yteddeebhfnpchaa
open Go.RowKit
set_option linter.unusedVariables false

def eqS (s t : SpanZ) : Bool := decide (s.v = t.v ∧ s.lo = t.lo ∧ s.hi = t.hi)
theorem eqS_is {s t : SpanZ} : eqS s t = true ↔ s = t := by
  unfold eqS
  rw [decide_eq_true_iff]
  constructor
  · obtain ⟨a, b, c⟩ := s
    obtain ⟨d, e, f⟩ := t
    rintro ⟨rfl, rfl, rfl⟩
    rfl
  · rintro rfl
    exact ⟨rfl, rfl, rfl⟩
theorem eqS_ne {s t : SpanZ} (h : s ≠ t) : eqS s t = false := Bool.eq_false_iff.2 (fun k => h (eqS_is.1 k))
theorem run_eql_span {s t : SpanZ} (hs : SixS s) (ht : SixS t) (w : World) : (binOp .eql 30 (.agg (scells s)) (.agg (scells t))).run Try.prog w = .ok (.bool (eqS s t)) w := by
  have e : (Op.equal 30 (.agg (scells s)) (.agg (scells t))).run Try.prog w = .ok (eqS s t) w := two_span s t hs ht w
  simp [binOp, go_sem, e]
theorem run_neq_span {s t : SpanZ} (hs : SixS s) (ht : SixS t) (w : World) : (binOp .neq 30 (.agg (scells s)) (.agg (scells t))).run Try.prog w = .ok (.bool (!eqS s t)) w := by
  have e : (Op.equal 30 (.agg (scells s)) (.agg (scells t))).run Try.prog w = .ok (eqS s t) w := two_span s t hs ht w
  simp [binOp, go_sem, e]
theorem run_guard_eql (x y : Operand) (cs ds : Array Value) (w : World) : (eqGuard .eql 30 x y (.agg cs) (.agg ds)).run Try.prog w = .ok () w := by
  unfold eqGuard
  simp [Sem.run_bind, Sem.run_pure, go_sem, Result.andThen]
theorem run_guard_neq (x y : Operand) (cs ds : Array Value) (w : World) : (eqGuard .neq 30 x y (.agg cs) (.agg ds)).run Try.prog w = .ok () w := by
  unfold eqGuard
  simp [Sem.run_bind, Sem.run_pure, go_sem, Result.andThen]
theorem yields_eql {o : Oper} {a : Act} {W : World} {s t : SpanZ} (x y : Operand) (ho : o.op = .binOp .eql 30 x y 30) (hx : a.eval x = .agg (scells s)) (hy : a.eval y = .agg (scells t)) (hs : SixS s) (ht : SixS t) : (execOp a.eval o).run Try.prog W = .ok (.value (.bool (eqS s t))) W := by
  unfold execOp
  simp [ho, hx, hy, run_guard_eql, run_eql_span hs ht, Result.andThen]
theorem yields_neq {o : Oper} {a : Act} {W : World} {s t : SpanZ} (x y : Operand) (ho : o.op = .binOp .neq 30 x y 30) (hx : a.eval x = .agg (scells s)) (hy : a.eval y = .agg (scells t)) (hs : SixS s) (ht : SixS t) : (execOp a.eval o).run Try.prog W = .ok (.value (.bool (!eqS s t))) W := by
  unfold execOp
  simp [ho, hx, hy, run_guard_neq, run_neq_span hs ht, Result.andThen]

def fourA (x : Int) : List Int := [10, 0, 0, x, 0, 0, 0, 0, 0, 0, 0, 0, 0, 0, 0, 0]
def fourZ (a b : Int) : SpanZ := ⟨false, fourA a, fourA b⟩
theorem fourA_ok {x : Int} (h0 : 0 ≤ x) (h1 : x < 256) : Sixteen (fourA x) := ⟨rfl, by
  intro y hy
  simp only [fourA, List.mem_cons, List.not_mem_nil, or_false] at hy
  omega⟩
theorem fourZ_six {a b : Int} (h0 : 0 ≤ a) (h1 : a < 256) (h2 : 0 ≤ b) (h3 : b < 256) : SixS (fourZ a b) := ⟨fourA_ok h0 h1, fourA_ok h2 h3⟩
theorem built_four (x : Int) : Try.prog.built 28 [(0, .int .u8 10), (1, .int .u8 0), (2, .int .u8 0), (3, .int .u8 x)] = some (acells (fourA x)).toArray := by kernel_rfl
theorem built_fourS (a b : Int) : Try.prog.built 30 [(1, .agg (acells (fourA a)).toArray), (2, .agg (acells (fourA b)).toArray)] = some (scells (fourZ a b)) := by kernel_rfl

set_option maxHeartbeats 1000000 in
theorem four_any (a b : Int) (w : World) (h0 : 0 ≤ a) (h1 : a < 256) (h2 : 0 ≤ b) (h3 : b < 256) :
    Calls Try.prog 22 #[.int .u8 a, .int .u8 b] w fun e w' => e = .returned (.agg (scells (fourZ a b))) ∧ Below w.heap.size w w' := by
  have s6 := fourZ_six h0 h1 h2 h3
  have SA := Lib.hid (Try.sizeS s6)
  have ZA : Hid ((scells zeroS).size = (scells (fourZ a b)).size) := Lib.hid (by rw [scells_size s6, scells_size zeroS_six])
  have OA := Lib.hid (scells_one (fourZ a b))
  have AZ : Hid (Blk (w.alloc (.cells (scells zeroS) 30)) w.heap.size 30 (scells zeroS)) := Lib.hid (Blk.new _ _ _)
  have X1 : Hid (Blk (w.alloc (.cells (scells (fourZ a b)) 30)) w.heap.size 30 (scells (fourZ a b))) := Lib.hid (Blk.new _ _ _)
  have U1 := Lib.hid (built_four a)
  have U2 := Lib.hid (built_four b)
  have U3 := Lib.hid (built_fourS a b)
  generalize hF : scells (fourZ a b) = F at *
  clear hF s6
  generalize (acells (fourA a)).toArray = FA at *
  generalize (acells (fourA b)).toArray = FB at *
  go_enter Try.func22, Try.ntmps22
  go_wp2_with (first
    | (refine Great.wpList_allocTo rfl (some 4) rfl (.pointer (some ⟨w.heap.size, 0, none⟩)) (.cells (scells zeroS) 30) (alloc_span_run rfl) ?_)
    | (refine build1_to rfl 28 _ rfl (some 6) rfl FA _ U1.out (by kernel_rfl) ?_)
    | (refine build1_to rfl 28 _ rfl (some 8) rfl FB _ U2.out (by kernel_rfl) ?_)
    | (refine build1_to rfl 30 _ rfl (some 9) rfl F _ U3.out (by kernel_rfl) ?_)
    | (refine wpList_store_rowTo rfl 30 (.tmp 4) (.tmp 9) rfl rfl w.heap.size F rfl rfl 30 (scells zeroS) AZ.out SA.out ZA.out OA.out ?_; rw [alloc_setRow]))
  exact bodyPost_ret (results_cell_row rfl _ _ w.heap.size 30 F (0, 0) _ rfl X1.out Try.underlying30 rfl SA.out) rfl ⟨rfl, box_below _ _⟩

theorem built_two4 : Try.prog.builtSlice 30 2 [(0, .agg (scells (fourZ 0 9))), (1, .agg (scells (fourZ 10 20)))] = some (scells (fourZ 0 9) ++ scells (fourZ 10 20)) := by kernel_rfl
theorem join_four : joinS [fourZ 0 9, fourZ 10 20] = [fourZ 0 20] := by kernel_rfl
theorem pref_four : rowP false (prefS (fourZ 1 4)) = [⟨false, fourA 1, 32⟩, ⟨false, fourA 2, 31⟩, ⟨false, fourA 4, 32⟩] := by kernel_rfl

end Go.Proofs.Yteddeebhfnpchaa

namespace Go.Proofs
open Go.Shelf
def Try.laysF6_ren : Go.Shelf.Ren := ⟨fun | 6 => 39 | 15 => 52 | 14 => 51 | 28 => 64 | 29 => 65 | 20 => 56 | 21 => 57 | 22 => 58 | 23 => 59 | 24 => 60 | 25 => 61 | 26 => 62 | 27 => 63 | 46 => 67 | 47 => 68 | 48 => 69 | 49 => 70 | 50 => 71 | 57 => 72 | n => n, fun | 22 => 22 | 24 => 30 | 25 => 57 | 3 => 3 | 39 => 68 | 0 => 0 | 53 => 81 | 55 => 83 | 4 => 4 | 46 => 74 | 45 => 73 | 50 => 78 | 5 => 5 | 9 => 9 | 66 => 84 | 70 => 88 | 76 => 90 | 77 => 91 | n => n, fun | n => n⟩
theorem Try.laysF6 : Go.Proofs.SlLaysF0.n6 Try.prog Try.laysF6_ren := {
  mixed := by kernel_rfl
  f6 := ⟨Try.f39.name, by decide, Try.func39.trans (congrArg some (by kernel_rfl))⟩
  f14 := ⟨Try.f51.name, by decide, Try.func51.trans (congrArg some (by kernel_rfl))⟩
  f15 := Try.func52.trans (congrArg some (by kernel_rfl))
  f20 := ⟨Try.f56.name, by decide, Try.func56.trans (congrArg some (by kernel_rfl))⟩
  f21 := ⟨Try.f57.name, by decide, Try.func57.trans (congrArg some (by kernel_rfl))⟩
  f22 := ⟨Try.f58.name, by decide, Try.func58.trans (congrArg some (by kernel_rfl))⟩
  f23 := ⟨Try.f59.name, by decide, Try.func59.trans (congrArg some (by kernel_rfl))⟩
  f24 := ⟨Try.f60.name, by decide, Try.func60.trans (congrArg some (by kernel_rfl))⟩
  f25 := ⟨Try.f61.name, by decide, Try.func61.trans (congrArg some (by kernel_rfl))⟩
  f26 := ⟨Try.f62.name, by decide, Try.func62.trans (congrArg some (by kernel_rfl))⟩
  f27 := ⟨Try.f63.name, by decide, Try.func63.trans (congrArg some (by kernel_rfl))⟩
  f28 := Try.func64.trans (congrArg some (by kernel_rfl))
  f29 := Try.func65.trans (congrArg some (by kernel_rfl))
  f46 := ⟨Try.f67.name, by decide, Try.func67.trans (congrArg some (by kernel_rfl))⟩
  f47 := Try.func68.trans (congrArg some (by kernel_rfl))
  f48 := Try.func69.trans (congrArg some (by kernel_rfl))
  f49 := ⟨Try.f70.name, by decide, Try.func70.trans (congrArg some (by kernel_rfl))⟩
  f50 := ⟨Try.f71.name, by decide, Try.func71.trans (congrArg some (by kernel_rfl))⟩
  f57 := ⟨Try.f72.name, by decide, Try.func72.trans (congrArg some (by kernel_rfl))⟩
  t0 := Try.underlying0
  a0 := Try.isAgg0
  z0 := Try.sizeOf0
  v0 := Try.zeroValue0
  t3 := Try.underlying3
  a3 := Try.isAgg3
  z3 := Try.sizeOf3
  v3 := Try.zeroValue3
  t4 := Try.underlying4
  a4 := Try.isAgg4
  z4 := Try.sizeOf4
  v4 := Try.zeroValue4
  t5 := Try.underlying5
  a5 := Try.isAgg5
  z5 := Try.sizeOf5
  v5 := Try.zeroValue5
  t9 := Try.underlying9
  a9 := Try.isAgg9
  z9 := Try.sizeOf9
  v9 := Try.zeroValue9
  t22 := Try.underlying22
  a22 := Try.isAgg22
  z22 := Try.sizeOf22
  v22 := Try.zeroValue22
  t25 := Try.underlying57
  a25 := Try.isAgg57
  z25 := Try.sizeOf57
  v25 := Try.zeroValue57
  t39 := Try.underlying68
  a39 := Try.isAgg68
  z39 := Try.sizeOf68
  v39 := Try.zeroValue68
  t45 := Try.underlying73
  a45 := Try.isAgg73
  z45 := Try.sizeOf73
  v45 := Try.zeroValue73
  t46 := Try.underlying74
  a46 := Try.isAgg74
  z46 := Try.sizeOf74
  v46 := Try.zeroValue74
  t50 := Try.underlying78
  a50 := Try.isAgg78
  z50 := Try.sizeOf78
  v50 := Try.zeroValue78
  t53 := Try.underlying81
  a53 := Try.isAgg81
  z53 := Try.sizeOf81
  v53 := Try.zeroValue81
  t55 := Try.underlying83
  a55 := Try.isAgg83
  z55 := Try.sizeOf83
  v55 := Try.zeroValue83
  t66 := Try.underlying84
  a66 := Try.isAgg84
  z66 := Try.sizeOf84
  v66 := Try.zeroValue84
  t70 := Try.underlying88
  a70 := Try.isAgg88
  z70 := Try.sizeOf88
  v70 := Try.zeroValue88
  t76 := Try.underlying90
  a76 := Try.isAgg90
  z76 := Try.sizeOf90
  v76 := Try.zeroValue90
  t77 := Try.underlying91
  a77 := Try.isAgg91
  z77 := Try.sizeOf91
  v77 := Try.zeroValue91 }
end Go.Proofs

namespace Go.Proofs.Yteddeebhfnpchaa
open Go.RowKit
set_option linter.unusedVariables false

/-- What spans are ordered by. -/
def keyS (s : SpanZ) : Nat := (if s.v then 2 ^ 128 else 0) + aN s.lo
theorem cmpS_less {s t : SpanZ} (hs : SixS s) (ht : SixS t) : cmpS s t < 0 ↔ keyS s < keyS t := by
  have a1 := aN_lt16 hs.1
  have a2 := aN_lt16 ht.1
  unfold cmpS keyS
  obtain ⟨h1, h2⟩ := cmp_way s.v s.lo (mostZ s.v) t.v t.lo (mostZ t.v)
  by_cases e : s.v = t.v
  · obtain ⟨h3, h4⟩ := h2 e
    rw [← e] at h3 h4 ⊢
    by_cases e0 : cmpN (aN s.lo) (aN t.lo) = 0
    · have := (h4 e0).2.2 (by omega) (by omega)
      rw [this]
      unfold cmpN at e0
      split at e0
      · omega
      · split at e0 <;> omega
    · rw [h3 e0]
      unfold cmpN at e0 ⊢
      split
      · omega
      · split <;> omega
  · rw [h1 e]
    cases hv : s.v <;> cases hu : t.v
    · rw [hv, hu] at e
      exact absurd rfl e
    · simp only [if_true, Bool.false_eq_true, if_false]
      omega
    · simp only [if_true, Bool.false_eq_true, if_false]
      omega
    · rw [hv, hu] at e
      exact absurd rfl e
theorem less6 (x y : Sp6) : ltOf (fun x y : Sp6 => cmpS x.1 y.1) x y = decide (keyS x.1 < keyS y.1) := by
  unfold ltOf
  rw [Bool.eq_iff_iff, decide_eq_true_iff, decide_eq_true_iff]
  exact cmpS_less x.2 y.2
theorem swo6 : Sort.SWO (ltOf (fun x y : Sp6 => cmpS x.1 y.1)) where
  irrefl x := by rw [less6]; simp
  trans x y z h1 h2 := by rw [less6] at *; simp at *; omega
  ntrans x y z h1 h2 := by rw [less6] at *; simp at *; omega
theorem lays6 (blk off size : Nat) (w : World) : CmpLays Try.prog 40 #[] enc6 33 (fun x y : Sp6 => cmpS x.1 y.1) blk off size w :=
  fun _ _ _ _ x y => (sless_any x.1 y.1 _ x.2 y.2).mono (fun _ _ h => ⟨h.1, h.2.grow⟩)
/-- They rise. -/
def RiseS (L : List SpanZ) : Prop := L.Pairwise (fun a b => keyS a ≤ keyS b)
theorem rise_of {d : Array Sp6} (h : Sort.SortedIn (ltOf (fun x y : Sp6 => cmpS x.1 y.1)) 0 d.size d) : RiseS (bare6 d) := by
  unfold RiseS
  rw [List.pairwise_iff_getElem]
  intro i j hi hj hij
  rw [bare6_len] at hi hj
  have := h i j (Nat.zero_le _) hij hj
  rw [less6] at this
  rw [bare6_at d i hi, bare6_at d j hj]
  have := of_decide_eq_false this
  omega
theorem perm_of {d d' : Array Sp6} (h : Sort.PermIn 0 d.size d d') : (bare6 d').Perm (bare6 d) := by
  have hp := h.2.2
  have e1 : d.extract 0 d.size = d := by simp
  have e2 : d'.extract 0 d.size = d' := by rw [← h.1]; simp
  rw [e1, e2] at hp
  exact hp.map _

set_option maxHeartbeats 1000000 in
theorem sort_any (W0 w : World) (V : Value) (L : List SpanZ) (ho : SpOut W0 w V L) (hl : L.length ≤ 90000) :
    Calls Try.prog 39 #[V, .func (.func 40) #[] #[]] w fun e w' => e = .returned (.tuple #[]) ∧ ∃ L', L'.Perm L ∧ RiseS L' ∧ SpOut W0 w' V L' := by
  rcases ho.form with ⟨rfl, rfl⟩ | ⟨g, cap, rfl, hg0, hg1, hcap⟩
  · have hcon := AnyF.slices_SortFunc_none { Try.laysF6 with } none 0 (.func (.func 40) #[] #[]) w
    refine Calls.mono hcon ?_
    rintro e w' ⟨he, rfl⟩
    exact ⟨he, [], List.Perm.refl _, List.Pairwise.nil, ho⟩
  · have hd := bare_with L ho.2.2
    have hsz := with6_size L ho.2.2
    generalize with6 L ho.2.2 = d at hd hsz
    subst hd
    rw [bare6_len] at hl
    have eg : ∀ args w, (callFunc 40 args).run Try.prog w = .ok (.enter 40 args) w := enters_of Try.func40 (by kernel_rfl) rfl
    have aE : ∀ w, (isAgg 30).run Try.prog w = .ok true w := fun w => by simp [isAgg, run_underlying Try.underlying30]
    have zE : ∀ w, (Go.sizeOf 30).run Try.prog w = .ok 33 w := fun w => by kernel_rfl
    have hcon := AnyQ.slices_SortFunc Try.laysF6 33 aE zE enc6 enc6_len enc6_one (fun x y : Sp6 => cmpS x.1 y.1) swo6 40 #[] g 0 cap d w eg (lays6 g 0 d.size w) (ho.holds (bare6_len d)) hg1 (by omega)
    rw [← bare6_len d] at hcon
    refine Calls.mono hcon ?_
    rintro e w' ⟨he, d', n, os, hp, hs, rfl⟩
    rw [bare6_len] at hp hs
    refine ⟨he, bare6 d', perm_of hp, rise_of (by rw [hp.1]; exact hs), ho.sorted (bare6_len d) hp.1⟩

/-- The valid spans of a list, by their first addresses, in memory of the call's own. -/
def GivesSorted (L : List SpanZ) (w : World) (e : Ending) (w' : World) : Prop := ∃ V L', e = .returned V ∧ SpOut w w' V L' ∧ L'.Perm (L.filter rightS) ∧ RiseS L'

set_option maxHeartbeats 1000000 in
set_option maxRecDepth 10000 in
theorem sorted_any (a : Option Addr) (n c : Nat) (L : List SpanZ) (w : World) (hr : SpRow w a n L) (hA : a = none → n = 0 ∧ c = 0) (hn : n ≤ 90000) :
    Calls Try.prog 23 #[.slice a n c] w (GivesSorted L w) := by
  have C1 := Lib.hid (clone_any a n c L w hr hA hn)
  have hL : L.length ≤ 90000 := by rw [hr.1]; exact hn
  have hF : (L.filter rightS).length ≤ 90000 := Nat.le_trans (List.length_filter_le _ _) hL
  have C2 : Hid (∀ V W, Hid (SpOut w W V L) → Calls Try.prog 36 #[V, .func (.func 38) #[] #[]] W (GivesIn w (L.filter rightS))) := Lib.hid (fun V W h => delete_any w W V L h.out hL)
  have C3 : Hid (∀ V W, Hid (SpOut w W V (L.filter rightS)) → Calls Try.prog 39 #[V, .func (.func 40) #[] #[]] W fun e w' => e = .returned (.tuple #[]) ∧ ∃ L', L'.Perm (L.filter rightS) ∧ RiseS L' ∧ SpOut w w' V L') := Lib.hid (fun V W h => sort_any w W V _ h.out hF)
  clear hr hA hL hF
  go_enter Try.func23, Try.ntmps23
  go_wp2_with (first
    | (refine C1.out.mono ?_; rintro r w1 ⟨V1, rfl, ho1⟩; have O1 := Lib.hid ho1; clear ho1 C1)
    | (refine (C2.out _ _ O1).mono ?_; rintro r w2 ⟨V2, rfl, ho2⟩; have O2 := Lib.hid ho2; clear ho2 C2 O1)
    | (refine (C3.out _ _ O2).mono ?_; rintro r w3 ⟨rfl, L3, hp3, hs3, ho3⟩; have O3 := Lib.hid ho3; have P3 := Lib.hid hp3; have S3 := Lib.hid hs3; clear ho3 hp3 hs3 C3 O2))
  go_ret
  exact ⟨_, _, rfl, O3.out, P3.out, S3.out⟩

end Go.Proofs.Yteddeebhfnpchaa

namespace Go.Proofs.Yteddeebhfnpchaa
set_option linter.unusedVariables false

theorem key_line {s t : SpanZ} (hs : SpanOk s) (ht : SpanOk t) (h : keyS s ≤ keyS t) : (lineS s).1 ≤ (lineS t).1 := by
  have a1 := aN_lt16 hs.1
  have a2 := aN_lt16 ht.1
  have p1 := ok_parts hs
  have p2 := ok_parts ht
  have p : (2 : Nat) ^ 32 < 2 ^ 40 := by decide
  unfold keyS at h
  show lineZ s.v s.lo ≤ lineZ t.v t.lo
  cases hv : s.v <;> cases hu : t.v <;> rw [hv, hu] at h
  · simp only [Bool.false_eq_true, if_false] at h
    exact (line_le (v := false) (fun _ => p1.1 hv) (fun _ => p2.1 hu)).2 (by omega)
  · have := line_four hs.1
    have e := line_six t.lo
    omega
  · simp only [Bool.false_eq_true, if_false, if_true] at h
    omega
  · have e1 := line_six s.lo
    have e2 := line_six t.lo
    simp only [if_true] at h
    omega
/-- meets is the reference's test. -/
theorem meets_touch {c q : SpanZ} (hc : SpanOk c) (hq : SpanOk q) (hk : keyS c ≤ keyS q) : meetsZ c q = touchS c q := by
  have a1 := aN_lt16 hc.2.1
  have a2 := aN_lt16 hq.1
  have a3 := aN_lt16 hc.1
  have pc := ok_parts hc
  have pq := ok_parts hq
  obtain ⟨h1, h2⟩ := cmp_way q.v q.lo (mostZ q.v) c.v c.hi (mostZ c.v)
  unfold meetsZ touchS
  by_cases e : c.v = q.v
  · have ce := cmp_ends c.v q.lo c.hi
    rw [← e, ce]
    simp only [BEq.rfl, Bool.true_and]
    rw [Bool.eq_iff_iff, Bool.or_eq_true, decide_eq_true_iff, decide_eq_true_iff, decide_eq_true_iff]
    have ne : aN (nextA c.v c.hi) = (aN c.hi + unitZ c.v) % 2 ^ 128 := aN_by16 (Nat.mod_lt _ (by decide))
    constructor
    · rintro (h | ⟨_, h, _⟩)
      · omega
      · rw [h, ne]
        exact Nat.mod_le _ _
    · intro h
      by_cases hl : aN q.lo ≤ aN c.hi
      · exact .inl hl
      · refine .inr ⟨trivial, ?_, trivial⟩
        have e2 : aN q.lo = aN c.hi + unitZ c.v := by
          unfold unitZ at h ⊢
          cases hv : c.v with
          | true =>
            rw [hv] at h
            simp only [if_true] at h ⊢
            omega
          | false =>
            rw [hv] at h
            simp only [Bool.false_eq_true, if_false] at h ⊢
            have k1 := pc.2.1 hv
            have k2 := pq.1 (by rw [← e]; exact hv)
            omega
        have : nextA c.v c.hi = q.lo := next_done hq.1 e2
        exact this.symm
  · have hv : c.v = false ∧ q.v = true := by
      unfold keyS at hk
      cases hv : c.v <;> cases hu : q.v <;> rw [hv, hu] at hk e
      · exact absurd rfl e
      · exact ⟨rfl, rfl⟩
      · simp only [Bool.false_eq_true, if_false, if_true] at hk
        omega
      · exact absurd rfl e
    rw [h1 (fun k => e k.symm), hv.1, hv.2]
    simp
theorem wide_cmp {c q : SpanZ} (e : c.v = q.v) : decide (cmpA q.v q.hi (mostZ q.v) c.v c.hi (mostZ c.v) ≤ 0) = decide (aN q.hi ≤ aN c.hi) := by
  rw [← e]
  exact cmp_ends c.v q.hi c.hi
theorem touch_fam {c q : SpanZ} (h : touchS c q = true) : c.v = q.v := by
  unfold touchS at h
  rw [Bool.and_eq_true] at h
  simpa using h.1
/-- Of a rising list. -/
def joinAll : List SpanZ → List SpanZ
  | [] => []
  | c :: r => mergeS c r
theorem rise_sort : ∀ {S : List SpanZ}, (∀ s ∈ S, SpanOk s) → RiseS S → SortZ (S.map lineS)
  | [], _, _ => trivial
  | s :: r, h, hr => by
    have hp := List.pairwise_cons.1 hr
    refine ⟨fun q hq => ?_, rise_sort (fun x hx => h x (List.mem_cons_of_mem _ hx)) hp.2⟩
    obtain ⟨t, ht, rfl⟩ := List.mem_map.1 hq
    exact key_line (h s List.mem_cons_self) (h t (List.mem_cons_of_mem _ ht)) (hp.1 t ht)
theorem join_all {L S : List SpanZ} (hL : SpansZ L) (hp : S.Perm (L.filter rightS)) (hr : RiseS S) : joinAll S = joinS L := by
  have hS : ∀ s ∈ S, SpanOk s := fun s hs => by
    obtain ⟨h1, h2⟩ := List.mem_filter.1 (hp.mem_iff.1 hs)
    exact ⟨(hL s h1).1, (hL s h1).2, h2⟩
  have hin : ∀ x, InZ x (S.map lineS) ↔ InZ x (onL L) := fun x => by
    constructor
    · rintro ⟨p, h, h'⟩
      obtain ⟨s, hs, rfl⟩ := List.mem_map.1 h
      exact ⟨_, List.mem_map.2 ⟨s, hp.mem_iff.1 hs, rfl⟩, h'⟩
    · rintro ⟨p, h, h'⟩
      obtain ⟨s, hs, rfl⟩ := List.mem_map.1 h
      exact ⟨_, List.mem_map.2 ⟨s, hp.mem_iff.2 hs, rfl⟩, h'⟩
  have hs := rise_sort hS hr
  cases S with
  | nil => exact join_unique hL (fun s h => absurd h (by simp [joinAll])) trivial hin
  | cons c r =>
    obtain ⟨m1, m2⟩ := merge_line hs hS
    have hv : ∀ q ∈ lineS c :: r.map lineS, q.1 ≤ q.2 := fun q hq => by
      obtain ⟨s, h, rfl⟩ := List.mem_map.1 (show q ∈ (c :: r).map lineS from hq)
      exact ok_line (hS s h)
    refine join_unique hL m2 ?_ (fun x => ?_)
    · show NormZ (onL (mergeS c r))
      rw [onL_ok m2, m1]
      exact norm_merge hs hv
    · show InZ x (onL (mergeS c r)) ↔ _
      rw [onL_ok m2, m1, in_merge hs hv]
      exact hin x

/-- What the loop has come to behind the first k. -/
def JoinAt (S : List SpanZ) (k : Nat) (J : List SpanZ) : Prop :=
  (J = [] ∧ k = 0) ∨ ∃ D c, J = D ++ [c] ∧ SpanOk c ∧ (∀ s ∈ S.drop k, keyS c ≤ keyS s) ∧ joinAll S = D ++ mergeS c (S.drop k)
theorem rise_drop {S : List SpanZ} (h : RiseS S) {k : Nat} (hk : k < S.length) : ∀ s ∈ S.drop (k + 1), keyS S[k] ≤ keyS s := by
  have e : S.drop k = S[k] :: S.drop (k + 1) := List.drop_eq_getElem_cons hk
  have h2 : (S.drop k).Pairwise (fun a b => keyS a ≤ keyS b) := h.sublist (List.drop_sublist _ _)
  rw [e] at h2
  exact (List.pairwise_cons.1 h2).1
theorem join_first {S : List SpanZ} (hS : ∀ s ∈ S, SpanOk s) (hR : RiseS S) (hk : 0 < S.length) : JoinAt S 1 [S[0]] := by
  refine .inr ⟨[], S[0], rfl, hS _ (List.getElem_mem hk), rise_drop hR hk, ?_⟩
  match S, hk with
  | c :: r, _ => rfl
theorem join_empty {S : List SpanZ} {k : Nat} (h : JoinAt S k []) : k = 0 := by
  rcases h with ⟨_, h⟩ | ⟨D, c, h, _⟩
  · exact h
  · exact absurd h (by simp)
theorem join_step {S : List SpanZ} (hS : ∀ s ∈ S, SpanOk s) (hR : RiseS S) {k : Nat} {J : List SpanZ} (h : JoinAt S k J) (hk : k < S.length) {e : Nat} (hJ : J.length = e + 1) :
    (meetsZ (J[e]'(by omega)) S[k] = false → JoinAt S (k + 1) (J ++ [S[k]])) ∧
    (meetsZ (J[e]'(by omega)) S[k] = true → ¬ cmpA (S[k]).v (S[k]).hi (mostZ (S[k]).v) (J[e]'(by omega)).v (J[e]'(by omega)).hi (mostZ (J[e]'(by omega)).v) ≤ 0 → JoinAt S (k + 1) (J.set e ⟨(J[e]'(by omega)).v, (J[e]'(by omega)).lo, (S[k]).hi⟩)) ∧
    (meetsZ (J[e]'(by omega)) S[k] = true → cmpA (S[k]).v (S[k]).hi (mostZ (S[k]).v) (J[e]'(by omega)).v (J[e]'(by omega)).hi (mostZ (J[e]'(by omega)).v) ≤ 0 → JoinAt S (k + 1) J) := by
  rcases h with ⟨rfl, _⟩ | ⟨D, c, rfl, hc, hge, hj⟩
  · exact absurd hJ (by simp)
  have hD : D.length = e := by simpa using hJ
  subst hD
  have hs := hS _ (List.getElem_mem hk)
  have ed : S.drop k = S[k] :: S.drop (k + 1) := List.drop_eq_getElem_cons hk
  have hk1 := hge S[k] (by rw [ed]; exact List.mem_cons_self)
  have ec : (D ++ [c])[D.length]'(by simp) = c := by simp
  rw [ec, meets_touch hc hs hk1]
  rw [ed] at hj
  have hge' : ∀ s ∈ S.drop (k + 1), keyS c ≤ keyS s := fun s hs => hge s (by rw [ed]; exact List.mem_cons_of_mem _ hs)
  refine ⟨fun h => ?_, fun h h2 => ?_, fun h h2 => ?_⟩
  · refine .inr ⟨D ++ [c], S[k], rfl, hs, rise_drop hR hk, ?_⟩
    rw [hj]
    show D ++ mergeS c (S[k] :: S.drop (k + 1)) = _
    rw [mergeS, if_neg (by rw [h]; simp)]
    simp
  · have hw := wide_cmp (touch_fam h)
    have hlt : aN c.hi < aN (S[k]).hi := by
      have : ¬ aN (S[k]).hi ≤ aN c.hi := fun h3 => h2 (of_decide_eq_true (by rw [hw]; exact decide_eq_true h3))
      omega
    have ew : wideS c S[k] = ⟨c.v, c.lo, (S[k]).hi⟩ := by unfold wideS; rw [if_pos hlt]
    refine .inr ⟨D, ⟨c.v, c.lo, (S[k]).hi⟩, ?_, ?_, fun s hs' => ?_, ?_⟩
    · rw [List.set_append_right _ _ (Nat.le_refl _)]
      simp
    · rw [← ew]
      exact (wide_line hc hs (touch_fam h)).2
    · exact hge' s hs'
    · rw [hj]
      show D ++ mergeS c (S[k] :: S.drop (k + 1)) = _
      rw [mergeS, if_pos h, ew]
  · have hw := wide_cmp (touch_fam h)
    have hle : ¬ aN c.hi < aN (S[k]).hi := by
      have : aN (S[k]).hi ≤ aN c.hi := of_decide_eq_true (by rw [← hw]; exact decide_eq_true h2)
      omega
    have ew : wideS c S[k] = c := by unfold wideS; rw [if_neg hle]
    refine .inr ⟨D, c, rfl, hc, hge', ?_⟩
    rw [hj]
    show D ++ mergeS c (S[k] :: S.drop (k + 1)) = _
    rw [mergeS, if_pos h, ew]
theorem join_end {S J : List SpanZ} (h : JoinAt S S.length J) : J = joinAll S := by
  rcases h with ⟨rfl, h⟩ | ⟨D, c, rfl, _, _, hj⟩
  · rw [List.eq_nil_of_length_eq_zero h]
    rfl
  · rw [hj, List.drop_length]
    rfl

end Go.Proofs.Yteddeebhfnpchaa

namespace Go.Proofs.Yteddeebhfnpchaa
set_option linter.unusedVariables false

def meetZ (p q : Nat × Nat) : List (Nat × Nat) := if max p.1 q.1 ≤ min p.2 q.2 then [(max p.1 q.1, min p.2 q.2)] else []
def isectZ : Nat → List (Nat × Nat) → List (Nat × Nat) → List (Nat × Nat)
  | f + 1, p :: a, q :: b => meetZ p q ++ if p.2 ≤ q.2 then isectZ f a (q :: b) else isectZ f (p :: a) b
  | _, _, _ => []
theorem mem_meet {p q x : Nat × Nat} (h : x ∈ meetZ p q) : x.1 = max p.1 q.1 ∧ x.2 = min p.2 q.2 ∧ x.1 ≤ x.2 := by
  unfold meetZ at h
  split at h
  · rw [List.mem_singleton.1 h]
    exact ⟨rfl, rfl, by assumption⟩
  · cases h
theorem mem_isect : ∀ (f : Nat) {a b : List (Nat × Nat)} {x : Nat × Nat}, x ∈ isectZ f a b → x.1 ≤ x.2 ∧ (∃ p ∈ a, p.1 ≤ x.1) ∧ (∃ q ∈ b, q.1 ≤ x.1)
  | 0, a, b, x, h => by unfold isectZ at h; cases h
  | f + 1, [], b, x, h => by unfold isectZ at h; cases h
  | f + 1, p :: a, [], x, h => by unfold isectZ at h; cases h
  | f + 1, p :: a, q :: b, x, h => by
    unfold isectZ at h
    rcases List.mem_append.1 h with h | h
    · obtain ⟨h1, h2, h3⟩ := mem_meet h
      exact ⟨h3, ⟨p, List.mem_cons_self, by omega⟩, q, List.mem_cons_self, by omega⟩
    · split at h
      · obtain ⟨h1, ⟨p', hp, h2⟩, h3⟩ := mem_isect f h
        exact ⟨h1, ⟨p', List.mem_cons_of_mem _ hp, h2⟩, h3⟩
      · obtain ⟨h1, h2, q', hq, h3⟩ := mem_isect f h
        exact ⟨h1, h2, q', List.mem_cons_of_mem _ hq, h3⟩
theorem norm_app {l m : List (Nat × Nat)} (hl : l = [] ∨ ∃ e, l = [e] ∧ e.1 ≤ e.2 ∧ ∀ x ∈ m, e.2 + 1 < x.1) (hm : NormZ m) : NormZ (l ++ m) := by
  rcases hl with rfl | ⟨e, rfl, h1, h2⟩
  · exact hm
  · exact ⟨h1, h2, hm⟩
theorem norm_isect : ∀ (f : Nat) {a b : List (Nat × Nat)}, NormZ a → NormZ b → NormZ (isectZ f a b)
  | 0, a, b, _, _ => by unfold isectZ; trivial
  | f + 1, [], b, _, _ => by unfold isectZ; trivial
  | f + 1, p :: a, [], _, _ => by unfold isectZ; trivial
  | f + 1, p :: a, q :: b, ha, hb => by
    unfold isectZ
    by_cases k : p.2 ≤ q.2
    · rw [if_pos k]
      refine norm_app ?_ (norm_isect f ha.2.2 hb)
      unfold meetZ
      split
      · refine .inr ⟨_, rfl, by assumption, fun x hx => ?_⟩
        obtain ⟨_, ⟨p', hp, h2⟩, _⟩ := mem_isect f hx
        have := ha.2.1 p' hp
        show min p.2 q.2 + 1 < x.1
        omega
      · exact .inl rfl
    · rw [if_neg k]
      refine norm_app ?_ (norm_isect f ha hb.2.2)
      unfold meetZ
      split
      · refine .inr ⟨_, rfl, by assumption, fun x hx => ?_⟩
        obtain ⟨_, _, q', hq, h3⟩ := mem_isect f hx
        have := hb.2.1 q' hq
        show min p.2 q.2 + 1 < x.1
        omega
      · exact .inl rfl
theorem in_app {x : Nat} {l m : List (Nat × Nat)} : InZ x (l ++ m) ↔ InZ x l ∨ InZ x m := by
  unfold InZ
  constructor
  · rintro ⟨p, hp, h⟩
    rcases List.mem_append.1 hp with hp | hp
    · exact .inl ⟨p, hp, h⟩
    · exact .inr ⟨p, hp, h⟩
  · rintro (⟨p, hp, h⟩ | ⟨p, hp, h⟩)
    · exact ⟨p, List.mem_append_left _ hp, h⟩
    · exact ⟨p, List.mem_append_right _ hp, h⟩
theorem in_meet {x : Nat} {p q : Nat × Nat} : InZ x (meetZ p q) ↔ (p.1 ≤ x ∧ x ≤ p.2) ∧ q.1 ≤ x ∧ x ≤ q.2 := by
  unfold meetZ
  split
  · rw [inZ_cons]
    constructor
    · rintro (h | h)
      · have h1 : max p.1 q.1 ≤ x := h.1
        have h2 : x ≤ min p.2 q.2 := h.2
        omega
      · exact absurd h inZ_nil
    · intro h
      refine .inl ⟨?_, ?_⟩
      · show max p.1 q.1 ≤ x
        omega
      · show x ≤ min p.2 q.2
        omega
  · constructor
    · intro h
      exact absurd h inZ_nil
    · intro h
      omega
theorem in_isect {x : Nat} : ∀ (f : Nat) {a b : List (Nat × Nat)}, NormZ a → NormZ b → a.length + b.length ≤ f → (InZ x (isectZ f a b) ↔ InZ x a ∧ InZ x b)
  | 0, a, b, _, _, h => by
    obtain rfl : a = [] := List.eq_nil_of_length_eq_zero (by omega)
    unfold isectZ
    exact ⟨fun h => absurd h inZ_nil, fun h => h.1⟩
  | f + 1, [], b, _, _, _ => by
    unfold isectZ
    exact ⟨fun h => absurd h inZ_nil, fun h => h.1⟩
  | f + 1, p :: a, [], _, _, _ => by
    unfold isectZ
    exact ⟨fun h => absurd h inZ_nil, fun h => h.2⟩
  | f + 1, p :: a, q :: b, ha, hb, hl => by
    simp only [List.length_cons] at hl
    unfold isectZ
    rw [in_app, in_meet, inZ_cons, inZ_cons]
    by_cases k : p.2 ≤ q.2
    · rw [if_pos k, in_isect f ha.2.2 hb (by simp only [List.length_cons]; omega), inZ_cons]
      constructor
      · rintro (h | h)
        · exact ⟨.inl h.1, .inl h.2⟩
        · exact ⟨.inr h.1, h.2⟩
      · rintro ⟨h1 | h1, h2⟩
        · rcases h2 with h2 | h2
          · exact .inl ⟨h1, h2⟩
          · have := norm_behind hb h2
            omega
        · exact .inr ⟨h1, h2⟩
    · rw [if_neg k, in_isect f ha hb.2.2 (by simp only [List.length_cons]; omega), inZ_cons]
      constructor
      · rintro (h | h)
        · exact ⟨.inl h.1, .inl h.2⟩
        · exact ⟨h.1, .inr h.2⟩
      · rintro ⟨h1, h2 | h2⟩
        · rcases h1 with h1 | h1
          · exact .inl ⟨h1, h2⟩
          · have := norm_behind ha h1
            omega
        · exact .inr ⟨h1, h2⟩

/-- Addresses compared as on the line. -/
theorem cmp_line {v u : Bool} {A B : List Int} (hA : Sixteen A) (hB : Sixteen B) (kA : v = false → aN A % 2 ^ 96 = 0) (kB : u = false → aN B % 2 ^ 96 = 0) : cmpA v A (mostZ v) u B (mostZ u) ≤ 0 ↔ lineZ v A ≤ lineZ u B := by
  have p : (2 : Nat) ^ 32 < 2 ^ 40 := by decide
  obtain ⟨h1, h2⟩ := cmp_way v A (mostZ v) u B (mostZ u)
  by_cases e : v = u
  · subst e
    have h := cmp_ends v A B
    rw [line_le kA kB]
    constructor
    · intro k
      exact of_decide_eq_true (by rw [← h]; exact decide_eq_true k)
    · intro k
      exact of_decide_eq_true (by rw [h]; exact decide_eq_true k)
  · rw [h1 e]
    cases v <;> cases u
    · exact absurd rfl e
    · have := line_four hA
      have := line_six B
      simp only [if_true]
      constructor
      · intro _
        omega
      · intro _
        omega
    · have := line_four hB
      have := line_six A
      simp only [Bool.false_eq_true, if_false]
      constructor
      · intro h
        omega
      · intro h
        omega
    · exact absurd rfl e
theorem cmp_lineN {v u : Bool} {A B : List Int} (hA : Sixteen A) (hB : Sixteen B) (kA : v = false → aN A % 2 ^ 96 = 0) (kB : u = false → aN B % 2 ^ 96 = 0) : cmpA v A (mostZ v) u B (mostZ u) < 0 ↔ lineZ v A < lineZ u B := by
  have h := cmp_line hB hA kB kA
  rw [cmp_turned] at h
  omega

/-- An address as a prefix of its own. -/
structure EndZ where
  v : Bool
  a : List Int
def loE (s : SpanZ) : EndZ := ⟨s.v, s.lo⟩
def hiE (s : SpanZ) : EndZ := ⟨s.v, s.hi⟩
def cmpE (x y : EndZ) : Int := cmpA x.v x.a (mostZ x.v) y.v y.a (mostZ y.v)
def lineE (x : EndZ) : Nat := lineZ x.v x.a
def EndOk (x : EndZ) : Prop := Sixteen x.a ∧ (x.v = false → aN x.a % 2 ^ 96 = 0)
theorem lo_ok {s : SpanZ} (h : SpanOk s) : EndOk (loE s) := ⟨h.1, (ok_parts h).1⟩
theorem hi_ok {s : SpanZ} (h : SpanOk s) : EndOk (hiE s) := ⟨h.2.1, (ok_parts h).2.1⟩
theorem cmpE_le {x y : EndZ} (hx : EndOk x) (hy : EndOk y) : cmpE x y ≤ 0 ↔ lineE x ≤ lineE y := cmp_line hx.1 hy.1 hx.2 hy.2
theorem cmpE_lt {x y : EndZ} (hx : EndOk x) (hy : EndOk y) : cmpE x y < 0 ↔ lineE x < lineE y := cmp_lineN hx.1 hy.1 hx.2 hy.2
theorem lineE_inj {x y : EndZ} (hx : EndOk x) (hy : EndOk y) (e : lineE x = lineE y) : x = y := by
  obtain ⟨v, A⟩ := x
  obtain ⟨u, B⟩ := y
  obtain ⟨h1, h2⟩ := line_inj hx.1 hy.1 hx.2 hy.2 e
  cases h1
  cases h2
  rfl
def maxE (x y : EndZ) : EndZ := if 0 < cmpE y x then y else x
def minE (x y : EndZ) : EndZ := if cmpE y x < 0 then y else x
theorem max_ok {x y : EndZ} (hx : EndOk x) (hy : EndOk y) : EndOk (maxE x y) ∧ lineE (maxE x y) = max (lineE x) (lineE y) := by
  have h := cmpE_le hy hx
  unfold maxE
  split
  · exact ⟨hy, by omega⟩
  · exact ⟨hx, by omega⟩
theorem min_ok {x y : EndZ} (hx : EndOk x) (hy : EndOk y) : EndOk (minE x y) ∧ lineE (minE x y) = min (lineE x) (lineE y) := by
  have h := cmpE_lt hy hx
  unfold minE
  split
  · exact ⟨hy, by omega⟩
  · exact ⟨hx, by omega⟩
def fromE (p q : SpanZ) : EndZ := maxE (loE p) (loE q)
def toE (p q : SpanZ) : EndZ := minE (hiE p) (hiE q)
def meetS (p q : SpanZ) : List SpanZ := if cmpE (fromE p q) (toE p q) ≤ 0 then [⟨(fromE p q).v, (fromE p q).a, (toE p q).a⟩] else []
def sameE (x y : EndZ) : Bool := decide (x.v = y.v ∧ x.a = y.a)
theorem sameE_is {x y : EndZ} : sameE x y = true ↔ x = y := by
  obtain ⟨v, A⟩ := x
  obtain ⟨u, B⟩ := y
  unfold sameE
  simp
def isectS : Nat → List SpanZ → List SpanZ → List SpanZ
  | f + 1, p :: a, q :: b => meetS p q ++ if sameE (toE p q) (hiE p) = true then isectS f a (q :: b) else isectS f (p :: a) b
  | _, _, _ => []
theorem to_line {p q : SpanZ} (hp : SpanOk p) (hq : SpanOk q) : sameE (toE p q) (hiE p) = true ↔ (lineS p).2 ≤ (lineS q).2 := by
  rw [sameE_is]
  obtain ⟨h1, h2⟩ := min_ok (hi_ok hp) (hi_ok hq)
  have e1 : lineE (hiE p) = (lineS p).2 := rfl
  have e2 : lineE (hiE q) = (lineS q).2 := rfl
  rw [e1, e2] at h2
  constructor
  · intro h
    have : lineE (toE p q) = lineE (hiE p) := by rw [h]
    have k : lineE (toE p q) = min (lineS p).2 (lineS q).2 := h2
    omega
  · intro h
    refine lineE_inj h1 (hi_ok hp) ?_
    have k : lineE (toE p q) = min (lineS p).2 (lineS q).2 := h2
    show lineE (toE p q) = (lineS p).2
    omega
theorem meet_line {p q : SpanZ} (hp : SpanOk p) (hq : SpanOk q) : (meetS p q).map lineS = meetZ (lineS p) (lineS q) ∧ ∀ s ∈ meetS p q, SpanOk s := by
  obtain ⟨f1, f2⟩ := max_ok (lo_ok hp) (lo_ok hq)
  obtain ⟨t1, t2⟩ := min_ok (hi_ok hp) (hi_ok hq)
  have c := cmpE_le f1 t1
  have f3 : lineE (fromE p q) = max (lineS p).1 (lineS q).1 := f2
  have t3 : lineE (toE p q) = min (lineS p).2 (lineS q).2 := t2
  have c2 : cmpE (fromE p q) (toE p q) ≤ 0 ↔ max (lineS p).1 (lineS q).1 ≤ min (lineS p).2 (lineS q).2 := by rw [← f3, ← t3]; exact c
  have pl : (lineS p).1 ≤ (lineS p).2 := (line_le (ok_parts hp).1 (ok_parts hp).2.1).2 (ok_parts hp).2.2
  unfold meetS meetZ
  by_cases k : cmpE (fromE p q) (toE p q) ≤ 0
  · have k2 := c2.1 k
    rw [if_pos k, if_pos k2]
    -- one family
    have ev : (fromE p q).v = (toE p q).v := by
      by_cases e : (fromE p q).v = (toE p q).v
      · exact e
      · exfalso
        have p3 : (2 : Nat) ^ 32 < 2 ^ 40 := by decide
        have pv : lineE (loE p) ≤ lineE (fromE p q) := by rw [f3]; show (lineS p).1 ≤ _; omega
        have qv : lineE (loE q) ≤ lineE (fromE p q) := by rw [f3]; show (lineS q).1 ≤ _; omega
        have tp : lineE (toE p q) ≤ lineE (hiE p) := by rw [t3]; show _ ≤ (lineS p).2; omega
        have tq : lineE (toE p q) ≤ lineE (hiE q) := by rw [t3]; show _ ≤ (lineS q).2; omega
        have ft : lineE (fromE p q) ≤ lineE (toE p q) := by rw [f3, t3]; exact k2
        have four : ∀ {x : EndZ}, EndOk x → x.v = false → lineE x < 2 ^ 32 := fun {x} hx hv => by
          unfold lineE
          rw [hv]
          exact line_four hx.1
        have six : ∀ {x : EndZ}, x.v = true → 2 ^ 40 ≤ lineE x := fun {x} hv => by
          unfold lineE
          rw [hv, line_six]
          omega
        cases h1 : (fromE p q).v <;> cases h2 : (toE p q).v
        · exact e (h1.trans h2.symm)
        · -- from is of IPv4, to of IPv6: then both ends of p and q that begin at or below from are IPv4
          have hf := four f1 h1
          have ht := six h2
          have lp : p.v = false := by
            cases hv : p.v with
            | false => rfl
            | true => have := six (x := loE p) hv; omega
          have h6 : lineE (hiE p) < 2 ^ 32 := four (hi_ok hp) lp
          omega
        · have hf := six h1
          have ht := four t1 h2
          omega
        · exact e (h1.trans h2.symm)
    refine ⟨?_, fun s hs => ?_⟩
    · rw [List.map_cons, List.map_nil]
      show [(lineZ (fromE p q).v (fromE p q).a, lineZ (fromE p q).v (toE p q).a)] = _
      have g1 : lineZ (fromE p q).v (fromE p q).a = lineE (fromE p q) := rfl
      have g2 : lineZ (fromE p q).v (toE p q).a = lineE (toE p q) := by rw [ev]; rfl
      rw [g1, g2, f3, t3]
    · rw [List.mem_singleton.1 hs]
      refine ⟨f1.1, t1.1, ?_⟩
      show rightZ (fromE p q).v (fromE p q).a (toE p q).a = true
      have kT : (fromE p q).v = false → aN (toE p q).a % 2 ^ 96 = 0 := fun h => t1.2 (ev ▸ h)
      have ll : lineZ (fromE p q).v (fromE p q).a ≤ lineZ (fromE p q).v (toE p q).a := by
        have g2 : lineZ (fromE p q).v (toE p q).a = lineE (toE p q) := by rw [ev]; rfl
        rw [g2]
        show lineE (fromE p q) ≤ _
        rw [f3, t3]
        exact k2
      have kF : (fromE p q).v = false → aN (fromE p q).a % 2 ^ 96 = 0 := f1.2
      have le : aN (fromE p q).a ≤ aN (toE p q).a := (line_le kF kT).1 ll
      unfold rightZ
      cases hv : (fromE p q).v with
      | true => simp [le]
      | false => simp [le, kF hv, kT hv]
  · rw [if_neg k, if_neg (fun h => k (c2.2 h))]
    exact ⟨rfl, fun s hs => by cases hs⟩
theorem isect_line : ∀ (f : Nat) {a b : List SpanZ}, (∀ s ∈ a, SpanOk s) → (∀ s ∈ b, SpanOk s) → (isectS f a b).map lineS = isectZ f (a.map lineS) (b.map lineS) ∧ ∀ s ∈ isectS f a b, SpanOk s
  | 0, a, b, _, _ => by
    unfold isectS isectZ
    exact ⟨rfl, fun s hs => by cases hs⟩
  | f + 1, [], b, _, _ => by
    unfold isectS isectZ
    exact ⟨rfl, fun s hs => by cases hs⟩
  | f + 1, p :: a, [], _, _ => by
    unfold isectS isectZ
    exact ⟨rfl, fun s hs => by cases hs⟩
  | f + 1, p :: a, q :: b, ha, hb => by
    have hp := ha p List.mem_cons_self
    have hq := hb q List.mem_cons_self
    obtain ⟨m1, m2⟩ := meet_line hp hq
    have tl := to_line hp hq
    have i1 := isect_line f (a := a) (b := q :: b) (fun s hs => ha s (List.mem_cons_of_mem _ hs)) hb
    have i2 := isect_line f (a := p :: a) (b := b) ha (fun s hs => hb s (List.mem_cons_of_mem _ hs))
    unfold isectS
    rw [List.map_cons, List.map_cons]
    unfold isectZ
    rw [List.map_append, m1]
    by_cases k : (lineS p).2 ≤ (lineS q).2
    · rw [if_pos k, if_pos (tl.2 k), i1.1]
      refine ⟨rfl, fun s hs => ?_⟩
      rcases List.mem_append.1 hs with hs | hs
      · exact m2 s hs
      · exact i1.2 s hs
    · rw [if_neg k, if_neg (fun h => k (tl.1 h)), i2.1]
      refine ⟨rfl, fun s hs => ?_⟩
      rcases List.mem_append.1 hs with hs | hs
      · exact m2 s hs
      · exact i2.2 s hs
/-- What Both's loop makes. -/
theorem both_isect {a b : List SpanZ} (ha : SpansZ a) (hb : SpansZ b) (f : Nat) (hf : (joinS a).length + (joinS b).length ≤ f) : isectS f (joinS a) (joinS b) = bothS a b := by
  have oa := join_ok ha
  have ob := join_ok hb
  have na := join_norm' ha
  have nb := join_norm' hb
  obtain ⟨h1, h2⟩ := isect_line f oa ob
  rw [onL_ok oa] at na
  rw [onL_ok ob] at nb
  have e : onL (isectS f (joinS a) (joinS b)) = isectZ f ((joinS a).map lineS) ((joinS b).map lineS) := by rw [onL_ok h2, h1]
  refine norm_same h2 (both_ok ha hb) ?_ ?_ (fun x => ?_)
  · rw [e]
    exact norm_isect f na nb
  · exact join_norm' (pair_spans ha hb)
  · rw [e, in_isect f na nb (by rw [List.length_map, List.length_map]; exact hf), in_bothS ha hb, ← onL_ok oa, ← onL_ok ob, in_joinS ha, in_joinS hb]

end Go.Proofs.Yteddeebhfnpchaa

namespace Go.Proofs.Yteddeebhfnpchaa
open Go.RowKit
set_option linter.unusedVariables false

def endP (x : EndZ) : PfZ := ⟨x.v, x.a, mostZ x.v⟩
theorem ecmp_any (x y : EndZ) (w : World) (hx : Sixteen x.a) (hy : Sixteen y.a) : Calls Try.prog 25 #[.agg (qcells (endP x)), .agg (qcells (endP y))] w fun e w' => e = .returned (.int .i64 (cmpE x y)) ∧ Below w.heap.size w w' :=
  (pcmp_any x.v x.a (mostZ x.v) y.v y.a (mostZ y.v) w hx hy).mono (fun _ _ h => ⟨h.1, h.2.1⟩)
theorem pf_range {W : World} {g : Nat} {L : List PfZ} {n : Nat} (h : PfRow W (some ⟨g, 0, none⟩) n L) (j : Nat) (hj : j < L.length) {p : PfZ} (e : L[j] = p) : W.rangeAt g (j * 18) (qcL p) := by
  subst e
  have := h.range j hj
  rwa [Nat.zero_add] at this

theorem pf_setRow {W : World} {g m n : Nat} {L : List PfZ} (h : PfRow W (some ⟨g, 0, none⟩) n L) (hg : g ≠ m) (cs : Array Value) : PfRow (W.setRow m cs) (some ⟨g, 0, none⟩) n L := by
  refine ⟨h.1, h.2.1, fun hn => ?_⟩
  obtain ⟨b, off, e, hb, hc⟩ := h.2.2 hn
  injection e with e
  injection e with e1 e2
  subst e1 e2
  refine ⟨g, 0, rfl, by simpa [World.setRow] using hb, fun i hi => ?_⟩
  rw [← hc i hi]
  exact World.cell?_of_block (a := ⟨g, 0 + i, none⟩) (setRow_other W m g cs hg)

set_option maxHeartbeats 400000 in
set_option maxRecDepth 10000 in
theorem max_any (x y : EndZ) (g : Nat) (w : World) (hx : Sixteen x.a) (hy : Sixteen y.a) (hr : PfRow w (some ⟨g, 0, none⟩) 2 [endP x, endP y]) :
    Calls Try.prog 29 #[.slice (some ⟨g, 0, none⟩) 2 2, .func (.func 25) #[] #[]] w fun e w' => e = .returned (.agg (qcells (endP (maxE x y)))) ∧ Below w.heap.size w w' := by
  have x6 : SixQ (endP x) := hx
  have y6 : SixQ (endP y) := hy
  have r6 : SixQ (endP (maxE x y)) := by
    unfold maxE
    split
    · exact hy
    · exact hx
  have ME : (0 < cmpE y x) → endP (maxE x y) = endP y := fun h => by
    unfold maxE
    rw [if_pos h]
  have MN : ¬ (0 < cmpE y x) → endP (maxE x y) = endP x := fun h => by
    unfold maxE
    rw [if_neg h]
  have CC := Lib.hid (fun W => ecmp_any y x W hy hx)
  have SX : Hid ((Try.prog.info? 37).map (·.size) = some (qcells (endP x)).size) := Lib.hid (Try.sizeP x6.1)
  have SY : Hid ((Try.prog.info? 37).map (·.size) = some (qcells (endP y)).size) := Lib.hid (Try.sizeP y6.1)
  have SR : Hid ((Try.prog.info? 37).map (·.size) = some (qcells (endP (maxE x y))).size) := Lib.hid (Try.sizeP r6.1)
  have LX : Hid ((Try.prog.info? 37).map (·.size) = some (qcL (endP x)).length) := Lib.hid (by rw [qcells_len x6, SX.out, qcells_size x6])
  have LY : Hid ((Try.prog.info? 37).map (·.size) = some (qcL (endP y)).length) := Lib.hid (by rw [qcells_len y6, SY.out, qcells_size y6])
  have ZX : Hid (ZP.size = (qcells (endP x)).size) := Lib.hid (by rw [qcells_size x6]; rfl)
  have ZR : Hid (ZP.size = (qcells (endP (maxE x y))).size) := Lib.hid (by rw [qcells_size r6]; rfl)
  have XY : Hid ((qcells (endP x)).size = (qcells (endP y)).size) := Lib.hid (by rw [qcells_size x6, qcells_size y6])
  have PX := Lib.hid (qcells_one (endP x))
  have PY := Lib.hid (qcells_one (endP y))
  have PR := Lib.hid (qcells_one (endP (maxE x y)))
  have EX : Hid ((qcL (endP x)).toArray = qcells (endP x)) := Lib.hid rfl
  have EY : Hid ((qcL (endP y)).toArray = qcells (endP y)) := Lib.hid rfl
  obtain ⟨n, hn⟩ : ∃ n, w.heap.size = n := ⟨_, rfl⟩
  have ZB : Hid (Blk ((w.alloc (.cells ZP 37)).alloc (.cells (qcells (endP x)) 37)) n 37 ZP) := Lib.hid (by rw [← hn]; exact (Blk.new _ _ _).alloc _)
  have XB : Hid (Blk ((w.alloc (.cells ZP 37)).alloc (.cells (qcells (endP x)) 37)) (n + 1) 37 (qcells (endP x))) := Lib.hid (by
    have := Blk.new (w.alloc (.cells ZP 37)) 37 (qcells (endP x))
    rwa [World.size_alloc, hn] at this)
  have AZ : Hid (Blk ((w.alloc (.cells ZP 37)).alloc (.cells ZP 37)) (w.alloc (.cells ZP 37)).heap.size 37 ZP) := Lib.hid (Blk.new _ _ _)
  have bw := Below.step (box_below w (.cells ZP 37)) (box_below _ (.cells (qcells (endP x)) 37))
  have BW : Hid (Below n w ((w.alloc (.cells ZP 37)).alloc (.cells (qcells (endP x)) 37))) := Lib.hid (by rw [← hn]; exact bw)
  have RA := Lib.hid (pf_range (hr.below (box_below w (.cells ZP 37))) 0 (by simp) (p := endP x) rfl)
  have RW := Lib.hid (hr.below bw)
  have GL : Hid (g < n) := Lib.hid (by
    obtain ⟨b, off, e, hb⟩ := hr.form (by omega)
    injection e with e
    injection e with e1 e2
    subst e1
    rw [← hn]
    exact hb)
  clear bw hr x6 y6 r6
  generalize hQX : qcells (endP x) = QX at *
  generalize hQY : qcells (endP y) = QY at *
  generalize hQR : qcells (endP (maxE x y)) = QR at *
  have HR1 : Hid ((0 < cmpE y x) → QR = QY) := Lib.hid (fun h => by rw [← hQR, ME h]; exact hQY)
  have HR2 : Hid (¬ (0 < cmpE y x) → QR = QX) := Lib.hid (fun h => by rw [← hQR, MN h]; exact hQX)
  clear ME MN hQX hQY hQR
  go_enter Try.func29, Try.ntmps29
  go_wp2_with (first
    | (refine Great.wpList_allocTo rfl (some 4) rfl (.pointer (some ⟨w.heap.size, 0, none⟩)) (.cells ZP 37) (alloc_prefix_run rfl) ?_)
    | (refine wpList_load_mid rfl 37 (.tmp 12) rfl g 0 rfl (qcL (endP x)) _ RA.out Try.underlying37 rfl LX.out ?_; rw [EX.out])
    | (refine Great.wpList_allocTo rfl (some 5) rfl (.pointer (some ⟨(w.alloc (.cells ZP 37)).heap.size, 0, none⟩)) (.cells ZP 37) (alloc_prefix_run rfl) ?_)
    | (refine wpList_store_rowTo rfl 37 (.tmp 5) (.tmp 13) rfl rfl (w.alloc (.cells ZP 37)).heap.size QX rfl rfl 37 ZP AZ.out SX.out ZX.out PX.out ?_; rw [alloc_setRow]))
  clear AZ RA
  generalize (w.alloc (.cells ZP 37)).alloc (.cells QX 37) = W1 at *
  go_loopw [6] (fun iV wr => ∃ k : Nat, iV = .int .i64 (k : Int) ∧ ((k = 1 ∧ Blk wr (n + 1) 37 QX) ∨ (k = 2 ∧ Blk wr (n + 1) 37 QR)) ∧ Blk wr n 37 ZP ∧ PfRow wr (some ⟨g, 0, none⟩) 2 [endP x, endP y] ∧ Below n w wr) (fun iV _ => (5 - intOf iV).toNat)
  case atStart => exact ⟨1, rfl, .inl ⟨rfl, XB.out⟩, ZB.out, RW.out, BW.out⟩
  case round =>
    obtain ⟨k, rfl, hk, hz, hrw, hbw⟩ := hrel
    have Z5 := Lib.hid hz
    have R5 := Lib.hid hrw
    have B5 := Lib.hid hbw
    clear hz hrw hbw ZB XB RW BW
    rcases hk with ⟨rfl, hb⟩ | ⟨rfl, hb⟩
    · have X5 := Lib.hid hb
      clear hb
      go_upto_region 7 with (fail)
      have X6 : Hid (Blk wr.drew (n + 1) 37 QX) := X5
      have Z6 : Hid (Blk wr.drew n 37 ZP) := Z5
      have R6 : Hid (PfRow wr.drew (some ⟨g, 0, none⟩) 2 [endP x, endP y]) := Lib.hid (R5.out.below (drewN_below wr 1))
      have B6 : Hid (Below n w wr.drew) := Lib.hid B5.out.drew
      have N6 : Hid (n + 1 < wr.drew.heap.size) := Lib.hid X5.out.lt
      clear X5 Z5 R5 B5
      refine wp_region_ord Ext Ext.refl (fun _ _ _ => Ext.trans) ((0, false) :: (1, false) :: (2, false) :: (3, false) :: (4, false) :: (5, false) :: (6, true) :: (7, false) :: []) (by kernel_rfl) (by kernel_rfl) rfl (by kernel_rfl) (fun _ _ _ _ _ h => h) ?_
      generalize wr.drew = w6 at *
      repeat (first
        | (refine ord_skip rfl (by rfl) ?_; simp only [Act.put, List.setIfInBounds_toArray, List.set_cons_zero, List.set_cons_succ])
        | (refine ord_take _ rfl (by rfl) (fun W hW => yields_row 37 (.tmp 5) rfl (n + 1) 37 QX _ rfl (Blk.below X6.out hW X6.out.lt) Try.underlying37 rfl SX.out) ?_; simp only [Act.put, List.setIfInBounds_toArray, List.set_cons_zero, List.set_cons_succ])
        | (refine ord_take (.agg QY) rfl (by rfl) (fun W hW => by rw [← EY.out]; exact yields_part 37 (.tmp 23) rfl g 18 (qcL (endP y)) _ rfl (pf_range (R6.out.below hW) 1 (by simp) rfl) Try.underlying37 rfl LY.out) ?_; simp only [Act.put, List.setIfInBounds_toArray, List.set_cons_zero, List.set_cons_succ])
        | (refine ord_take _ rfl (by rfl) (fun W hW => by go_simp; first | done | rfl) ?_; simp only [Act.put, List.setIfInBounds_toArray, List.set_cons_zero, List.set_cons_succ])
        | (refine ord_sole rfl (by rfl) (fun K1 hK1 => ?_)
           go_simp
           first
             | refine (CC.out _).mono ?_
           rintro r w5 ⟨rfl, hb5⟩
           refine hK1 _ _ hb5 ?_
           clear hK1 K1
           replace B6 := Lib.hid (B6.out.trans (hb5.mono (by have := N6.out; omega)))
           replace X6 := Lib.hid (X6.out.below hb5 X6.out.lt)
           replace Z6 := Lib.hid (Z6.out.below hb5 Z6.out.lt)
           replace R6 := Lib.hid (R6.out.below hb5)
           clear hb5))
      refine ord_end ?_
      have RB := Lib.hid (pf_range R6.out 1 (by simp) (p := endP y) rfl)
      by_cases hc : 0 < cmpE y x
      · have tc : decide (0 < cmpE y x) = true := decide_eq_true hc
        have e2 := HR1.out hc
        go_wp2_with (first
          | (refine wpList_load_mid rfl 37 (.tmp 30) rfl g 18 rfl (qcL (endP y)) _ RB.out Try.underlying37 rfl LY.out ?_; rw [EY.out])
          | (refine wpList_store_rowTo rfl 37 (.tmp 5) (.tmp 31) rfl rfl (n + 1) QY rfl rfl 37 QX X6.out SY.out XY.out PY.out ?_))
        go_roundw
        case rel =>
          refine ⟨2, by go_num, .inr ⟨rfl, ?_⟩, (setRow_other _ _ _ _ (by omega)).trans Z6.out, ?_, below_setRow B6.out (by omega) QY⟩
          · rw [e2]
            exact setRow_heap _ _ _ _ 37 _ X6.out
          · exact pf_setRow R6.out (by have := GL.out; omega) QY
        case measure => simp only [intOf]; omega
      · have tc : decide (0 < cmpE y x) = false := decide_eq_false hc
        have e2 := HR2.out (by omega)
        go_wp2_with fail
        go_roundw
        case rel => exact ⟨2, by go_num, .inr ⟨rfl, by rw [e2]; exact X6.out⟩, Z6.out, R6.out, B6.out⟩
        case measure => simp only [intOf]; omega
    · have X5 := Lib.hid hb
      clear hb
      go_wp2_with (first
        | (refine wpList_load_row rfl 37 (.tmp 5) rfl (n + 1) rfl 37 QR (0, 0) _ X5.out Try.underlying37 rfl SR.out ?_)
        | (refine wpList_store_rowTo rfl 37 (.tmp 4) (.tmp 32) rfl rfl n QR rfl rfl 37 ZP Z5.out SR.out ZR.out PR.out ?_))
      exact bodyPost_ret (results_cell_row rfl _ _ n 37 QR (0, 0) _ rfl (setRow_heap _ _ _ _ 37 _ Z5.out) Try.underlying37 rfl SR.out) rfl ⟨rfl, by rw [hn]; exact below_setRow B5.out (by omega) QR⟩

set_option maxHeartbeats 400000 in
set_option maxRecDepth 10000 in
theorem min_any (x y : EndZ) (g : Nat) (w : World) (hx : Sixteen x.a) (hy : Sixteen y.a) (hr : PfRow w (some ⟨g, 0, none⟩) 2 [endP x, endP y]) :
    Calls Try.prog 31 #[.slice (some ⟨g, 0, none⟩) 2 2, .func (.func 25) #[] #[]] w fun e w' => e = .returned (.agg (qcells (endP (minE x y)))) ∧ Below w.heap.size w w' := by
  have x6 : SixQ (endP x) := hx
  have y6 : SixQ (endP y) := hy
  have r6 : SixQ (endP (minE x y)) := by
    unfold minE
    split
    · exact hy
    · exact hx
  have ME : (cmpE y x < 0) → endP (minE x y) = endP y := fun h => by
    unfold minE
    rw [if_pos h]
  have MN : ¬ (cmpE y x < 0) → endP (minE x y) = endP x := fun h => by
    unfold minE
    rw [if_neg h]
  have CC := Lib.hid (fun W => ecmp_any y x W hy hx)
  have SX : Hid ((Try.prog.info? 37).map (·.size) = some (qcells (endP x)).size) := Lib.hid (Try.sizeP x6.1)
  have SY : Hid ((Try.prog.info? 37).map (·.size) = some (qcells (endP y)).size) := Lib.hid (Try.sizeP y6.1)
  have SR : Hid ((Try.prog.info? 37).map (·.size) = some (qcells (endP (minE x y))).size) := Lib.hid (Try.sizeP r6.1)
  have LX : Hid ((Try.prog.info? 37).map (·.size) = some (qcL (endP x)).length) := Lib.hid (by rw [qcells_len x6, SX.out, qcells_size x6])
  have LY : Hid ((Try.prog.info? 37).map (·.size) = some (qcL (endP y)).length) := Lib.hid (by rw [qcells_len y6, SY.out, qcells_size y6])
  have ZX : Hid (ZP.size = (qcells (endP x)).size) := Lib.hid (by rw [qcells_size x6]; rfl)
  have ZR : Hid (ZP.size = (qcells (endP (minE x y))).size) := Lib.hid (by rw [qcells_size r6]; rfl)
  have XY : Hid ((qcells (endP x)).size = (qcells (endP y)).size) := Lib.hid (by rw [qcells_size x6, qcells_size y6])
  have PX := Lib.hid (qcells_one (endP x))
  have PY := Lib.hid (qcells_one (endP y))
  have PR := Lib.hid (qcells_one (endP (minE x y)))
  have EX : Hid ((qcL (endP x)).toArray = qcells (endP x)) := Lib.hid rfl
  have EY : Hid ((qcL (endP y)).toArray = qcells (endP y)) := Lib.hid rfl
  obtain ⟨n, hn⟩ : ∃ n, w.heap.size = n := ⟨_, rfl⟩
  have ZB : Hid (Blk ((w.alloc (.cells ZP 37)).alloc (.cells (qcells (endP x)) 37)) n 37 ZP) := Lib.hid (by rw [← hn]; exact (Blk.new _ _ _).alloc _)
  have XB : Hid (Blk ((w.alloc (.cells ZP 37)).alloc (.cells (qcells (endP x)) 37)) (n + 1) 37 (qcells (endP x))) := Lib.hid (by
    have := Blk.new (w.alloc (.cells ZP 37)) 37 (qcells (endP x))
    rwa [World.size_alloc, hn] at this)
  have AZ : Hid (Blk ((w.alloc (.cells ZP 37)).alloc (.cells ZP 37)) (w.alloc (.cells ZP 37)).heap.size 37 ZP) := Lib.hid (Blk.new _ _ _)
  have bw := Below.step (box_below w (.cells ZP 37)) (box_below _ (.cells (qcells (endP x)) 37))
  have BW : Hid (Below n w ((w.alloc (.cells ZP 37)).alloc (.cells (qcells (endP x)) 37))) := Lib.hid (by rw [← hn]; exact bw)
  have RA := Lib.hid (pf_range (hr.below (box_below w (.cells ZP 37))) 0 (by simp) (p := endP x) rfl)
  have RW := Lib.hid (hr.below bw)
  have GL : Hid (g < n) := Lib.hid (by
    obtain ⟨b, off, e, hb⟩ := hr.form (by omega)
    injection e with e
    injection e with e1 e2
    subst e1
    rw [← hn]
    exact hb)
  clear bw hr x6 y6 r6
  generalize hQX : qcells (endP x) = QX at *
  generalize hQY : qcells (endP y) = QY at *
  generalize hQR : qcells (endP (minE x y)) = QR at *
  have HR1 : Hid ((cmpE y x < 0) → QR = QY) := Lib.hid (fun h => by rw [← hQR, ME h]; exact hQY)
  have HR2 : Hid (¬ (cmpE y x < 0) → QR = QX) := Lib.hid (fun h => by rw [← hQR, MN h]; exact hQX)
  clear ME MN hQX hQY hQR
  go_enter Try.func31, Try.ntmps31
  go_wp2_with (first
    | (refine Great.wpList_allocTo rfl (some 4) rfl (.pointer (some ⟨w.heap.size, 0, none⟩)) (.cells ZP 37) (alloc_prefix_run rfl) ?_)
    | (refine wpList_load_mid rfl 37 (.tmp 12) rfl g 0 rfl (qcL (endP x)) _ RA.out Try.underlying37 rfl LX.out ?_; rw [EX.out])
    | (refine Great.wpList_allocTo rfl (some 5) rfl (.pointer (some ⟨(w.alloc (.cells ZP 37)).heap.size, 0, none⟩)) (.cells ZP 37) (alloc_prefix_run rfl) ?_)
    | (refine wpList_store_rowTo rfl 37 (.tmp 5) (.tmp 13) rfl rfl (w.alloc (.cells ZP 37)).heap.size QX rfl rfl 37 ZP AZ.out SX.out ZX.out PX.out ?_; rw [alloc_setRow]))
  clear AZ RA
  generalize (w.alloc (.cells ZP 37)).alloc (.cells QX 37) = W1 at *
  go_loopw [6] (fun iV wr => ∃ k : Nat, iV = .int .i64 (k : Int) ∧ ((k = 1 ∧ Blk wr (n + 1) 37 QX) ∨ (k = 2 ∧ Blk wr (n + 1) 37 QR)) ∧ Blk wr n 37 ZP ∧ PfRow wr (some ⟨g, 0, none⟩) 2 [endP x, endP y] ∧ Below n w wr) (fun iV _ => (5 - intOf iV).toNat)
  case atStart => exact ⟨1, rfl, .inl ⟨rfl, XB.out⟩, ZB.out, RW.out, BW.out⟩
  case round =>
    obtain ⟨k, rfl, hk, hz, hrw, hbw⟩ := hrel
    have Z5 := Lib.hid hz
    have R5 := Lib.hid hrw
    have B5 := Lib.hid hbw
    clear hz hrw hbw ZB XB RW BW
    rcases hk with ⟨rfl, hb⟩ | ⟨rfl, hb⟩
    · have X5 := Lib.hid hb
      clear hb
      go_upto_region 7 with (fail)
      have X6 : Hid (Blk wr.drew (n + 1) 37 QX) := X5
      have Z6 : Hid (Blk wr.drew n 37 ZP) := Z5
      have R6 : Hid (PfRow wr.drew (some ⟨g, 0, none⟩) 2 [endP x, endP y]) := Lib.hid (R5.out.below (drewN_below wr 1))
      have B6 : Hid (Below n w wr.drew) := Lib.hid B5.out.drew
      have N6 : Hid (n + 1 < wr.drew.heap.size) := Lib.hid X5.out.lt
      clear X5 Z5 R5 B5
      refine wp_region_ord Ext Ext.refl (fun _ _ _ => Ext.trans) ((0, false) :: (1, false) :: (2, false) :: (3, false) :: (4, false) :: (5, false) :: (6, true) :: (7, false) :: []) (by kernel_rfl) (by kernel_rfl) rfl (by kernel_rfl) (fun _ _ _ _ _ h => h) ?_
      generalize wr.drew = w6 at *
      repeat (first
        | (refine ord_skip rfl (by rfl) ?_; simp only [Act.put, List.setIfInBounds_toArray, List.set_cons_zero, List.set_cons_succ])
        | (refine ord_take _ rfl (by rfl) (fun W hW => yields_row 37 (.tmp 5) rfl (n + 1) 37 QX _ rfl (Blk.below X6.out hW X6.out.lt) Try.underlying37 rfl SX.out) ?_; simp only [Act.put, List.setIfInBounds_toArray, List.set_cons_zero, List.set_cons_succ])
        | (refine ord_take (.agg QY) rfl (by rfl) (fun W hW => by rw [← EY.out]; exact yields_part 37 (.tmp 23) rfl g 18 (qcL (endP y)) _ rfl (pf_range (R6.out.below hW) 1 (by simp) rfl) Try.underlying37 rfl LY.out) ?_; simp only [Act.put, List.setIfInBounds_toArray, List.set_cons_zero, List.set_cons_succ])
        | (refine ord_take _ rfl (by rfl) (fun W hW => by go_simp; first | done | rfl) ?_; simp only [Act.put, List.setIfInBounds_toArray, List.set_cons_zero, List.set_cons_succ])
        | (refine ord_sole rfl (by rfl) (fun K1 hK1 => ?_)
           go_simp
           first
             | refine (CC.out _).mono ?_
           rintro r w5 ⟨rfl, hb5⟩
           refine hK1 _ _ hb5 ?_
           clear hK1 K1
           replace B6 := Lib.hid (B6.out.trans (hb5.mono (by have := N6.out; omega)))
           replace X6 := Lib.hid (X6.out.below hb5 X6.out.lt)
           replace Z6 := Lib.hid (Z6.out.below hb5 Z6.out.lt)
           replace R6 := Lib.hid (R6.out.below hb5)
           clear hb5))
      refine ord_end ?_
      have RB := Lib.hid (pf_range R6.out 1 (by simp) (p := endP y) rfl)
      by_cases hc : cmpE y x < 0
      · have tc : decide (cmpE y x < 0) = true := decide_eq_true hc
        have e2 := HR1.out hc
        go_wp2_with (first
          | (refine wpList_load_mid rfl 37 (.tmp 30) rfl g 18 rfl (qcL (endP y)) _ RB.out Try.underlying37 rfl LY.out ?_; rw [EY.out])
          | (refine wpList_store_rowTo rfl 37 (.tmp 5) (.tmp 31) rfl rfl (n + 1) QY rfl rfl 37 QX X6.out SY.out XY.out PY.out ?_))
        go_roundw
        case rel =>
          refine ⟨2, by go_num, .inr ⟨rfl, ?_⟩, (setRow_other _ _ _ _ (by omega)).trans Z6.out, ?_, below_setRow B6.out (by omega) QY⟩
          · rw [e2]
            exact setRow_heap _ _ _ _ 37 _ X6.out
          · exact pf_setRow R6.out (by have := GL.out; omega) QY
        case measure => simp only [intOf]; omega
      · have tc : decide (cmpE y x < 0) = false := decide_eq_false hc
        have e2 := HR2.out (by omega)
        go_wp2_with fail
        go_roundw
        case rel => exact ⟨2, by go_num, .inr ⟨rfl, by rw [e2]; exact X6.out⟩, Z6.out, R6.out, B6.out⟩
        case measure => simp only [intOf]; omega
    · have X5 := Lib.hid hb
      clear hb
      go_wp2_with (first
        | (refine wpList_load_row rfl 37 (.tmp 5) rfl (n + 1) rfl 37 QR (0, 0) _ X5.out Try.underlying37 rfl SR.out ?_)
        | (refine wpList_store_rowTo rfl 37 (.tmp 4) (.tmp 32) rfl rfl n QR rfl rfl 37 ZP Z5.out SR.out ZR.out PR.out ?_))
      exact bodyPost_ret (results_cell_row rfl _ _ n 37 QR (0, 0) _ rfl (setRow_heap _ _ _ _ 37 _ Z5.out) Try.underlying37 rfl SR.out) rfl ⟨rfl, by rw [hn]; exact below_setRow B5.out (by omega) QR⟩

end Go.Proofs.Yteddeebhfnpchaa
