/-
  Merged texts: SrP, SqM, SrQ, SrR, SrS.
-/
import Derived.Test.YtlmndmfebgaidaaGreatDoorGnE
import Derived.Test.YtlmndmfebgaidaaGreatDoorGnA
import Derived.Deep.CutRange
namespace Go.Proofs.YtlmndmfebgaidaaGreatDoor
open Go.RowKit
set_option maxRecDepth 100000
set_option linter.unusedVariables false
theorem op_of_run {P : Program} {o : Oper} {a : Act} {w : World} {K : Act → World → Prop} {Q : Exit → Act → World → Prop} (v : Value) (w' : World) (h : (execOp a.eval o).run P w = .ok (.value v) w') (hK : K (a.put o.dst v) w') : o.wp P a w K Q := by
  unfold Oper.wp
  rw [h]
  exact hK
theorem op_of_skip {P : Program} {o : Oper} {a : Act} {w : World} {K : Act → World → Prop} {Q : Exit → Act → World → Prop} (w' : World) (h : (execOp a.eval o).run P w = .ok .skip w') (hK : K (a.put o.dst undef) w') : o.wp P a w K Q := by
  unfold Oper.wp
  rw [h]
  exact hK
theorem op_alloc_pf {o : Oper} {a : Act} {w : World} {K : Act → World → Prop} {Q : Exit → Act → World → Prop} (ho : o.op = .alloc 43)
    (hK : ∀ g w', w.heap.size ≤ g → Blk w' g 43 ZP → Below w.heap.size w w' → K (a.put o.dst (.pointer (some ⟨g, 0, none⟩))) w') : o.wp Tryz.prog a w K Q :=
  op_of_run _ _ (alloc_prefix_run ho) (hK _ _ (Nat.le_refl _) (Blk.new _ _ _) (box_below _ _))
theorem pf_made (w : World) {L : List PfZ} (hL : SixM L) (n : Nat) (hn : L.length = n) : PfRow (w.alloc (.cells (flatQ L).toArray 43)) (some ⟨w.heap.size, 0, none⟩) n L := by
  refine ⟨hn, hL, fun _ => ⟨w.heap.size, 0, rfl, by simp, fun i hi => ?_⟩⟩
  rw [Nat.zero_add, Blk.cell (Blk.new w 43 (flatQ L).toArray) i, List.getElem?_toArray]
theorem built_pf2 (x y : PfZ) (hx : SixQ x) (hy : SixQ y) : Tryz.prog.builtSlice 43 2 [(0, .agg (qcells x)), (1, .agg (qcells y))] = some (flatQ [x, y]).toArray := by
  obtain ⟨v, A, L⟩ := x
  obtain ⟨u, B, M⟩ := y
  obtain ⟨a0, a1, a2, a3, a4, a5, a6, a7, a8, a9, a10, a11, a12, a13, a14, a15, rfl⟩ := sixteen_parts hx.1
  obtain ⟨b0, b1, b2, b3, b4, b5, b6, b7, b8, b9, b10, b11, b12, b13, b14, b15, rfl⟩ := sixteen_parts hy.1
  kernel_rfl
theorem op_buildSlice {P : Program} {o : Oper} {a : Act} {w : World} {K : Act → World → Prop} {Q : Exit → Act → World → Prop} (t e : TypeId) (len : Nat) (parts : Array (Nat × Operand)) (ho : o.op = .buildSlice t len parts)
    (hu : P.underlying t = some (.slice e)) (cells : Array Value) (ps : List (Nat × Value)) (hb : P.builtSlice e len ps = some cells) (hps : (parts.map fun (i, x) => (i, a.eval x)).toList = ps)
    (h : K (a.put o.dst (.slice (some ⟨w.heap.size, 0, none⟩) len len)) (w.alloc (.cells cells e))) : o.wp P a w K Q := by
  subst hps
  refine op_of_run _ _ ?_ h
  unfold Program.builtSlice at hb
  cases hie : P.info? e with
  | none => simp [hie] at hb
  | some ie =>
    simp only [hie] at hb
    cases hz : ie.zero with
    | none => simp [hz] at hb
    | some z =>
      simp only [hz] at hb
      by_cases hc : len * ie.size > 2 ^ 24 ∨ len * ie.size = 0
      · simp [hc] at hb
      · rw [if_neg hc] at hb
        unfold execOp
        simp only [ho, Sem.run_bind, run_buildSlice w t e len _ cells ie z hu hie hz (fun h' => hc (Or.inl h')) (fun h' => hc (Or.inr h')) hb, Result.andThen_ok, Sem.run_pure]
theorem op_pf2 {o : Oper} {a : Act} {w : World} {K : Act → World → Prop} {Q : Exit → Act → World → Prop} (x y : PfZ) (parts : Array (Nat × Operand)) (ho : o.op = .buildSlice 121 2 parts)
    (hps : (parts.map fun (i, x) => (i, a.eval x)).toList = [(0, .agg (qcells x)), (1, .agg (qcells y))]) (hx : SixQ x) (hy : SixQ y)
    (hK : ∀ g w', PfRow w' (some ⟨g, 0, none⟩) 2 [x, y] → Below w.heap.size w w' → K (a.put o.dst (.slice (some ⟨g, 0, none⟩) 2 2)) w') : o.wp Tryz.prog a w K Q :=
  op_buildSlice 121 43 2 parts ho Tryz.underlying121 _ _ (built_pf2 x y hx hy) hps (hK _ _ (pf_made w (fun p hp => by
    simp only [List.mem_cons, List.not_mem_nil, or_false] at hp
    rcases hp with rfl | rfl
    · exact hx
    · exact hy) 2 rfl) (box_below _ _))
theorem op_store_pf {o : Oper} {a : Act} {w : World} {K : Act → World → Prop} {Q : Exit → Act → World → Prop} (x y : Operand) (ho : o.op = .store 43 x y) (hdst : o.dst = none) (g : Nat) (z : PfZ) (hz : SixQ z) (hx : a.eval x = .pointer (some ⟨g, 0, none⟩)) (hy : a.eval y = .agg (qcells z))
    (hb : Blk w g 43 ZP) (hK : K a (w.setRow g (qcells z))) : o.wp Tryz.prog a w K Q := by
  refine op_of_skip (w.setRow g (qcells z)) ?_ (by rw [hdst]; exact hK)
  unfold execOp
  simp only [ho, hx, hy, Instr.storeAt, Instr.sureAddr, Sem.run_bind, Sem.run_pure, Result.andThen_ok, run_storeVar_row (P := Tryz.prog) w g 43 43 ZP (qcells z) hb (Tryz.sizeP hz.1) (by rw [qcells_size hz]; rfl) (qcells_one z)]
theorem SpOut.setRow {W0 w : World} {V : Value} {L : List SpanZ} (h : SpOut W0 w V L) {g : Nat} {cs : Array Value} (hb : Blk w g 43 cs) (hg : W0.heap.size ≤ g) (ds : Array Value) : SpOut W0 (w.setRow g ds) V L := by
  refine ⟨⟨h.1.1, ?_⟩, below_setRow h.2.1 hg ds, h.2.2⟩
  rcases h.1.2 with h' | ⟨k, cap, cur, e, h1, h2, h3⟩
  · exact .inl h'
  · refine .inr ⟨k, cap, cur, e, h1, ?_, h3⟩
    refine (setRow_other w g k ds (fun e2 => ?_)).trans h2
    subst e2
    have := hb.symm.trans h2
    simp at this
theorem sp_head {w : World} {b off n : Nat} {p : SpanZ} {r : List SpanZ} (h : SpRow w (some ⟨b, off, none⟩) n (p :: r)) : w.rangeAt b off (scL p) := by
  have := h.range 0 (by simp)
  rwa [Nat.zero_mul, Nat.add_zero] at this
theorem sp_tail {w : World} {b off n : Nat} {p : SpanZ} {r : List SpanZ} (h : SpRow w (some ⟨b, off, none⟩) n (p :: r)) : SpRow w (some ⟨b, off + 33, none⟩) (n - 1) r := by
  have := h.rest 1 (by rw [← h.1]; simp)
  simpa using this
theorem sort_len : ∀ (l row : List SpanZ), (sortS row l).length ≤ row.length + l.length
  | [], row => Nat.le_refl _
  | p :: l, row => by
    unfold sortS
    have ins : ∀ r : List SpanZ, (insS p r).length = r.length + 1 := by
      intro r
      induction r with
      | nil => rfl
      | cons q r ih =>
        unfold insS
        split
        · rw [List.length_cons, ih, List.length_cons]
        · rfl
    have := sort_len l (if rightZ p.v p.lo p.hi = true then insS p row else row)
    split at this <;> rename_i hh
    · rw [if_pos hh]
      rw [ins] at this
      rw [List.length_cons]
      omega
    · rw [if_neg hh]
      rw [List.length_cons]
      omega
theorem merge_len : ∀ (l : List SpanZ) (c : SpanZ), (mergeS c l).length ≤ l.length + 1
  | [], c => Nat.le_refl _
  | q :: r, c => by
    unfold mergeS
    split
    · have := merge_len r (wideS c q)
      rw [List.length_cons]
      omega
    · have := merge_len r q
      rw [List.length_cons, List.length_cons]
      omega
theorem joinS_len (l : List SpanZ) : (joinS l).length ≤ l.length := by
  have h := sort_len l []
  unfold joinS
  split
  · simp
  · rename_i c r e
    rw [e] at h
    have := merge_len r c
    simp only [List.length_cons, List.length_nil] at h
    omega
theorem SpOut.row2 {W0 wr : World} {V : Value} {L : List SpanZ} (h : SpOut W0 wr V L) : ∃ a c, V = .slice a L.length c ∧ SpRow wr a L.length L ∧ L.length ≤ c := by
  rcases h.1.2 with ⟨rfl, h0⟩ | ⟨g, cap, cur, rfl, h1, h2, h3, _⟩
  · have : L = [] := List.eq_nil_of_length_eq_zero h0
    subst this
    exact ⟨none, 0, rfl, SpRow.nil _ _, Nat.le_refl _⟩
  · obtain ⟨a, c, hV, hr, _⟩ := h.row
    injection hV with e1 e2 e3
    subst e1 e3
    exact ⟨_, cap, rfl, hr, h3⟩
theorem sp_next {w : World} {b off n ca : Nat} {p : SpanZ} {r : List SpanZ} (h : SpRow w (some ⟨b, off, none⟩) n (p :: r)) (hc : n ≤ ca) : SpRow w (if ca = 1 then some ⟨b, off, none⟩ else some ⟨b, off + 33, none⟩) r.length r ∧ r.length ≤ ca - 1 := by
  have hl : r.length + 1 = n := by rw [← h.1]; rfl
  have t := sp_tail h
  rw [show n - 1 = r.length by omega] at t
  refine ⟨?_, by omega⟩
  split
  · have e : r = [] := List.eq_nil_of_length_eq_zero (by omega)
    subst e
    exact SpRow.nil _ _
  · exact t
theorem sp_append1 {ops : Array Oper} {rest : List Oper} {o : Oper} {a : Act} {Q : Exit → Act → World → Prop} {W0 w : World} {V : Value} {L zs : List SpanZ} {ad : Addr} {m c : Nat} (hgd : o.guard = none) (s x : Operand)
    (hop : o.op = .call { callee := .builtin .append, args := #[s, x], argTypes := #[22, 22] }) (hs : a.eval s = V) (hout : SpOut W0 w V L) (hx : a.eval x = .slice (some ad) m c) (hr : SpRow w (some ad) m zs) (h0 : 0 < m) (hl : L.length + m ≤ 100000)
    {k : Nat} {cs : Array Value} (hb : Blk w k 43 cs) (h : ∀ V' w', SpOut W0 w' V' (L ++ zs) → Blk w' k 43 cs → wpList Tryz.prog ops Q rest (a.put o.dst V') w') : wpList Tryz.prog ops Q (o :: rest) a w := by
  obtain ⟨i0, hi5, hz0, hz1, hz2⟩ := info_parts Tryz.infoSpan
  have hcl : (flatS zs).length = m * 33 := by rw [flatS_len hr.2.1, hr.1]
  refine wpList_append_own _ hgd s x 22 hop W0.heap.size 62 i0 (.agg (scells zeroS)) 33 33 Tryz.underlying22 hi5 hz0 hz1 hz2 (scells_size zeroS_six) (by decide) V L.length (flatS L) hs hout.1 ad m c (flatS zs) hx hcl ?_ (flatS_one zs) (by unfold maxLen; omega) (by omega) hout.2.1.size ?_
  · intro j u hu
    have hj : j < m * 33 := by
      have := (List.getElem?_eq_some_iff.1 hu).1
      omega
    obtain ⟨b, off, e, _, hc⟩ := hr.2.2 (by omega)
    injection e with e
    subst e
    rw [Addr.add_lit, hc j hj]
    exact hu
  · intro V' w' hown hg _
    refine h V' w' ⟨?_, hout.2.1.grown hg hout.2.1.size (fun k hk => (hout.1.lt k hk).1), fun z hz => ?_⟩ ?_
    · rw [List.length_append, hr.1, flatS_app]
      exact hown
    · rcases List.mem_append.1 hz with hz | hz
      · exact hout.2.2 z hz
      · exact hr.2.1 z hz
    · refine (hg.block k hb.lt (fun e => ?_)).trans hb
      rcases hout.1.2 with ⟨rfl, _⟩ | ⟨g, cap, cur, rfl, _, h2, _⟩
      · cases e
      · injection e with e
        subst e
        have := hb.symm.trans h2
        simp at this
theorem meetS_yes {p q : SpanZ} (h : cmpE (fromE p q) (toE p q) ≤ 0) : meetS p q = [⟨(fromE p q).v, (fromE p q).a, (toE p q).a⟩] := by
  unfold meetS
  rw [if_pos h]
theorem meetS_no {p q : SpanZ} (h : ¬ cmpE (fromE p q) (toE p q) ≤ 0) : meetS p q = [] := by
  unfold meetS
  rw [if_neg h]
theorem isect_yes {f : Nat} {p q : SpanZ} {A B : List SpanZ} (h : sameE (toE p q) (hiE p) = true) : isectS (f + 1) (p :: A) (q :: B) = meetS p q ++ isectS f A (q :: B) := by
  show meetS p q ++ (if sameE (toE p q) (hiE p) = true then isectS f A (q :: B) else isectS f (p :: A) B) = _
  rw [if_pos h]
theorem isect_no {f : Nat} {p q : SpanZ} {A B : List SpanZ} (h : sameE (toE p q) (hiE p) = false) : isectS (f + 1) (p :: A) (q :: B) = meetS p q ++ isectS f (p :: A) B := by
  show meetS p q ++ (if sameE (toE p q) (hiE p) = true then isectS f A (q :: B) else isectS f (p :: A) B) = _
  rw [if_neg (by rw [h]; simp)]
theorem meet_len (p q : SpanZ) : (meetS p q).length ≤ 1 := by
  unfold meetS
  split <;> simp
theorem sameE_eq (x y : EndZ) : decide (x.v = y.v ∧ x.a = y.a ∧ mostZ x.v = mostZ y.v) = sameE x y := by
  unfold sameE
  rw [Bool.eq_iff_iff, decide_eq_true_iff, decide_eq_true_iff]
  constructor
  · rintro ⟨h1, h2, _⟩
    exact ⟨h1, h2⟩
  · rintro ⟨h1, h2⟩
    exact ⟨h1, h2, by rw [h1]⟩
theorem epcmp_any (x y : EndZ) (w : World) (hx : Sixteen x.a) (hy : Sixteen y.a) : (Op.equalIn 10000 43 (.agg (qcells (endP x))) (.agg (qcells (endP y)))).run Tryz.prog w = .ok (sameE x y) w := by
  rw [← sameE_eq]
  exact two_prefix x.v y.v x.a y.a (mostZ x.v) (mostZ y.v) hx.1 hy.1 w
end Go.Proofs.YtlmndmfebgaidaaGreatDoor
namespace Go.Proofs.YtlmndmfebgaidaaGreatDoor
open Go.RowKit
set_option linter.unusedVariables false
theorem sp_one (w : World) {s : SpanZ} (hs : SixS s) : SpRow (w.alloc (.cells (scells s) 62)) (some ⟨w.heap.size, 0, none⟩) 1 [s] := by
  refine ⟨rfl, fun x hx => by rw [List.mem_singleton.1 hx]; exact hs, fun _ => ⟨w.heap.size, 0, rfl, by simp, fun i hi => ?_⟩⟩
  rw [Nat.zero_add, Blk.cell (sbox w s) i]
  show (scL s).toArray[i]? = (scL s ++ [])[i]?
  rw [List.append_nil, List.getElem?_toArray]
theorem built_one (s : SpanZ) (hs : SixS s) : Tryz.prog.builtSlice 62 1 [(0, .agg (scells s))] = some (scells s) := by
  obtain ⟨v, A, B⟩ := s
  obtain ⟨a0, a1, a2, a3, a4, a5, a6, a7, a8, a9, a10, a11, a12, a13, a14, a15, rfl⟩ := sixteen_parts hs.1.1
  obtain ⟨b0, b1, b2, b3, b4, b5, b6, b7, b8, b9, b10, b11, b12, b13, b14, b15, rfl⟩ := sixteen_parts hs.2.1
  kernel_rfl
theorem build_to {P : Program} {ops : Array Oper} {rest : List Oper} {o : Oper} {a : Act} {w : World} {Q : Exit → Act → World → Prop} (hg : o.guard = none) (t e : TypeId) (len : Nat) (parts : Array (Nat × Operand)) (ho : o.op = .buildSlice t len parts)
    (N : Nat) (hN : w.heap.size = N) (dst : Option Tmp) (hdst : o.dst = dst) (hu : P.underlying t = some (.slice e)) (cells : Array Value) (ps : List (Nat × Value)) (hb : P.builtSlice e len ps = some cells) (hps : (parts.map fun (i, x) => (i, a.eval x)).toList = ps)
    (h : wpList P ops Q rest (a.put dst (.slice (some ⟨N, 0, none⟩) len len)) (w.alloc (.cells cells e))) : wpList P ops Q (o :: rest) a w := by
  subst hps
  exact Great.wpList_buildSliceTo hg t e len parts ho N hN dst hdst hu cells hb h
theorem SpOut.range {W0 wr : World} {g cap n : Nat} {L : List SpanZ} (h : SpOut W0 wr (.slice (some ⟨g, 0, none⟩) n cap) L) (hn : n = L.length) (j : Nat) (hj : j < L.length) {s : SpanZ} (e : L[j] = s) : wr.rangeAt g (j * 33) (scL s) := by
  subst hn e
  obtain ⟨a, c, hV, hrow, _⟩ := h.row
  injection hV with e1
  subst e1
  have := hrow.range j hj
  rwa [Nat.zero_add] at this
theorem perm_ok {L S : List SpanZ} (hL : SpansZ L) (hp : S.Perm (L.filter rightS)) : (∀ s ∈ S, SpanOk s) ∧ S.length ≤ L.length := by
  refine ⟨fun s hs => ?_, ?_⟩
  · obtain ⟨h1, h2⟩ := List.mem_filter.1 (hp.mem_iff.1 hs)
    exact ⟨(hL s h1).1, (hL s h1).2, h2⟩
  · rw [hp.length_eq]
    exact List.length_filter_le _ _
set_option maxHeartbeats 4000000 in
set_option maxRecDepth 100000 in
theorem join_any (a : Option Addr) (n c : Nat) (L : List SpanZ) (w : World) (hr : SpRow w a n L) (hA : a = none → n = 0 ∧ c = 0) (hn : n ≤ 90000) :
    Calls Tryz.prog 40 #[.slice a n c] w (GivesSp (joinS L) w) := by
  have CS := Lib.hid (sorted_any a n c L w hr hA hn)
  have hL : SpansZ L := fun s hs => hr.2.1 s hs
  have hln := hr.1
  have JA : Hid (∀ S : List SpanZ, S.Perm (L.filter rightS) → RiseS S → joinAll S = joinS L) := Lib.hid (fun S hp hr => join_all hL hp hr)
  have PO : Hid (∀ S : List SpanZ, S.Perm (L.filter rightS) → (∀ s ∈ S, SpanOk s) ∧ S.length ≤ 90000) := Lib.hid (fun S hp => ⟨(perm_ok hL hp).1, Nat.le_trans (perm_ok hL hp).2 (by omega)⟩)
  clear hr hA hL hln
  go_enter Tryz.func40, Tryz.ntmps40
  go_wp2_with (refine CS.out.mono ?_; rintro r W1 ⟨V1, S, rfl, ho1, hp1, hs1⟩; have O1 := Lib.hid ho1; have JE := Lib.hid (JA.out S hp1 hs1); have SO := Lib.hid (PO.out S hp1).1; have SN := Lib.hid (PO.out S hp1).2; have RS := Lib.hid hs1; obtain ⟨aS, cS, hV, hrow, hnil⟩ := ho1.row; subst hV; have RW := Lib.hid hrow; have B1 := Lib.hid ho1.2.1; clear ho1 hp1 hs1 hrow hnil CS JA PO)
  clear O1
  go_loopw [3, 10] (fun jV kV wr => ∃ (k : Nat) (J : List SpanZ), kV = .int .i64 (k : Int) ∧ k ≤ S.length ∧ J.length ≤ k ∧ JoinAt S k J ∧ SpOut W1 wr jV J) (fun _ kV _ => ((S.length : Int) - intOf kV).toNat)
  case atStart => exact ⟨0, [], rfl, Nat.zero_le _, Nat.le_refl _, .inl ⟨rfl, rfl⟩, SpOut.start W1⟩
  case round =>
    obtain ⟨k, J, rfl, hk, hjk, hat, ho⟩ := hrel
    have J5 := Lib.hid hat
    have O5 := Lib.hid ho
    clear hat ho
    by_cases hlt : k < S.length
    · have t0 : decide ((k : Int) < (S.length : Int)) = true := decide_eq_true (by omega)
      obtain ⟨bS, oS, rfl, hbS⟩ := RW.out.form (by omega)
      have RG := Lib.hid ((RW.out.below O5.out.2.1).range k hlt)
      have so := SO.out _ (List.getElem_mem hlt)
      have s6 : SixS S[k] := ⟨so.1, so.2.1⟩
      have SX := Lib.hid s6
      have SA : Hid ((Tryz.prog.info? 62).map (·.size) = some (scells S[k]).size) := Lib.hid (Tryz.sizeS s6)
      have SL : Hid ((Tryz.prog.info? 62).map (·.size) = some (scL S[k]).length) := Lib.hid (by rw [scL_len s6, Tryz.sizeS s6, scells_size s6])
      have ZA : Hid ((scells zeroS).size = (scells S[k]).size) := Lib.hid (by rw [scells_size s6, scells_size zeroS_six])
      have OA := Lib.hid (scells_one S[k])
      have BS := Lib.hid (built_one S[k] s6)
      have AL : Hid ((scL S[k]).toArray = scells S[k]) := Lib.hid rfl
      have C2 : Hid (∀ W, Calls Tryz.prog 68 #[.agg (scells S[k])] W fun e w' => e = .returned (.agg (lastC S[k])) ∧ Below W.heap.size W w') := Lib.hid (fun W => (last_any S[k] W s6).mono (fun _ _ h => ⟨h.1, h.2.1⟩))
      have BX : Hid (Blk (wr.alloc (.cells (scells S[k]) 62)) wr.heap.size 62 (scells S[k])) := Lib.hid (sbox wr S[k])
      have OX := Lib.hid (O5.out.alloc (.cells (scells S[k]) 62))
      have AZ : Hid (Blk (wr.alloc (.cells (scells zeroS) 62)) wr.heap.size 62 (scells zeroS)) := Lib.hid (sbox wr zeroS)
      have HL : Hid (J.length + 1 ≤ 100000) := Lib.hid (by have := SN.out; omega)
      have i0 : (0 : Int) ≤ (k : Int) := by omega
      have i1 : (k : Int) < (S.length : Int) := by omega
      have kI : IntKind.i64.wrap ((k : Int) + 1) = (k : Int) + 1 := IntWalk.i64_in _ (by have := SN.out; omega)
      obtain ⟨aJ, cJ, hV, hrowJ, hnilJ⟩ := O5.out.row
      subst hV
      rcases Nat.eq_zero_or_pos J.length with h0 | hpos
      · obtain rfl : J = [] := List.eq_nil_of_length_eq_zero h0
        obtain rfl : k = 0 := join_empty J5.out
        have JF := Lib.hid (join_first SO.out RS.out hlt)
        clear hrowJ hnilJ J5 so s6 h0 hjk hk O5 RW
        generalize hs : S[0] = s at *
        clear hs
        go_upto_region 6 with (first
          | (refine wpList_load_mid rfl 62 (.tmp 12) rfl bS oS rfl (scL s) _ RG.out Tryz.underlying62 rfl SL.out ?_; rw [AL.out])
          | (refine Great.wpList_allocTo rfl (some 5) rfl (.pointer (some ⟨wr.heap.size, 0, none⟩)) (.cells (scells zeroS) 62) rfl ?_)
          | (refine wpList_store_rowTo rfl 62 (.tmp 5) (.tmp 13) rfl rfl wr.heap.size (scells s) rfl rfl 62 (scells zeroS) AZ.out SA.out ZA.out OA.out ?_; rw [alloc_setRow]))
        clear RG AZ
        generalize wr.alloc (.cells (scells s) 62) = w6 at *
        generalize wr.heap.size = gb at *
        refine wp_region_ord Ext Ext.refl (fun _ _ _ => Ext.trans) ((0, false) :: (1, false) :: (2, false) :: (3, false) :: (4, false) :: (5, false) :: (6, false) :: (7, false) :: (8, true) :: (9, false) :: (10, false) :: (11, false) :: []) (by kernel_rfl) (by kernel_rfl) rfl (by kernel_rfl) (fun _ _ _ _ _ h => h) ?_
        generalize hw7 : w6.drew = w7 at *
        have BX7 : Hid (Blk w7 gb 62 (scells s)) := Lib.hid (by rw [← hw7]; exact BX.out)
        have OX7 : Hid (SpOut W1 w7 (.slice aJ 0 cJ) []) := Lib.hid (by rw [← hw7]; exact OX.out.below (drewN_below w6 1))
        clear BX OX hw7 w6
        have BX := BX7
        have OX := OX7
        clear BX7 OX7
        repeat (first
          | (refine ord_skip rfl (by rfl) ?_; simp only [Act.put, List.setIfInBounds_toArray, List.set_cons_zero, List.set_cons_succ])
          | (refine ord_take _ rfl (by rfl) (fun W hW => by go_simp; first | done | rfl) ?_; simp only [Act.put, List.setIfInBounds_toArray, List.set_cons_zero, List.set_cons_succ]))
        refine ord_end ?_
        go_wp2_with (first
          | (refine wpList_load_row rfl 62 (.tmp 5) rfl gb rfl 62 (scells s) (0, 0) _ BX.out Tryz.underlying62 rfl SA.out ?_)
          | (refine build_to rfl 22 62 1 _ rfl w7.heap.size rfl (some 31) rfl Tryz.underlying22 (scells s) _ BS.out (by kernel_rfl) ?_)
          | (at_builtin; go_must (refine sp_append (W0 := W1) (L := []) (zs := [s]) rfl _ _ rfl rfl (OX.out.alloc _) rfl (sp_one w7 SX.out) (fun e => by cases e) HL.out ?_; intro V8 w8 ho8; have O8 := Lib.hid ho8; clear ho8)))
        go_roundw
        case rel => exact ⟨1, [s], by go_num, by omega, by simp, JF.out, O8.out⟩
        case measure => simp only [intOf]; omega
      · obtain ⟨e1, he⟩ : ∃ e1, J.length = e1 + 1 := ⟨J.length - 1, by omega⟩
        obtain ⟨gj, cap, hV, hg0, hg1, hcap⟩ : ∃ g cap, Value.slice aJ J.length cJ = .slice (some ⟨g, 0, none⟩) J.length cap ∧ W1.heap.size ≤ g ∧ g < wr.heap.size ∧ J.length ≤ cap := by
          rcases O5.out.form with ⟨_, h⟩ | h
          · rw [h] at hpos
            exact absurd hpos (by simp)
          · exact h
        injection hV with e2 _ e3
        subst e2 e3
        have JS := Lib.hid (join_step SO.out RS.out J5.out hlt he)
        have E1 : Hid (e1 < J.length) := Lib.hid (by omega)
        have c6 := O5.out.2.2 _ (List.getElem_mem E1.out)
        have CL : Hid ((Tryz.prog.info? 62).map (·.size) = some (scL (J[e1]'E1.out)).length) := Lib.hid (by rw [scL_len c6, Tryz.sizeS c6, scells_size c6])
        have CM : Hid (∀ W, Calls Tryz.prog 66 #[.agg (scL (J[e1]'E1.out)).toArray, .agg (scells S[k])] W fun e w' => e = .returned (.bool (meetsZ (J[e1]'E1.out) S[k])) ∧ Below W.heap.size W w') := Lib.hid (fun W => (meets_any (J[e1]'E1.out) S[k] W c6 s6).mono (fun _ _ h => ⟨h.1, h.2.1⟩))
        have C3 : Hid (∀ W, Calls Tryz.prog 68 #[.agg (scL (J[e1]'E1.out)).toArray] W fun e w' => e = .returned (.agg (lastC (J[e1]'E1.out))) ∧ Below W.heap.size W w') := Lib.hid (fun W => (last_any (J[e1]'E1.out) W c6).mono (fun _ _ h => ⟨h.1, h.2.1⟩))
        have C4 : Hid (∀ W, Calls Tryz.prog 67 #[.agg (lastC S[k]), .agg (lastC (J[e1]'E1.out))] W fun e w' => e = .returned (.int .i64 (cmpA (S[k]).v (S[k]).hi (mostZ (S[k]).v) (J[e1]'E1.out).v (J[e1]'E1.out).hi (mostZ (J[e1]'E1.out).v))) ∧ Below W.heap.size W w') := Lib.hid (fun W => (pcmp_any _ _ _ _ _ _ W s6.2 c6.2).mono (fun _ _ h => ⟨h.1, h.2.1⟩))
        have SH : Hid (∀ W, Hid (SpOut W1 W (.slice (some ⟨gj, 0, none⟩) J.length cJ) J) → Hid (SpOut W1 (W.setCells gj (e1 * 33 + 17) (acells (S[k]).hi)) (.slice (some ⟨gj, 0, none⟩) J.length cJ) (J.set e1 ⟨(J[e1]'E1.out).v, (J[e1]'E1.out).lo, (S[k]).hi⟩)) ∧ Hid (W.there gj (e1 * 33 + 17) (acells (S[k]).hi).toArray.size)) := Lib.hid (fun W h => ⟨Lib.hid (h.out.setHi rfl hg0 e1 E1.out s6.2), Lib.hid (h.out.there rfl _ _ (by rw [List.size_toArray, acells_len s6.2.1]; omega))⟩)
        have ZH := Lib.hid (Tryz.sizeA s6.2.1)
        have ZH2 : Hid ((Tryz.prog.info? 41).map (·.size) = some (acells (S[k]).hi).toArray.size) := Lib.hid (by rw [ZH.out]; simp)
        have A1 : Hid ((acells (S[k]).hi).toArray.all (·.oneCell') = true) := Lib.hid (Array.all_eq_true_iff_forall_mem.2 (fun v hv => by
          unfold acells at hv
          obtain ⟨x, _, rfl⟩ := List.mem_map.1 (List.mem_toArray.1 hv)
          rfl))
        have HR : Hid (∀ W g, Blk W g 62 (scells S[k]) → W.rangeAt g 17 (acells (S[k]).hi)) := Lib.hid (fun W g h => SBlk.hi h s6)
        have jl1 : Hid (J.length + 1 ≤ k + 1) := Lib.hid (by omega)
        obtain ⟨q, hq⟩ : ∃ q, J.length = q := ⟨_, rfl⟩
        have RL : Hid (q = J.length) := Lib.hid hq.symm
        have QE : Hid (q = e1 + 1) := Lib.hid (by omega)
        obtain ⟨c, hc⟩ : ∃ c, J[e1]'E1.out = c := ⟨_, rfl⟩
        have CE : Hid (J[e1]'E1.out = c) := Lib.hid hc
        rw [hc] at JS CL CM C3 C4 SH
        clear hc hrowJ hnilJ J5 so c6 hcap hjk hpos
        rw [hq] at OX SH O5 jl1 ⊢
        clear hq he
        have q1 : IntKind.i64.wrap ((q : Int) - 1) = (e1 : Int) := by
          have := QE.out
          have := SN.out
          have := jl1.out
          rw [show (q : Int) - 1 = (e1 : Int) by omega]
          exact IntWalk.i64_in _ (by omega)
        have x0 : (0 : Int) ≤ (e1 : Int) := by omega
        have x1 : (e1 : Int) < (q : Int) := by have := QE.out; omega
        have t1 : decide ((e1 : Int) < 0) = false := decide_eq_false (by omega)
        generalize hs : S[k] = s at *
        clear hs s6 RW
        go_upto_region 6 with (first
          | (refine wpList_load_mid rfl 62 (.tmp 12) rfl bS (oS + k * 33) rfl (scL s) _ RG.out Tryz.underlying62 rfl SL.out ?_; rw [AL.out])
          | (refine Great.wpList_allocTo rfl (some 5) rfl (.pointer (some ⟨wr.heap.size, 0, none⟩)) (.cells (scells zeroS) 62) rfl ?_)
          | (refine wpList_store_rowTo rfl 62 (.tmp 5) (.tmp 13) rfl rfl wr.heap.size (scells s) rfl rfl 62 (scells zeroS) AZ.out SA.out ZA.out OA.out ?_; rw [alloc_setRow]))
        clear RG AZ O5
        generalize wr.alloc (.cells (scells s) 62) = w6 at *
        generalize wr.heap.size = gb at *
        refine wp_region_ord Ext Ext.refl (fun _ _ _ => Ext.trans) ((0, false) :: (1, false) :: (2, false) :: (3, false) :: (4, false) :: (5, false) :: (6, false) :: (7, false) :: (8, true) :: (9, false) :: (10, false) :: (11, false) :: []) (by kernel_rfl) (by kernel_rfl) rfl (by kernel_rfl) (fun _ _ _ _ _ h => h) ?_
        generalize hw7 : w6.drew = w7 at *
        have BX7 : Hid (Blk w7 gb 62 (scells s)) := Lib.hid (by rw [← hw7]; exact BX.out)
        have OX7 : Hid (SpOut W1 w7 (.slice (some ⟨gj, 0, none⟩) q cJ) J) := Lib.hid (by rw [← hw7]; exact OX.out.below (drewN_below w6 1))
        clear BX OX hw7 w6
        have BX := BX7
        have OX := OX7
        clear BX7 OX7
        generalize meetsZ c s = mt at *
        cases mt with
        | false =>
          have JN := Lib.hid (JS.out.1 rfl)
          clear JS C2 C3 C4 SH
          repeat (first
            | (refine ord_skip rfl (by rfl) ?_; simp only [Act.put, List.setIfInBounds_toArray, List.set_cons_zero, List.set_cons_succ])
            | (refine ord_take _ rfl (by rfl) (fun W hW => yields_part 62 (.tmp 23) rfl gj (e1 * 33) (scL c) _ rfl ((OX.out.below hW).range RL.out e1 E1.out CE.out) Tryz.underlying62 rfl CL.out) ?_; simp only [Act.put, List.setIfInBounds_toArray, List.set_cons_zero, List.set_cons_succ])
            | (refine ord_take _ rfl (by rfl) (fun W hW => yields_row 62 (.tmp 5) rfl gb 62 (scells s) _ rfl (Blk.below BX.out hW BX.out.lt) Tryz.underlying62 rfl SA.out) ?_; simp only [Act.put, List.setIfInBounds_toArray, List.set_cons_zero, List.set_cons_succ])
            | (refine ord_take _ rfl (by rfl) (fun W hW => by go_simp; first | done | rfl) ?_; simp only [Act.put, List.setIfInBounds_toArray, List.set_cons_zero, List.set_cons_succ])
            | (refine ord_sole rfl (by rfl) (fun K1 hK1 => ?_)
               go_simp
               first
                 | refine (CM.out _).mono ?_
               rintro r w5 ⟨rfl, hb5⟩
               refine hK1 _ _ hb5 ?_
               clear hK1 K1
               replace BX := Lib.hid (BX.out.below hb5 BX.out.lt)
               replace OX := Lib.hid (OX.out.below hb5)
               clear hb5))
          refine ord_end ?_
          go_wp2_with (first
            | (refine wpList_load_row rfl 62 (.tmp 5) rfl gb rfl 62 (scells s) (0, 0) _ BX.out Tryz.underlying62 rfl SA.out ?_)
            | (refine build_to rfl 22 62 1 _ rfl w5.heap.size rfl (some 31) rfl Tryz.underlying22 (scells s) _ BS.out (by kernel_rfl) ?_)
            | (at_builtin; go_must (refine sp_append (W0 := W1) (L := J) (zs := [s]) rfl _ _ rfl rfl (OX.out.alloc _) rfl (sp_one w5 SX.out) (fun e => by cases e) HL.out ?_; intro V8 w8 ho8; have O8 := Lib.hid ho8; clear ho8)))
          go_roundw
          case rel => exact ⟨k + 1, J ++ [s], by go_num, by omega, by rw [List.length_append, ← RL.out]; exact jl1.out, JN.out, O8.out⟩
          case measure => simp only [intOf]; omega
        | true =>
          have JW := Lib.hid (JS.out.2.1 rfl)
          have JK := Lib.hid (JS.out.2.2 rfl)
          clear JS HL
          repeat (first
            | (refine ord_skip rfl (by rfl) ?_; simp only [Act.put, List.setIfInBounds_toArray, List.set_cons_zero, List.set_cons_succ])
            | (refine ord_take _ rfl (by rfl) (fun W hW => yields_part 62 (.tmp 23) rfl gj (e1 * 33) (scL c) _ rfl ((OX.out.below hW).range RL.out e1 E1.out CE.out) Tryz.underlying62 rfl CL.out) ?_; simp only [Act.put, List.setIfInBounds_toArray, List.set_cons_zero, List.set_cons_succ])
            | (refine ord_take _ rfl (by rfl) (fun W hW => yields_row 62 (.tmp 5) rfl gb 62 (scells s) _ rfl (Blk.below BX.out hW BX.out.lt) Tryz.underlying62 rfl SA.out) ?_; simp only [Act.put, List.setIfInBounds_toArray, List.set_cons_zero, List.set_cons_succ])
            | (refine ord_take _ rfl (by rfl) (fun W hW => by go_simp; first | done | rfl) ?_; simp only [Act.put, List.setIfInBounds_toArray, List.set_cons_zero, List.set_cons_succ])
            | (refine ord_sole rfl (by rfl) (fun K1 hK1 => ?_)
               go_simp
               first
                 | refine (CM.out _).mono ?_
               rintro r w5 ⟨rfl, hb5⟩
               refine hK1 _ _ hb5 ?_
               clear hK1 K1
               replace BX := Lib.hid (BX.out.below hb5 BX.out.lt)
               replace OX := Lib.hid (OX.out.below hb5)
               clear hb5))
          refine ord_end ?_
          clear CM
          generalize cmpA s.v s.hi (mostZ s.v) c.v c.hi (mostZ c.v) = d at *
          go_upto_region 8 with (fail)
          refine wp_region_ord Ext Ext.refl (fun _ _ _ => Ext.trans) ((0, false) :: (2, false) :: (3, false) :: (4, false) :: (5, false) :: (1, true) :: (6, true) :: (7, true) :: (8, false) :: (9, false) :: []) (by kernel_rfl) (by kernel_rfl) rfl (by kernel_rfl) (fun _ _ _ _ _ h => h) ?_
          have BY : Hid (Blk w5.drew gb 62 (scells s)) := Lib.hid (show Blk w5.drew gb _ _ from BX.out)
          have OY := Lib.hid (OX.out.below (drewN_below w5 1))
          clear BX OX
          have BX := BY
          have OX : Hid (SpOut W1 w5.drew (.slice (some ⟨gj, 0, none⟩) q cJ) J) := OY
          clear BY OY
          generalize w5.drew = w8 at *
          by_cases hd : d ≤ 0
          · have JN := Lib.hid (JK.out hd)
            have td : decide (0 < d) = false := decide_eq_false (by omega)
            clear JW JK SH hd
            repeat (first
              | (refine ord_skip rfl (by rfl) ?_; simp only [Act.put, List.setIfInBounds_toArray, List.set_cons_zero, List.set_cons_succ])
              | (refine ord_take _ rfl (by rfl) (fun W hW => yields_part 62 (.tmp 38) rfl gj (e1 * 33) (scL c) _ rfl ((OX.out.below hW).range RL.out e1 E1.out CE.out) Tryz.underlying62 rfl CL.out) ?_; simp only [Act.put, List.setIfInBounds_toArray, List.set_cons_zero, List.set_cons_succ])
              | (refine ord_take _ rfl (by rfl) (fun W hW => yields_row 62 (.tmp 5) rfl gb 62 (scells s) _ rfl (Blk.below BX.out hW BX.out.lt) Tryz.underlying62 rfl SA.out) ?_; simp only [Act.put, List.setIfInBounds_toArray, List.set_cons_zero, List.set_cons_succ])
              | (refine ord_take _ rfl (by rfl) (fun W hW => by go_simp; first | done | rfl) ?_; simp only [Act.put, List.setIfInBounds_toArray, List.set_cons_zero, List.set_cons_succ])
              | (refine ord_sole rfl (by rfl) (fun K1 hK1 => ?_)
                 go_simp
                 first
                   | (refine (C2.out _).mono ?_; clear C2)
                   | refine (C3.out _).mono ?_
                   | refine (C4.out _).mono ?_
                 rintro r w5 ⟨rfl, hb5⟩
                 refine hK1 _ _ hb5 ?_
                 clear hK1 K1
                 replace BX := Lib.hid (BX.out.below hb5 BX.out.lt)
                 replace OX := Lib.hid (OX.out.below hb5)
                 clear hb5))
            refine ord_end ?_
            go_wp2_with fail
            go_roundw
            case rel => exact ⟨k + 1, J, by go_num, by omega, by have := jl1.out; have := RL.out; omega, JN.out, OX.out⟩
            case measure => simp only [intOf]; omega
          · have JN := Lib.hid (JW.out hd)
            have td : decide (0 < d) = true := decide_eq_true (by omega)
            clear JW JK hd
            repeat (first
              | (refine ord_skip rfl (by rfl) ?_; simp only [Act.put, List.setIfInBounds_toArray, List.set_cons_zero, List.set_cons_succ])
              | (refine ord_take _ rfl (by rfl) (fun W hW => yields_part 62 (.tmp 38) rfl gj (e1 * 33) (scL c) _ rfl ((OX.out.below hW).range RL.out e1 E1.out CE.out) Tryz.underlying62 rfl CL.out) ?_; simp only [Act.put, List.setIfInBounds_toArray, List.set_cons_zero, List.set_cons_succ])
              | (refine ord_take _ rfl (by rfl) (fun W hW => yields_row 62 (.tmp 5) rfl gb 62 (scells s) _ rfl (Blk.below BX.out hW BX.out.lt) Tryz.underlying62 rfl SA.out) ?_; simp only [Act.put, List.setIfInBounds_toArray, List.set_cons_zero, List.set_cons_succ])
              | (refine ord_take _ rfl (by rfl) (fun W hW => by go_simp; first | done | rfl) ?_; simp only [Act.put, List.setIfInBounds_toArray, List.set_cons_zero, List.set_cons_succ])
              | (refine ord_sole rfl (by rfl) (fun K1 hK1 => ?_)
                 go_simp
                 first
                   | (refine (C2.out _).mono ?_; clear C2)
                   | refine (C3.out _).mono ?_
                   | refine (C4.out _).mono ?_
                 rintro r w5 ⟨rfl, hb5⟩
                 refine hK1 _ _ hb5 ?_
                 clear hK1 K1
                 replace BX := Lib.hid (BX.out.below hb5 BX.out.lt)
                 replace OX := Lib.hid (OX.out.below hb5)
                 clear hb5))
            refine ord_end ?_
            obtain ⟨S9, T9⟩ := SH.out _ OX
            have R9 := Lib.hid (HR.out _ _ BX.out)
            clear SH HR
            go_wp2_with (first
              | (refine wpList_load_mid rfl 41 (.tmp 45) rfl gb 17 rfl (acells s.hi) _ R9.out Tryz.underlying41 rfl ZH.out ?_)
              | (refine wpList_store_mid rfl 41 (.tmp 48) (.tmp 46) rfl gj (e1 * 33 + 17) (acells s.hi).toArray rfl rfl T9.out ZH2.out A1.out ?_))
            go_roundw
            case rel => exact ⟨k + 1, _, by go_num, by omega, by rw [List.length_set]; have := jl1.out; have := RL.out; omega, JN.out, S9.out⟩
            case measure => simp only [intOf]; omega
    · obtain rfl : k = S.length := by omega
      have t0 : decide ((S.length : Int) < (S.length : Int)) = false := decide_eq_false (by omega)
      have JF := Lib.hid (join_end J5.out)
      have O9 := Lib.hid (O5.out.wider B1.out)
      rw [JF.out, JE.out] at O9
      clear JF JE J5 O5 RW
      go_wp2_with fail
      go_ret
      exact ⟨_, rfl, O9.out⟩
end Go.Proofs.YtlmndmfebgaidaaGreatDoor
namespace Go.Proofs.YtlmndmfebgaidaaGreatDoor
open Go.RowKit
set_option linter.unusedVariables false
set_option maxHeartbeats 1000000 in
set_option maxRecDepth 100000 in
theorem both_any (a b : Option Addr) (n c m d : Nat) (L M : List SpanZ) (w : World) (hr : SpRow w a n L) (hA : a = none → n = 0 ∧ c = 0) (hn : n ≤ 40000) (hs : SpRow w b m M) (hB : b = none → m = 0 ∧ d = 0) (hm : m ≤ 40000) :
    Calls Tryz.prog 76 #[.slice a n c, .slice b m d] w (GivesSp (bothS L M) w) := by
  have hL : SpansZ L := fun s hs => hr.2.1 s hs
  have hM : SpansZ M := fun s h => hs.2.1 s h
  have hln := hr.1
  have hlm := hs.1
  have CA := Lib.hid (join_any a n c L w hr hA (by omega))
  have CB := Lib.hid (fun W (h : Below w.heap.size w W) => join_any b m d M W (hs.below h) hB (by omega))
  have IS := Lib.hid (both_isect hL hM ((joinS L).length + (joinS M).length) (Nat.le_refl _))
  have OL := Lib.hid (join_ok hL)
  have OM := Lib.hid (join_ok hM)
  have NL : Hid ((joinS L).length + (joinS M).length ≤ 80000) := Lib.hid (by
    have := joinS_len L
    have := joinS_len M
    omega)
  clear hr hA hs hB hL hM hln hlm
  generalize joinS L = JA at *
  generalize joinS M = JB at *
  generalize bothS L M = R at *
  go_enter Tryz.func76, Tryz.ntmps76
  go_wp2_with (first
    | (go_at_call 40
       refine CA.out.mono ?_
       rintro r W1 ⟨V1, rfl, ho1⟩
       obtain ⟨a1, c1, rfl, hr1, hn1⟩ := ho1.row2
       have N1 := Lib.hid hn1
       have R1 := Lib.hid hr1
       have B1 := Lib.hid ho1.2.1
       clear ho1 hr1 CA)
    | (go_at_call 40
       refine (CB.out _ B1.out).mono ?_
       rintro r W2 ⟨V2, rfl, ho2⟩
       obtain ⟨a2, c2, rfl, hr2, hn2⟩ := ho2.row2
       have N2 := Lib.hid hn2
       have R2 := Lib.hid hr2
       have R3 := Lib.hid (R1.out.below ho2.2.1)
       have B2 := Lib.hid (Below.step B1.out ho2.2.1)
       clear ho2 hr2 CB R1 B1))
  clear hn1 hn2
  go_loopg [0, 1, 5] (JA.length + JB.length) (fun gk aV bV oV wr => ∃ (A B O : List SpanZ) (ba bb : Option Addr) (ca cb : Nat), aV = .slice ba A.length ca ∧ bV = .slice bb B.length cb ∧ SpRow W2 ba A.length A ∧ SpRow W2 bb B.length B ∧
    (∀ s ∈ A, SpanOk s) ∧ (∀ s ∈ B, SpanOk s) ∧ SpOut W2 wr oV O ∧ O ++ isectS gk A B = R ∧ A.length + B.length ≤ gk ∧ O.length + gk ≤ 80000 ∧ A.length ≤ ca ∧ B.length ≤ cb)
  case atStart => exact ⟨JA, JB, [], a1, a2, c1, c2, rfl, rfl, R3.out, R2.out, OL.out, OM.out, SpOut.start W2, IS.out, Nat.le_refl _, by have := NL.out; simpa using this, N1.out, N2.out⟩
  case round =>
    obtain ⟨A, B, O, ba, bb, ca, cb, rfl, rfl, hra, hrb, hoa, hob, ho, hi, hl, hlo, hca, hcb⟩ := hrel
    have A5 := Lib.hid hca
    have B5 := Lib.hid hcb
    have RA := Lib.hid hra
    have RB := Lib.hid hrb
    have OA := Lib.hid hoa
    have OB := Lib.hid hob
    have O5 := Lib.hid ho
    have I5 := Lib.hid hi
    have L5 := Lib.hid hl
    have M5 := Lib.hid hlo
    clear hra hrb hoa hob ho hi hl hlo hca hcb IS R3 R2 OL OM NL N1 N2
    cases A with
    | nil =>
      have e : O = R := by
        have h := I5.out
        cases gk <;> (unfold isectS at h; rw [List.append_nil] at h; exact h)
      subst e
      go_wp2_with fail
      go_ret
      exact ⟨_, rfl, SpOut.wider O5.out B2.out⟩
    | cons p A =>
    cases B with
    | nil =>
      have e : O = R := by
        have h := I5.out
        cases gk <;> (unfold isectS at h; rw [List.append_nil] at h; exact h)
      subst e
      have t0 : decide ((0 : Int) < ((p :: A).length : Int)) = true := decide_eq_true (by simp only [List.length_cons]; omega)
      go_wp2_with fail
      go_ret
      exact ⟨_, rfl, SpOut.wider O5.out B2.out⟩
    | cons q B =>
    obtain ⟨f, rfl⟩ : ∃ f, gk = f + 1 := ⟨gk - 1, by have := L5.out; simp only [List.length_cons] at this; omega⟩
    have pk := OA.out p List.mem_cons_self
    have qk := OB.out q List.mem_cons_self
    have p6 : SixS p := ⟨pk.1, pk.2.1⟩
    have q6 : SixS q := ⟨qk.1, qk.2.1⟩
    have PK := Lib.hid pk
    have QK := Lib.hid qk
    obtain ⟨bA, oA, rfl, _⟩ := RA.out.form (by simp)
    obtain ⟨bB, oB, rfl, _⟩ := RB.out.form (by simp)
    have HA : Hid ((p :: A).length = A.length + 1) := Lib.hid rfl
    have HB : Hid ((q :: B).length = B.length + 1) := Lib.hid rfl
    generalize (p :: A).length = nA at *
    generalize (q :: B).length = nB at *
    have i0 : (0 : Int) < (nA : Int) := by have := HA.out; omega
    have i1 : (0 : Int) < (nB : Int) := by have := HB.out; omega
    have t0 : decide ((0 : Int) < (nA : Int)) = true := decide_eq_true i0
    have t1 : decide ((0 : Int) < (nB : Int)) = true := decide_eq_true i1
    have LP : Hid ((Tryz.prog.info? 62).map (·.size) = some (scL p).length) := Lib.hid (by rw [scL_len p6, Tryz.sizeS p6, scells_size p6])
    have LQ : Hid ((Tryz.prog.info? 62).map (·.size) = some (scL q).length) := Lib.hid (by rw [scL_len q6, Tryz.sizeS q6, scells_size q6])
    have F1 : Hid (∀ W, Calls Tryz.prog 94 #[.agg (scells p)] W fun e w' => e = .returned (.agg (qcells (endP (loE p)))) ∧ Below W.heap.size W w') := Lib.hid (fun W => (first_any p W p6).mono (fun _ _ h => ⟨h.1, h.2.1⟩))
    have F2 : Hid (∀ W, Calls Tryz.prog 94 #[.agg (scells q)] W fun e w' => e = .returned (.agg (qcells (endP (loE q)))) ∧ Below W.heap.size W w') := Lib.hid (fun W => (first_any q W q6).mono (fun _ _ h => ⟨h.1, h.2.1⟩))
    have G1 : Hid (∀ W, Calls Tryz.prog 68 #[.agg (scells p)] W fun e w' => e = .returned (.agg (qcells (endP (hiE p)))) ∧ Below W.heap.size W w') := Lib.hid (fun W => (last_any p W p6).mono (fun _ _ h => ⟨h.1, h.2.1⟩))
    have G2 : Hid (∀ W, Calls Tryz.prog 68 #[.agg (scells q)] W fun e w' => e = .returned (.agg (qcells (endP (hiE q)))) ∧ Below W.heap.size W w') := Lib.hid (fun W => (last_any q W q6).mono (fun _ _ h => ⟨h.1, h.2.1⟩))
    have CM := Lib.hid (fun g W (h : PfRow W (some ⟨g, 0, none⟩) 2 [endP (loE p), endP (loE q)]) => max_any (loE p) (loE q) g W pk.1 qk.1 h)
    have CN := Lib.hid (fun g W (h : PfRow W (some ⟨g, 0, none⟩) 2 [endP (hiE p), endP (hiE q)]) => min_any (hiE p) (hiE q) g W pk.2.1 qk.2.1 h)
    have fo := max_ok (lo_ok pk) (lo_ok qk)
    have tto := min_ok (hi_ok pk) (hi_ok qk)
    have P6 : Hid (SixQ (endP (loE p))) := Lib.hid pk.1
    have Q6 : Hid (SixQ (endP (loE q))) := Lib.hid qk.1
    have ER : Hid (SixQ (endP (maxE (loE p) (loE q)))) := Lib.hid fo.1.1
    have FO : Hid (EndOk (fromE p q)) := Lib.hid fo.1
    have TO : Hid (EndOk (toE p q)) := Lib.hid tto.1
    clear pk qk p6 q6 fo tto
    have EPF : Hid ((scL p).toArray = scells p) := Lib.hid rfl
    have EQF : Hid ((scL q).toArray = scells q) := Lib.hid rfl
    generalize scells p = PF at *
    generalize scells q = QF at *
    go_upto_region 4 with fail
    go_cut [6] from 12 to 63 (fun s6 wx => ∃ g6, s6 = .pointer (some ⟨g6, 0, none⟩) ∧ Blk wx g6 43 (qcells (endP (fromE p q))) ∧ W2.heap.size ≤ g6 ∧ SpOut W2 wx u5 O)
    case first =>
      have O6 := O5
      clear O5
      refine wp_region_plan (ExtB W2.heap.size) (ExtB.refl _) ExtB.trans (.take 0 (.take 1 (.take 2 (.take 4 (.take 5 (.take 6 (.fork 3 (.fork 7 (.fork 8 (.fork 9 (.sole 10 (.sole 11 .fin)) 10 (.sole 9 (.sole 11 .fin))) 10 (.sole 8 (.sole 9 (.sole 11 .fin)))) 10 (.sole 7 (.sole 8 (.sole 9 (.sole 11 .fin))))) 10 (.sole 3 (.sole 7 (.sole 8 (.sole 9 (.sole 11 .fin)))))))))))) (by kernel_rfl) (by kernel_rfl) rfl (by kernel_rfl) (fun _ _ _ _ _ h => h) ?_
      replace O6 := Lib.hid (O6.out.below (drewN_below _ 1))
      repeat' (first
      | (refine plan_take (.agg PF) rfl (by rfl) (fun W hW => by rw [← EPF.out]; exact yields_part 62 (.tmp 21) rfl bA oA (scL p) _ rfl (sp_head (RA.out.below (O6.out.2.1.trans hW))) Tryz.underlying62 rfl LP.out) ?_; simp only [Act.put, List.setIfInBounds_toArray, List.set_cons_zero, List.set_cons_succ])
      | (refine plan_take (.agg QF) rfl (by rfl) (fun W hW => by rw [← EQF.out]; exact yields_part 62 (.tmp 25) rfl bB oB (scL q) _ rfl (sp_head (RB.out.below (O6.out.2.1.trans hW))) Tryz.underlying62 rfl LQ.out) ?_; simp only [Act.put, List.setIfInBounds_toArray, List.set_cons_zero, List.set_cons_succ])
      | (refine plan_take _ rfl (by rfl) (fun W hW => by go_simp; first | done | rfl) ?_; simp only [Act.put, List.setIfInBounds_toArray, List.set_cons_zero, List.set_cons_succ])
      | (refine plan_fork ?_ ?_)
      | (first | refine plan_sole (sole_take rfl (by rfl) (fun K1 hK1 => ?_)) | refine sole_take rfl (by rfl) (fun K1 hK1 => ?_)
         refine op_alloc_pf rfl ?_
         intro gz w5 hn5 hz5 hb5
         have NZ : Hid (W2.heap.size ≤ gz) := Lib.hid (Nat.le_trans O6.out.2.1.size hn5)
         refine hK1 _ _ (hb5.mono O6.out.2.1.size) ?_
         clear hK1 K1
         try (replace AZ := Lib.hid (AZ.out.below hb5 AZ.out.lt))
         try (replace PR := Lib.hid (PR.out.below hb5))
         replace O6 := Lib.hid (O6.out.below hb5)
         have AZ := Lib.hid hz5
         clear hb5 hz5 hn5
         simp only [Act.put, List.setIfInBounds_toArray, List.set_cons_zero, List.set_cons_succ])
      | (first | refine plan_sole (sole_take rfl (by rfl) (fun K1 hK1 => ?_)) | refine sole_take rfl (by rfl) (fun K1 hK1 => ?_)
         refine op_pf2 (endP (loE p)) (endP (loE q)) _ rfl (by kernel_rfl) P6.out Q6.out ?_
         intro gr w5 hr5 hb5
         refine hK1 _ _ (hb5.mono O6.out.2.1.size) ?_
         clear hK1 K1
         try (replace AZ := Lib.hid (AZ.out.below hb5 AZ.out.lt))
         try (replace PR := Lib.hid (PR.out.below hb5))
         replace O6 := Lib.hid (O6.out.below hb5)
         have PR := Lib.hid hr5
         clear hb5 hr5
         simp only [Act.put, List.setIfInBounds_toArray, List.set_cons_zero, List.set_cons_succ])
      | (first | refine plan_sole (sole_take rfl (by rfl) (fun K1 hK1 => ?_)) | refine sole_take rfl (by rfl) (fun K1 hK1 => ?_)
         refine op_store_pf (.tmp 6) (.tmp 29) rfl rfl _ (endP (maxE (loE p) (loE q))) ER.out rfl rfl AZ.out ?_
         refine hK1 _ _ (below_setRow (Below.refl _ _) NZ.out _) ?_
         clear hK1 K1
         have ZZ := Lib.hid (setRow_heap _ _ _ (qcells (endP (maxE (loE p) (loE q)))) 43 _ AZ.out)
         replace O6 := Lib.hid (O6.out.setRow AZ.out NZ.out (qcells (endP (maxE (loE p) (loE q)))))
         clear AZ PR)
      | (first | refine plan_sole (sole_take rfl (by rfl) (fun K1 hK1 => ?_)) | refine sole_take rfl (by rfl) (fun K1 hK1 => ?_)
         go_simp
         first
           | with_reducible refine (F1.out _).mono ?_
           | with_reducible refine (F2.out _).mono ?_
           | with_reducible refine (CM.out _ _ PR.out).mono ?_
         rintro r w5 ⟨rfl, hb5⟩
         refine hK1 _ _ (hb5.mono O6.out.2.1.size) ?_
         clear hK1 K1
         try (replace AZ := Lib.hid (AZ.out.below hb5 AZ.out.lt))
         try (replace PR := Lib.hid (PR.out.below hb5))
         replace O6 := Lib.hid (O6.out.below hb5)
         clear hb5)
      | refine plan_end ?_)
      all_goals (dsimp only [Exit.then]; go_step; go_meet; exact ⟨gz, rfl, ZZ.out, NZ.out, O6.out⟩)
    case rest =>
      obtain ⟨g6, rfl, hz, hn6, ho6⟩ := hcut
      have Z6 := Lib.hid hz
      have N6 := Lib.hid hn6
      have O7 := Lib.hid ho6
      clear hz hn6 ho6 F1 F2 CM P6 Q6 ER O5
      have P6 : Hid (SixQ (endP (hiE p))) := Lib.hid PK.out.2.1
      have Q6 : Hid (SixQ (endP (hiE q))) := Lib.hid QK.out.2.1
      have ER : Hid (SixQ (endP (minE (hiE p) (hiE q)))) := Lib.hid TO.out.1
      go_upto_region 5 with fail
      go_cut [7] from 12 to 63 (fun s7 wx => ∃ g7, s7 = .pointer (some ⟨g7, 0, none⟩) ∧ Blk wx g7 43 (qcells (endP (toE p q))) ∧ Blk wx g6 43 (qcells (endP (fromE p q))) ∧ SpOut W2 wx u5 O)
      case first =>
        have O6 := O7
        clear O7
        refine wp_region_plan (ExtB W2.heap.size) (ExtB.refl _) ExtB.trans (.take 0 (.take 1 (.take 2 (.take 4 (.take 5 (.take 6 (.fork 3 (.fork 7 (.fork 8 (.fork 9 (.sole 10 (.sole 11 .fin)) 10 (.sole 9 (.sole 11 .fin))) 10 (.sole 8 (.sole 9 (.sole 11 .fin)))) 10 (.sole 7 (.sole 8 (.sole 9 (.sole 11 .fin))))) 10 (.sole 3 (.sole 7 (.sole 8 (.sole 9 (.sole 11 .fin)))))))))))) (by kernel_rfl) (by kernel_rfl) rfl (by kernel_rfl) (fun _ _ _ _ _ h => h) ?_
        replace O6 := Lib.hid (O6.out.below (drewN_below _ 1))
        replace Z6 : Hid (Blk wc.drew g6 43 (qcells (endP (fromE p q)))) := Z6
        repeat' (first
        | (refine plan_take (.agg PF) rfl (by rfl) (fun W hW => by rw [← EPF.out]; exact yields_part 62 (.tmp 31) rfl bA oA (scL p) _ rfl (sp_head (RA.out.below (O6.out.2.1.trans hW))) Tryz.underlying62 rfl LP.out) ?_; simp only [Act.put, List.setIfInBounds_toArray, List.set_cons_zero, List.set_cons_succ])
        | (refine plan_take (.agg QF) rfl (by rfl) (fun W hW => by rw [← EQF.out]; exact yields_part 62 (.tmp 35) rfl bB oB (scL q) _ rfl (sp_head (RB.out.below (O6.out.2.1.trans hW))) Tryz.underlying62 rfl LQ.out) ?_; simp only [Act.put, List.setIfInBounds_toArray, List.set_cons_zero, List.set_cons_succ])
        | (refine plan_take _ rfl (by rfl) (fun W hW => by go_simp; first | done | rfl) ?_; simp only [Act.put, List.setIfInBounds_toArray, List.set_cons_zero, List.set_cons_succ])
        | (refine plan_fork ?_ ?_)
        | (first | refine plan_sole (sole_take rfl (by rfl) (fun K1 hK1 => ?_)) | refine sole_take rfl (by rfl) (fun K1 hK1 => ?_)
           refine op_alloc_pf rfl ?_
           intro gz w5 hn5 hz5 hb5
           have NZ : Hid (W2.heap.size ≤ gz) := Lib.hid (Nat.le_trans O6.out.2.1.size hn5)
           have NE : Hid (g6 ≠ gz) := Lib.hid (by have := Z6.out.lt; omega)
           refine hK1 _ _ (hb5.mono O6.out.2.1.size) ?_
           clear hK1 K1
           try (replace AZ := Lib.hid (AZ.out.below hb5 AZ.out.lt))
           try (replace PR := Lib.hid (PR.out.below hb5))
           try (replace Z6 := Lib.hid (Z6.out.below hb5 Z6.out.lt))
           replace O6 := Lib.hid (O6.out.below hb5)
           have AZ := Lib.hid hz5
           clear hb5 hz5 hn5
           simp only [Act.put, List.setIfInBounds_toArray, List.set_cons_zero, List.set_cons_succ])
        | (first | refine plan_sole (sole_take rfl (by rfl) (fun K1 hK1 => ?_)) | refine sole_take rfl (by rfl) (fun K1 hK1 => ?_)
           refine op_pf2 (endP (hiE p)) (endP (hiE q)) _ rfl (by kernel_rfl) P6.out Q6.out ?_
           intro gr w5 hr5 hb5
           refine hK1 _ _ (hb5.mono O6.out.2.1.size) ?_
           clear hK1 K1
           try (replace AZ := Lib.hid (AZ.out.below hb5 AZ.out.lt))
           try (replace PR := Lib.hid (PR.out.below hb5))
           try (replace Z6 := Lib.hid (Z6.out.below hb5 Z6.out.lt))
           replace O6 := Lib.hid (O6.out.below hb5)
           have PR := Lib.hid hr5
           clear hb5 hr5
           simp only [Act.put, List.setIfInBounds_toArray, List.set_cons_zero, List.set_cons_succ])
        | (first | refine plan_sole (sole_take rfl (by rfl) (fun K1 hK1 => ?_)) | refine sole_take rfl (by rfl) (fun K1 hK1 => ?_)
           refine op_store_pf (.tmp 7) (.tmp 39) rfl rfl _ (endP (minE (hiE p) (hiE q))) ER.out rfl rfl AZ.out ?_
           refine hK1 _ _ (below_setRow (Below.refl _ _) NZ.out _) ?_
           clear hK1 K1
           have ZZ := Lib.hid (setRow_heap _ _ _ (qcells (endP (minE (hiE p) (hiE q)))) 43 _ AZ.out)
           replace O6 := Lib.hid (O6.out.setRow AZ.out NZ.out (qcells (endP (minE (hiE p) (hiE q)))))
           replace Z6 := Lib.hid ((setRow_other _ _ _ (qcells (endP (minE (hiE p) (hiE q)))) NE.out).trans Z6.out)
           clear AZ PR)
        | (first | refine plan_sole (sole_take rfl (by rfl) (fun K1 hK1 => ?_)) | refine sole_take rfl (by rfl) (fun K1 hK1 => ?_)
           go_simp
           first
             | with_reducible refine (G1.out _).mono ?_
             | with_reducible refine (G2.out _).mono ?_
             | with_reducible refine (CN.out _ _ PR.out).mono ?_
           rintro r w5 ⟨rfl, hb5⟩
           refine hK1 _ _ (hb5.mono O6.out.2.1.size) ?_
           clear hK1 K1
           try (replace AZ := Lib.hid (AZ.out.below hb5 AZ.out.lt))
           try (replace PR := Lib.hid (PR.out.below hb5))
           try (replace Z6 := Lib.hid (Z6.out.below hb5 Z6.out.lt))
           replace O6 := Lib.hid (O6.out.below hb5)
           clear hb5)
        | refine plan_end ?_)
        all_goals (dsimp only [Exit.then]; go_step; go_meet; exact ⟨gz, rfl, ZZ.out, Z6.out, O6.out⟩)
      case rest =>
        obtain ⟨g7, rfl, hz7, hz6, ho8⟩ := hcut
        have Z7 := Lib.hid hz7
        have Z8 := Lib.hid hz6
        have O8 := Lib.hid ho8
        clear hz7 hz6 ho8 Z6 O7 CN P6 Q6 ER N6
        have CC := Lib.hid (fun W => ecmp_any (fromE p q) (toE p q) W FO.out.1 TO.out.1)
        have SF : Hid ((Tryz.prog.info? 43).map (·.size) = some (qcells (endP (fromE p q))).size) := Lib.hid (Tryz.sizeP FO.out.1.1)
        have ST : Hid ((Tryz.prog.info? 43).map (·.size) = some (qcells (endP (toE p q))).size) := Lib.hid (Tryz.sizeP TO.out.1.1)
        have SZ := Lib.hid (Tryz.sizeA FO.out.1.1)
        have SY := Lib.hid (Tryz.sizeA TO.out.1.1)
        have BU := Lib.hid (built_span (fromE p q).v (fromE p q).a (toE p q).a FO.out.1.1 TO.out.1.1)
        have s6 : SixS ⟨(fromE p q).v, (fromE p q).a, (toE p q).a⟩ := ⟨FO.out.1, TO.out.1⟩
        have S6 := Lib.hid s6
        have BO := Lib.hid (built_one _ s6)
        have MY := Lib.hid (fun h : cmpE (fromE p q) (toE p q) ≤ 0 => meetS_yes h)
        have MN := Lib.hid (fun h : ¬ cmpE (fromE p q) (toE p q) ≤ 0 => meetS_no h)
        have HL : Hid (O.length + 1 ≤ 100000) := Lib.hid (by have := M5.out; omega)
        clear s6
        generalize hc0 : cmpE (fromE p q) (toE p q) = c0 at *
        clear hc0
        go_upto_if 43 with (first
          | (refine wpList_load_row rfl 43 (.tmp 6) rfl g6 rfl 43 (qcells (endP (fromE p q))) (0, 0) _ Z8.out Tryz.underlying43 rfl SF.out ?_)
          | (refine wpList_load_row rfl 43 (.tmp 7) rfl g7 rfl 43 (qcells (endP (toE p q))) (0, 0) _ Z7.out Tryz.underlying43 rfl ST.out ?_)
          | (go_at_call 67
             refine (CC.out _).mono ?_
             rintro r w9 ⟨rfl, hb9⟩
             have Z9 := Lib.hid (Z7.out.below hb9 Z7.out.lt)
             have Y9 := Lib.hid (Z8.out.below hb9 Z8.out.lt)
             have O9 := Lib.hid (O8.out.below hb9)
             clear hb9 CC Z7 Z8 O8))
        go_cut [5] from 12 to 63 (fun s5 wx => SpOut W2 wx s5 (O ++ meetS p q) ∧ Blk wx g7 43 (qcells (endP (toE p q))))
        case first =>
          by_cases hc : c0 ≤ 0
          · have tc : decide (c0 ≤ 0) = true := decide_eq_true hc
            have MM := Lib.hid (MY.out hc)
            have R9 := Lib.hid (PBlk.range (show PBlk w9 g6 _ _ _ from Y9.out) FO.out.1.1)
            have Q9 := Lib.hid (PBlk.range (show PBlk w9 g7 _ _ _ from Z9.out) TO.out.1.1)
            have cv := PBlk.v (show PBlk w9 g6 _ _ _ from Y9.out)
            have ZA := Lib.hid (Z9.out.alloc (.cells (scells ⟨(fromE p q).v, (fromE p q).a, (toE p q).a⟩) 62))
            have OA := Lib.hid (O9.out.alloc (.cells (scells ⟨(fromE p q).v, (fromE p q).a, (toE p q).a⟩) 62))
            clear MY MN
            go_wp2_with (first
              | (refine wpList_load_mid rfl 41 (.tmp 47) rfl g6 1 rfl (acells (fromE p q).a) _ R9.out Tryz.underlying41 rfl SZ.out ?_)
              | (refine wpList_load_mid rfl 41 (.tmp 49) rfl g7 1 rfl (acells (toE p q).a) _ Q9.out Tryz.underlying41 rfl SY.out ?_)
              | (refine build1_to rfl 62 _ rfl (some 51) rfl (scells ⟨(fromE p q).v, (fromE p q).a, (toE p q).a⟩) _ BU.out (by kernel_rfl) ?_)
              | (refine build_to rfl 22 62 1 _ rfl w9.heap.size rfl (some 52) rfl Tryz.underlying22 (scells ⟨(fromE p q).v, (fromE p q).a, (toE p q).a⟩) _ BO.out (by kernel_rfl) ?_)
              | (at_builtin; go_must (refine sp_append1 (W0 := W2) (L := O) (zs := [⟨(fromE p q).v, (fromE p q).a, (toE p q).a⟩]) rfl _ _ rfl rfl OA.out rfl (sp_one w9 S6.out) (by omega) HL.out ZA.out ?_; intro V10 w10 ho10 hz10; have O10 := Lib.hid ho10; have Z10 := Lib.hid hz10; clear ho10 hz10)))
            go_meet
            exact ⟨by rw [MM.out]; exact O10.out, Z10.out⟩
          · have tc : decide (c0 ≤ 0) = false := decide_eq_false hc
            have MM := Lib.hid (MN.out (by omega))
            clear MY MN
            go_wp2_with fail
            go_meet
            exact ⟨by rw [MM.out, List.append_nil]; exact O9.out, Z9.out⟩
        case rest =>
          obtain ⟨ho10, hz10⟩ := hcut
          have O10 := Lib.hid ho10
          have Z10 := Lib.hid hz10
          have OM : Hid ((O ++ meetS p q).length + f ≤ 80000) := Lib.hid (by
            have := meet_len p q
            have := M5.out
            rw [List.length_append]
            omega)
          have IY := Lib.hid (fun h : sameE (toE p q) (hiE p) = true => (show (O ++ meetS p q) ++ isectS f A (q :: B) = R from by rw [← I5.out, isect_yes h, List.append_assoc]))
          have IN := Lib.hid (fun h : sameE (toE p q) (hiE p) = false => (show (O ++ meetS p q) ++ isectS f (p :: A) B = R from by rw [← I5.out, isect_no h, List.append_assoc]))
          have EQ : ∀ W, (Op.equalIn 10000 43 (.agg (qcells (endP (toE p q)))) (.agg (qcells (endP (hiE p))))).run Tryz.prog W = .ok (sameE (toE p q) (hiE p)) W := fun W => epcmp_any (toE p q) (hiE p) W TO.out.1 PK.out.2.1
          clear ho10 hz10 Y9 Z9 O9 MY MN BO BU S6 SZ SY SF HL
          generalize O ++ meetS p q = O2 at *
          generalize qcells (endP (toE p q)) = TC at *
          generalize qcells (endP (hiE p)) = HC at *
          generalize sameE (toE p q) (hiE p) = e0 at *
          have NA := Lib.hid (sp_next RA.out A5.out)
          have NB := Lib.hid (sp_next RB.out B5.out)
          have SC : Hid ((Tryz.prog.info? 43).map (·.size) = some TC.size) := ST
          go_upto_region 8 with fail
          have Z11 : Hid (Blk wc.drew g7 43 TC) := Z10
          have O11 : Hid (SpOut W2 wc.drew u5 O2) := Lib.hid (O10.out.below (drewN_below wc 1))
          clear O10 Z10 I5 M5 ST
          refine wp_region_ord Ext Ext.refl (fun _ _ _ => Ext.trans) ((0, false) :: (1, false) :: (2, false) :: (3, false) :: (4, true) :: (5, false) :: []) (by kernel_rfl) (by kernel_rfl) rfl (by kernel_rfl) (fun _ _ _ _ _ h => h) ?_
          generalize wc.drew = w11 at *
          repeat (first
            | (refine ord_skip rfl (by rfl) ?_; simp only [Act.put, List.setIfInBounds_toArray, List.set_cons_zero, List.set_cons_succ])
            | (refine ord_take _ rfl (by rfl) (fun W hW => yields_row 43 (.tmp 7) rfl g7 43 TC _ rfl (Blk.below Z11.out hW Z11.out.lt) Tryz.underlying43 rfl SC.out) ?_; simp only [Act.put, List.setIfInBounds_toArray, List.set_cons_zero, List.set_cons_succ])
            | (refine ord_take (.agg PF) rfl (by rfl) (fun W hW => by rw [← EPF.out]; exact yields_part 62 (.tmp 56) rfl bA oA (scL p) _ rfl (sp_head (RA.out.below (O11.out.2.1.trans (hW.mono O11.out.2.1.size)))) Tryz.underlying62 rfl LP.out) ?_; simp only [Act.put, List.setIfInBounds_toArray, List.set_cons_zero, List.set_cons_succ])
            | (refine ord_take _ rfl (by rfl) (fun W hW => by go_simp; first | done | rfl) ?_; simp only [Act.put, List.setIfInBounds_toArray, List.set_cons_zero, List.set_cons_succ])
            | (refine ord_sole rfl (by rfl) (fun K1 hK1 => ?_)
               go_simp
               first
                 | refine (G1.out _).mono ?_
               rintro r w5 ⟨rfl, hb5⟩
               refine hK1 _ _ hb5 ?_
               clear hK1 K1
               replace Z11 := Lib.hid (Z11.out.below hb5 Z11.out.lt)
               replace O11 := Lib.hid (O11.out.below hb5)
               clear hb5))
          refine ord_end ?_
          clear EQ G1 G2 SC
          cases e0 with
          | true =>
            have IE := Lib.hid (IY.out rfl)
            clear IY IN
            by_cases h1 : ca = 1
            · have N := NA
              rw [if_pos h1] at N
              subst h1
              go_wp2_with fail
              go_roundg f
              case measure => omega
              case rel => exact ⟨A, q :: B, O2, _, _, _, _, by rw [HA.out]; rfl, by rw [HB.out]; rfl, N.out.1, by have := RB.out; rw [HB.out] at this; exact this, fun s hs => OA.out s (List.mem_cons_of_mem _ hs), OB.out, O11.out, IE.out, by have := L5.out; have := HA.out; have := HB.out; simp only [List.length_cons] at *; omega, OM.out, N.out.2, by have := B5.out; rw [HB.out] at this; exact this⟩
            · have N := NA
              rw [if_neg h1] at N
              go_wp2_with fail
              go_roundg f
              case measure => omega
              case rel => exact ⟨A, q :: B, O2, _, _, _, _, by rw [HA.out]; rfl, by rw [HB.out]; rfl, N.out.1, by have := RB.out; rw [HB.out] at this; exact this, fun s hs => OA.out s (List.mem_cons_of_mem _ hs), OB.out, O11.out, IE.out, by have := L5.out; have := HA.out; have := HB.out; simp only [List.length_cons] at *; omega, OM.out, N.out.2, by have := B5.out; rw [HB.out] at this; exact this⟩
          | false =>
            have IE := Lib.hid (IN.out rfl)
            clear IY IN
            by_cases h1 : cb = 1
            · have N := NB
              rw [if_pos h1] at N
              subst h1
              go_wp2_with fail
              go_roundg f
              case measure => omega
              case rel => exact ⟨p :: A, B, O2, _, _, _, _, by rw [HA.out]; rfl, by rw [HB.out]; rfl, by have := RA.out; rw [HA.out] at this; exact this, N.out.1, OA.out, fun s hs => OB.out s (List.mem_cons_of_mem _ hs), O11.out, IE.out, by have := L5.out; have := HA.out; have := HB.out; simp only [List.length_cons] at *; omega, OM.out, by have := A5.out; rw [HA.out] at this; exact this, N.out.2⟩
            · have N := NB
              rw [if_neg h1] at N
              go_wp2_with fail
              go_roundg f
              case measure => omega
              case rel => exact ⟨p :: A, B, O2, _, _, _, _, by rw [HA.out]; rfl, by rw [HB.out]; rfl, by have := RA.out; rw [HA.out] at this; exact this, N.out.1, OA.out, fun s hs => OB.out s (List.mem_cons_of_mem _ hs), O11.out, IE.out, by have := L5.out; have := HA.out; have := HB.out; simp only [List.length_cons] at *; omega, OM.out, by have := A5.out; rw [HA.out] at this; exact this, N.out.2⟩
end Go.Proofs.YtlmndmfebgaidaaGreatDoor
namespace Go.Proofs.YtlmndmfebgaidaaGreatDoor
open Go.RowKit
set_option linter.unusedVariables false
def eqLS : List SpanZ → List SpanZ → Bool
  | [], [] => true
  | s :: l, t :: m => eqS s t && eqLS l m
  | _, _ => false
theorem eqLS_is : ∀ {l m : List SpanZ}, eqLS l m = true ↔ l = m
  | [], [] => by simp [eqLS]
  | [], t :: m => by simp [eqLS]
  | s :: l, [] => by simp [eqLS]
  | s :: l, t :: m => by
    show (eqS s t && eqLS l m) = true ↔ _
    rw [Bool.and_eq_true, eqS_is, eqLS_is]
    simp
theorem eqLS_len {l m : List SpanZ} (h : l.length ≠ m.length) : eqLS l m = false := by
  cases k : eqLS l m with
  | false => rfl
  | true => exact absurd (by rw [eqLS_is.1 k]) h
theorem eqLS_drop {l m : List SpanZ} {k : Nat} (hl : k < l.length) (hm : k < m.length) : eqLS (l.drop k) (m.drop k) = (eqS l[k] m[k] && eqLS (l.drop (k + 1)) (m.drop (k + 1))) := by
  rw [List.drop_eq_getElem_cons hl, List.drop_eq_getElem_cons hm]
  rfl
set_option maxHeartbeats 1000000 in
set_option maxRecDepth 100000 in
theorem equalS_any (a b : Option Addr) (n c m d : Nat) (L M : List SpanZ) (w : World) (hr : SpRow w a n L) (hn : n ≤ 90000) (hs : SpRow w b m M) (hm : m ≤ 90000) :
    Calls Tryz.prog 39 #[.slice a n c, .slice b m d] w fun e w' => e = .returned (.bool (eqLS L M)) ∧ Below w.heap.size w w' := by
  have RL := Lib.hid hr
  have RM := Lib.hid hs
  have HL := Lib.hid hr.1
  have HM := Lib.hid hs.1
  clear hr hs
  have E0 := Lib.hid (fun h : L.length ≠ M.length => eqLS_len h)
  obtain ⟨r0, hr0⟩ : ∃ r0, eqLS L M = r0 := ⟨_, rfl⟩
  have ER := Lib.hid hr0
  rw [hr0] at E0 ⊢
  clear hr0
  go_enter Tryz.func39, Tryz.ntmps39
  by_cases hnm : n = m
  · subst hnm
    go_wp2_with fail
    go_loopw [13] (fun iV wr => ∃ k : Nat, iV = .int .i64 (k : Int) ∧ k ≤ n ∧ eqLS (L.drop k) (M.drop k) = r0 ∧ Below w.heap.size w wr) (fun iV _ => ((n : Int) - intOf iV).toNat)
    case atStart => exact ⟨0, rfl, Nat.zero_le _, ER.out, Below.refl _ _⟩
    case round =>
      obtain ⟨k, rfl, hk, he, hb⟩ := hrel
      have B5 := Lib.hid hb
      have E5 := Lib.hid he
      clear hb he
      by_cases hlt : k < n
      · have t0 : decide ((k : Int) < (n : Int)) = true := decide_eq_true (by omega)
        obtain ⟨bA, oA, rfl, _⟩ := RL.out.form (by omega)
        obtain ⟨bB, oB, rfl, _⟩ := RM.out.form (by omega)
        have kl : k < L.length := by rw [HL.out]; exact hlt
        have km : k < M.length := by rw [HM.out]; exact hlt
        have E6 := E5.out
        rw [eqLS_drop kl km] at E6
        have RG := Lib.hid (fun W (h : Below w.heap.size w W) => (RL.out.below h).range k kl)
        have SG := Lib.hid (fun W (h : Below w.heap.size w W) => (RM.out.below h).range k km)
        have SX := Lib.hid (RL.out.2.1 _ (List.getElem_mem kl))
        have SY := Lib.hid (RM.out.2.1 _ (List.getElem_mem km))
        generalize L[k] = s at *
        generalize M[k] = t at *
        have LS : Hid ((Tryz.prog.info? 62).map (·.size) = some (scL s).length) := Lib.hid (by rw [scL_len SX.out, Tryz.sizeS SX.out, scells_size SX.out])
        have LT : Hid ((Tryz.prog.info? 62).map (·.size) = some (scL t).length) := Lib.hid (by rw [scL_len SY.out, Tryz.sizeS SY.out, scells_size SY.out])
        have i0 : (0 : Int) ≤ (k : Int) := by omega
        have i1 : (k : Int) < (n : Int) := by omega
        have kI : IntKind.i64.wrap ((k : Int) + 1) = (k : Int) + 1 := IntWalk.i64_in _ (by omega)
        clear kl km E5
        go_upto_region 6 with fail
        have B6 : Hid (Below w.heap.size w wr.drew) := Lib.hid B5.out.drew
        clear B5
        refine wp_region_ord Ext Ext.refl (fun _ _ _ => Ext.trans) ((0, false) :: (1, false) :: (2, false) :: (3, false) :: (4, false) :: (5, false) :: (6, false) :: (7, false) :: (8, false) :: []) (by kernel_rfl) (by kernel_rfl) rfl (by kernel_rfl) (fun _ _ _ _ _ h => h) ?_
        generalize wr.drew = w6 at *
        repeat (first
          | (refine ord_skip rfl (by rfl) ?_; simp only [Act.put, List.setIfInBounds_toArray, List.set_cons_zero, List.set_cons_succ])
          | (refine ord_take _ rfl (by rfl) (fun W hW => yields_neq (.tmp 19) (.tmp 23) rfl rfl rfl SX.out SY.out) ?_; simp only [Act.put, List.setIfInBounds_toArray, List.set_cons_zero, List.set_cons_succ])
          | (refine ord_take (.agg (scells s)) rfl (by rfl) (fun W hW => yields_part 62 (.tmp 18) rfl bA (oA + k * 33) (scL s) _ rfl (RG.out W (B6.out.trans (hW.mono B6.out.size))) Tryz.underlying62 rfl LS.out) ?_; simp only [Act.put, List.setIfInBounds_toArray, List.set_cons_zero, List.set_cons_succ])
          | (refine ord_take (.agg (scells t)) rfl (by rfl) (fun W hW => yields_part 62 (.tmp 22) rfl bB (oB + k * 33) (scL t) _ rfl (SG.out W (B6.out.trans (hW.mono B6.out.size))) Tryz.underlying62 rfl LT.out) ?_; simp only [Act.put, List.setIfInBounds_toArray, List.set_cons_zero, List.set_cons_succ])
          | (refine ord_take _ rfl (by rfl) (fun W hW => by go_simp; first | done | rfl) ?_; simp only [Act.put, List.setIfInBounds_toArray, List.set_cons_zero, List.set_cons_succ]))
        refine ord_end ?_
        cases hq : eqS s t with
        | true =>
          rw [hq] at E6
          simp only [Bool.true_and] at E6
          go_wp2_with fail
          go_roundw
          case rel => exact ⟨k + 1, by go_num, by omega, E6, B6.out⟩
          case measure => simp only [intOf]; omega
        | false =>
          rw [hq] at E6
          simp only [Bool.false_and] at E6
          subst E6
          go_wp2_with fail
          go_ret
          exact ⟨rfl, B6.out⟩
      · have t0 : decide ((k : Int) < (n : Int)) = false := decide_eq_false (by omega)
        have e := E5.out
        rw [List.drop_of_length_le (by rw [HL.out]; omega), List.drop_of_length_le (by rw [HM.out]; omega)] at e
        have e2 : true = r0 := e
        subst e2
        go_wp2_with fail
        go_ret
        exact ⟨rfl, B5.out⟩
  · have e := E0.out (by rw [HL.out, HM.out]; exact hnm)
    subst e
    have t0 : ((n : Int) != (m : Int)) = true := by simp; omega
    go_wp2_with fail
    go_ret
    exact ⟨rfl, Below.refl _ _⟩
set_option maxHeartbeats 1000000 in
set_option maxRecDepth 100000 in
theorem sameS_any (a b : Option Addr) (n c m d : Nat) (L M : List SpanZ) (w : World) (hr : SpRow w a n L) (hn : n ≤ 90000) (hs : SpRow w b m M) (hm : m ≤ 90000) :
    Calls Tryz.prog 37 #[.slice a n c, .slice b m d] w fun e w' => e = .returned (.bool (eqLS L M)) ∧ Below w.heap.size w w' := by
  have RL := Lib.hid hr
  have RM := Lib.hid hs
  have HL := Lib.hid hr.1
  have HM := Lib.hid hs.1
  clear hr hs
  have E0 := Lib.hid (fun h : L.length ≠ M.length => eqLS_len h)
  obtain ⟨r0, hr0⟩ : ∃ r0, eqLS L M = r0 := ⟨_, rfl⟩
  have ER := Lib.hid hr0
  rw [hr0] at E0 ⊢
  clear hr0
  go_enter Tryz.func37, Tryz.ntmps37
  by_cases hnm : n = m
  · subst hnm
    go_wp2_with fail
    go_loopw [5] (fun iV wr => ∃ k : Nat, iV = .int .i64 (k : Int) ∧ k ≤ n ∧ eqLS (L.drop k) (M.drop k) = r0 ∧ Below w.heap.size w wr) (fun iV _ => ((n : Int) - intOf iV).toNat)
    case atStart => exact ⟨0, rfl, Nat.zero_le _, ER.out, Below.refl _ _⟩
    case round =>
      obtain ⟨k, rfl, hk, he, hb⟩ := hrel
      have B5 := Lib.hid hb
      have E5 := Lib.hid he
      clear hb he
      by_cases hlt : k < n
      · have t0 : decide ((k : Int) < (n : Int)) = true := decide_eq_true (by omega)
        obtain ⟨bA, oA, rfl, _⟩ := RL.out.form (by omega)
        obtain ⟨bB, oB, rfl, _⟩ := RM.out.form (by omega)
        have kl : k < L.length := by rw [HL.out]; exact hlt
        have km : k < M.length := by rw [HM.out]; exact hlt
        have E6 := E5.out
        rw [eqLS_drop kl km] at E6
        have RG := Lib.hid (fun W (h : Below w.heap.size w W) => (RL.out.below h).range k kl)
        have SG := Lib.hid (fun W (h : Below w.heap.size w W) => (RM.out.below h).range k km)
        have SX := Lib.hid (RL.out.2.1 _ (List.getElem_mem kl))
        have SY := Lib.hid (RM.out.2.1 _ (List.getElem_mem km))
        generalize L[k] = s at *
        generalize M[k] = t at *
        have LS : Hid ((Tryz.prog.info? 62).map (·.size) = some (scL s).length) := Lib.hid (by rw [scL_len SX.out, Tryz.sizeS SX.out, scells_size SX.out])
        have LT : Hid ((Tryz.prog.info? 62).map (·.size) = some (scL t).length) := Lib.hid (by rw [scL_len SY.out, Tryz.sizeS SY.out, scells_size SY.out])
        have i0 : (0 : Int) ≤ (k : Int) := by omega
        have i1 : (k : Int) < (n : Int) := by omega
        have kI : IntKind.i64.wrap ((k : Int) + 1) = (k : Int) + 1 := IntWalk.i64_in _ (by omega)
        clear kl km E5
        go_upto_region 6 with fail
        have B6 : Hid (Below w.heap.size w wr.drew) := Lib.hid B5.out.drew
        clear B5
        refine wp_region_ord Ext Ext.refl (fun _ _ _ => Ext.trans) ((0, false) :: (1, false) :: (2, false) :: (3, false) :: (4, false) :: (5, false) :: (6, false) :: (7, false) :: (8, false) :: []) (by kernel_rfl) (by kernel_rfl) rfl (by kernel_rfl) (fun _ _ _ _ _ h => h) ?_
        generalize wr.drew = w6 at *
        repeat (first
          | (refine ord_skip rfl (by rfl) ?_; simp only [Act.put, List.setIfInBounds_toArray, List.set_cons_zero, List.set_cons_succ])
          | (refine ord_take _ rfl (by rfl) (fun W hW => yields_neq (.tmp 20) (.tmp 24) rfl rfl rfl SX.out SY.out) ?_; simp only [Act.put, List.setIfInBounds_toArray, List.set_cons_zero, List.set_cons_succ])
          | (refine ord_take (.agg (scells s)) rfl (by rfl) (fun W hW => yields_part 62 (.tmp 19) rfl bA (oA + k * 33) (scL s) _ rfl (RG.out W (B6.out.trans (hW.mono B6.out.size))) Tryz.underlying62 rfl LS.out) ?_; simp only [Act.put, List.setIfInBounds_toArray, List.set_cons_zero, List.set_cons_succ])
          | (refine ord_take (.agg (scells t)) rfl (by rfl) (fun W hW => yields_part 62 (.tmp 23) rfl bB (oB + k * 33) (scL t) _ rfl (SG.out W (B6.out.trans (hW.mono B6.out.size))) Tryz.underlying62 rfl LT.out) ?_; simp only [Act.put, List.setIfInBounds_toArray, List.set_cons_zero, List.set_cons_succ])
          | (refine ord_take _ rfl (by rfl) (fun W hW => by go_simp; first | done | rfl) ?_; simp only [Act.put, List.setIfInBounds_toArray, List.set_cons_zero, List.set_cons_succ]))
        refine ord_end ?_
        cases hq : eqS s t with
        | true =>
          rw [hq] at E6
          simp only [Bool.true_and] at E6
          go_wp2_with fail
          go_roundw
          case rel => exact ⟨k + 1, by go_num, by omega, E6, B6.out⟩
          case measure => simp only [intOf]; omega
        | false =>
          rw [hq] at E6
          simp only [Bool.false_and] at E6
          subst E6
          go_wp2_with fail
          go_ret
          exact ⟨rfl, B6.out⟩
      · have t0 : decide ((k : Int) < (n : Int)) = false := decide_eq_false (by omega)
        have e := E5.out
        rw [List.drop_of_length_le (by rw [HL.out]; omega), List.drop_of_length_le (by rw [HM.out]; omega)] at e
        have e2 : true = r0 := e
        subst e2
        go_wp2_with fail
        go_ret
        exact ⟨rfl, B5.out⟩
  · have e := E0.out (by rw [HL.out, HM.out]; exact hnm)
    subst e
    have t0 : ((n : Int) != (m : Int)) = true := by simp; omega
    go_wp2_with fail
    go_ret
    exact ⟨rfl, Below.refl _ _⟩
end Go.Proofs.YtlmndmfebgaidaaGreatDoor
namespace Go.Proofs.YtlmndmfebgaidaaGreatDoor
open Go.RowKit
set_option linter.unusedVariables false
theorem isect_len : ∀ (f : Nat) (a b : List SpanZ), (isectS f a b).length ≤ f
  | 0, a, b => by unfold isectS; simp
  | f + 1, [], b => by unfold isectS; simp
  | f + 1, p :: a, [] => by unfold isectS; simp
  | f + 1, p :: a, q :: b => by
    unfold isectS
    have h1 := meet_len p q
    have h2 := isect_len f a (q :: b)
    have h3 := isect_len f (p :: a) b
    rw [List.length_append]
    split <;> omega
theorem both_len {a b : List SpanZ} (ha : SpansZ a) (hb : SpansZ b) : (bothS a b).length ≤ a.length + b.length := by
  rw [← both_isect ha hb _ (Nat.le_refl _)]
  have := isect_len ((joinS a).length + (joinS b).length) (joinS a) (joinS b)
  have := joinS_len a
  have := joinS_len b
  omega
def inS (a b : List SpanZ) : Bool := eqLS (joinS a) (bothS a b)
theorem inS_is {a b : List SpanZ} (ha : SpansZ a) (hb : SpansZ b) : inS a b = true ↔ WithinZ (onL a) (onL b) := by
  unfold inS
  rw [eqLS_is, ← withinS_is ha hb]
  exact eq_comm
theorem in_none {a : List SpanZ} (ha : SpansZ a) : inS [] a = true :=
  (inS_is (fun _ h => absurd h (by simp)) ha).2 (fun x hx => absurd hx (by
    show ¬ InZ x (onL [])
    exact inZ_nil))
theorem eqLS_turned (l m : List SpanZ) : eqLS l m = eqLS m l := by
  rw [Bool.eq_iff_iff, eqLS_is, eqLS_is]
  exact eq_comm
set_option maxHeartbeats 1000000 in
theorem within_any (a b : Option Addr) (n c m d : Nat) (L M : List SpanZ) (w : World) (hr : SpRow w a n L) (hA : a = none → n = 0 ∧ c = 0) (hn : n ≤ 40000) (hs : SpRow w b m M) (hB : b = none → m = 0 ∧ d = 0) (hm : m ≤ 40000) :
    Calls Tryz.prog 46 #[.slice a n c, .slice b m d] w fun e w' => e = .returned (.bool (inS L M)) ∧ Below w.heap.size w w' := by
  have hL : SpansZ L := fun s hs => hr.2.1 s hs
  have hM : SpansZ M := fun s h => hs.2.1 s h
  have hl := joinS_len L
  have hb := both_len hL hM
  have h1 := hr.1
  have h2 := hs.1
  have NJ : Hid ((joinS L).length ≤ 90000) := Lib.hid (by omega)
  have NB : Hid ((bothS L M).length ≤ 90000) := Lib.hid (by omega)
  have CJ := Lib.hid (join_any a n c L w hr hA (by omega))
  have CB := Lib.hid (fun W (h : Below w.heap.size w W) => both_any a b n c m d L M W (hr.below h) hA hn (hs.below h) hB hm)
  have CE := Lib.hid (fun (a b : Option Addr) (n c m d : Nat) (X Y : List SpanZ) (W : World) (h : SpRow W a n X) (hn : n ≤ 90000) (k : SpRow W b m Y) (hm : m ≤ 90000) => equalS_any a b n c m d X Y W h hn k hm)
  have IE : Hid (inS L M = eqLS (joinS L) (bothS L M)) := Lib.hid rfl
  rw [IE.out]
  clear hr hA hs hB hL hM hl hb h1 h2 IE
  generalize joinS L = J at *
  generalize bothS L M = R at *
  go_enter Tryz.func46, Tryz.ntmps46
  go_wp2_with (first
    | (go_at_call 40
       refine CJ.out.mono ?_
       rintro r W1 ⟨V1, rfl, ho1⟩
       obtain ⟨a1, c1, rfl, hr1, hn1⟩ := ho1.row2
       have R1 := Lib.hid hr1
       have B1 := Lib.hid ho1.2.1
       clear ho1 hr1 hn1 CJ)
    | (go_at_call 76
       refine (CB.out _ B1.out).mono ?_
       rintro r W2 ⟨V2, rfl, ho2⟩
       obtain ⟨a2, c2, rfl, hr2, hn2⟩ := ho2.row2
       have R2 := Lib.hid hr2
       have R3 := Lib.hid (R1.out.below ho2.2.1)
       have B2 := Lib.hid (Below.step B1.out ho2.2.1)
       clear ho2 hr2 hn2 CB R1 B1)
    | (go_at_call 39
       refine (CE.out _ _ _ _ _ _ _ _ _ R3.out NJ.out R2.out NB.out).mono ?_
       rintro r W3 ⟨rfl, hb3⟩
       have B3 := Lib.hid (Below.step B2.out hb3)
       clear hb3 B2))
  go_ret
  exact ⟨rfl, B3.out⟩
def SpArg (w : World) (a : Option Addr) (n c : Nat) (L : List SpanZ) : Prop := SpRow w a n L ∧ (a = none → n = 0 ∧ c = 0)
theorem SpArg.below {w W : World} {a : Option Addr} {n c : Nat} {L : List SpanZ} (h : SpArg w a n c L) (hb : Below w.heap.size w W) : SpArg W a n c L := ⟨h.1.below hb, h.2⟩
theorem SpArg.spans {w : World} {a : Option Addr} {n c : Nat} {L : List SpanZ} (h : SpArg w a n c L) : SpansZ L := fun s hs => h.1.2.1 s hs
theorem SpOut.arg {W0 wr : World} {V : Value} {L : List SpanZ} (h : SpOut W0 wr V L) : ∃ a c, V = .slice a L.length c ∧ SpArg wr a L.length c L := by
  obtain ⟨a, c, hV, hr, hn⟩ := h.row
  exact ⟨a, c, hV, hr, fun e => by
    obtain ⟨h1, h2⟩ := hn e
    subst h1
    exact ⟨rfl, h2⟩⟩
end Go.Proofs.YtlmndmfebgaidaaGreatDoor
