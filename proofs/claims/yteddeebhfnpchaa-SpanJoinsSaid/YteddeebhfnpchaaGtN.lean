/-
  Merged texts: StG.
-/
import Derived.Test.YteddeebhfnpchaaGtM
namespace Go.Proofs.Yteddeebhfnpchaa
open Go.RowKit
set_option linter.unusedVariables false

theorem alloc_span_at {ops : Array Oper} {rest : List Oper} {a : Act} {w : World} {Q : Exit → Act → World → Prop} {dst : Option Tmp} {t' : TypeId} {pos : String} {aft : Array Edge}
    (h : wpList Try.prog ops Q rest (a.put dst (.pointer (some ⟨w.heap.size, 0, none⟩))) (w.alloc (.cells (scells zeroS) 30))) :
    wpList Try.prog ops Q ({ dst := dst, op := .alloc 30, type := t', pos := pos, after := aft, guard := none } :: rest) a w :=
  Great.wpList_allocTo rfl dst rfl _ _ (alloc_span_run rfl) h
theorem store_span_at {ops : Array Oper} {rest : List Oper} {a : Act} {w : World} {Q : Exit → Act → World → Prop} {t' : TypeId} {pos : String} {aft : Array Edge} (k j : Nat) (g : Nat) (s t : SpanZ) (hs : SixS s) (ht : SixS t) (hx : a.eval (.tmp k) = .pointer (some ⟨g, 0, none⟩)) (hy : a.eval (.tmp j) = .agg (scells t))
    (hb : SBlk w g s) (h : wpList Try.prog ops Q rest a (w.setRow g (scells t))) :
    wpList Try.prog ops Q ({ dst := none, op := .store 30 (.tmp k) (.tmp j), type := t', pos := pos, after := aft, guard := none } :: rest) a w :=
  wpList_store_rowTo rfl 30 (.tmp k) (.tmp j) rfl rfl g (scells t) hx hy 30 (scells s) hb (Try.sizeS ht) (by rw [scells_size hs, scells_size ht]) (scells_one t) h
/-- Of one span and many. -/
def rowS (p : SpanZ) (b : List SpanZ) : List SpanZ := (b.filter fun q => rightZ p.v p.lo p.hi && rightZ q.v q.lo q.hi && (p.v == q.v)).map (cutS p)
theorem pair_take (a b : List SpanZ) (i : Nat) (hi : i < a.length) : pairS (a.take (i + 1)) b = pairS (a.take i) b ++ rowS (a[i]) b := by
  rw [List.take_succ_eq_append_getElem hi]
  unfold pairS rowS
  rw [List.flatMap_append]
  simp
theorem row_take (p : SpanZ) (b : List SpanZ) (k : Nat) (hk : k < b.length) : rowS p (b.take (k + 1)) = rowS p (b.take k) ++ (if (rightZ p.v p.lo p.hi && rightZ (b[k]).v (b[k]).lo (b[k]).hi && (p.v == (b[k]).v)) = true then [cutS p (b[k])] else []) := by
  rw [List.take_succ_eq_append_getElem hk]
  unfold rowS
  rw [List.filter_append, List.map_append]
  congr 1
  rw [List.filter_cons, List.filter_nil]
  split <;> rfl
theorem pair_zero (b : List SpanZ) : pairS [] b = [] := rfl
theorem row_zero (p : SpanZ) : rowS p [] = [] := rfl

set_option maxHeartbeats 4000000 in
set_option maxRecDepth 100000 in
theorem rboth_any (a b : Option Addr) (n c m d : Nat) (L M : List SpanZ) (w : World) (hr : SpRow w a n L) (hA : a = none → n = 0 ∧ c = 0) (hn : n ≤ 100) (hs : SpRow w b m M) (hB : b = none → m = 0 ∧ d = 0) (hm : m ≤ 100) :
    Calls Try.prog 12 #[.slice a n c, .slice b m d] w (GivesSp (bothS L M) w) := by
  have RA := Lib.hid hr
  have RB := Lib.hid hs
  have HA := Lib.hid hr.1
  have HB := Lib.hid hs.1
  have HN := Lib.hid hn
  have HM := Lib.hid hm
  have CR := Lib.hid (fun (s : SpanZ) W (h : SixS s) => rsright_any s W h)
  have CC := Lib.hid (fun (A B : List Int) W (h : Sixteen A) (k : Sixteen B) => rcmpaddr_any A B W h k)
  have CJ := Lib.hid (fun (a : Option Addr) (n c : Nat) (X : List SpanZ) (W : World) (h : SpArg W a n c X) (hn : n ≤ 40000) => rjoin_any a n c X W h.1 h.2 hn)
  have BE : Hid (bothS L M = joinS (pairS L M)) := Lib.hid rfl
  rw [BE.out]
  clear hr hs hA hB hn hm BE
  go_enter Try.func12, Try.ntmps12
  go_wp2_with fail
  go_loopg [5, 6] n (fun gk oV iV wr => ∃ (i : Nat) (O : List SpanZ), iV = .int .i64 (i : Int) ∧ i + gk = n ∧ O = pairS (L.take i) M ∧ O.length ≤ i * 100 ∧ SpOut w wr oV O)
  case atStart => exact ⟨0, [], rfl, by omega, rfl, Nat.zero_le _, SpOut.start w⟩
  case round =>
    obtain ⟨i, O, rfl, hi, hO, hol, ho⟩ := hrel
    have O5 := Lib.hid ho
    have OE := Lib.hid hO
    have OL := Lib.hid hol
    clear ho hO hol
    rcases gk with _ | g
    · have hie : i = n := by omega
      have t0 : decide ((i : Int) < (n : Int)) = false := decide_eq_false (by omega)
      have t1 : decide (i < n) = false := decide_eq_false (by omega)
      have PE : Hid (O = pairS L M) := Lib.hid (by rw [OE.out, List.take_of_length_le (by rw [HA.out]; omega)])
      have OL2 : Hid (O.length ≤ 40000) := Lib.hid (by have := OL.out; have := HN.out; omega)
      clear hie hi OE OL CR CC RA RB
      obtain ⟨aO, cO, rfl, hr5⟩ := O5.out.arg
      have R5 := Lib.hid hr5
      have B5 := Lib.hid O5.out.2.1
      clear hr5 O5
      go_wp2_with (go_at_call 10
                   refine (CJ.out _ _ _ _ _ R5.out OL2.out).mono ?_
                   rintro r w7 ⟨V7, rfl, ho7⟩
                   have O7 := Lib.hid (ho7.wider B5.out)
                   clear ho7 R5 B5)
      go_ret
      rw [PE.out] at O7
      exact ⟨_, rfl, O7.out⟩
    · have hlt : i < n := by omega
      obtain ⟨bA, oA, rfl, _⟩ := RA.out.form (by omega)
      have kl : i < L.length := by rw [HA.out]; omega
      have t0 : decide ((i : Int) < (n : Int)) = true := decide_eq_true (by omega)
      have t1 : decide (i < n) = true := decide_eq_true (by omega)
      have i0 : (0 : Int) ≤ (i : Int) := by omega
      have i1 : (i : Int) < (n : Int) := by omega
      have iI : IntKind.i64.wrap ((i : Int) + 1) = (i : Int) + 1 := IntWalk.i64_in _ (by have := HN.out; omega)
      have p6 := RA.out.2.1 _ (List.getElem_mem kl)
      have PX := Lib.hid p6
      have PT := Lib.hid (fun X => pair_take L X i kl)
      have PG := Lib.hid (fun W (h : Below w.heap.size w W) => (RA.out.below h).range i kl)
      have LP : Hid ((Try.prog.info? 30).map (·.size) = some (scL L[i]).length) := Lib.hid (by rw [scL_len p6, Try.sizeS p6, scells_size p6])
      have SP := Lib.hid (Try.sizeS p6)
      have CRP := Lib.hid (fun W => CR.out L[i] W p6)
      clear p6 RA
      generalize L[i] = p at *
      have EP : Hid ((scL p).toArray = scells p) := Lib.hid rfl
      have RT : Hid (pairS (L.take i) M ++ rowS p (M.take 0) = O) := Lib.hid (by rw [OE.out]; simp [row_zero])
      have OL0 : Hid (O.length ≤ i * 100 + 0) := Lib.hid (by have := OL.out; omega)
      clear OE OL
      go_upto_region 6 with fail
      go_loopg [5, 7] m (fun fk oV kV wx => ∃ (k : Nat) (O : List SpanZ), kV = .int .i64 (k : Int) ∧ k + fk = m ∧ pairS (L.take i) M ++ rowS p (M.take k) = O ∧ O.length ≤ i * 100 + k ∧ SpOut w wx oV O)
      case atStart => exact ⟨0, O, rfl, by omega, RT.out, OL0.out, O5.out⟩
      case round =>
        clear RT OL0 O5
        obtain ⟨k, O, rfl, hk, hO, hol, ho⟩ := hrel
        have O5 := Lib.hid ho
        have OE := Lib.hid hO
        have OL := Lib.hid hol
        clear ho hO hol
        rcases gk with _ | f
        · have t2 : decide ((k : Int) < (m : Int)) = false := decide_eq_false (by omega)
          have t3 : decide (k < m) = false := decide_eq_false (by omega)
          have PN : Hid (O = pairS (L.take (i + 1)) M) := Lib.hid (by rw [PT.out, ← OE.out, List.take_of_length_le (l := M) (by rw [HB.out]; omega)])
          have ON : Hid (O.length ≤ (i + 1) * 100) := Lib.hid (by have := OL.out; have := HM.out; omega)
          clear hk OE OL
          go_wp2_with fail
          go_roundg g
          case measure => omega
          case rel => exact ⟨i + 1, O, by go_num, by omega, PN.out, ON.out, O5.out⟩
        · have hlk : k < m := by omega
          obtain ⟨bB, oB, rfl, _⟩ := RB.out.form (by omega)
          have kk : k < M.length := by rw [HB.out]; exact hlk
          have t2 : decide ((k : Int) < (m : Int)) = true := decide_eq_true (by omega)
          have t3 : decide (k < m) = true := decide_eq_true (by omega)
          have k0 : (0 : Int) ≤ (k : Int) := by omega
          have k1 : (k : Int) < (m : Int) := by omega
          have kI : IntKind.i64.wrap ((k : Int) + 1) = (k : Int) + 1 := IntWalk.i64_in _ (by have := HM.out; omega)
          have q6 := RB.out.2.1 _ (List.getElem_mem kk)
          have QX := Lib.hid q6
          have W0 := Lib.hid O5.out.2.1
          have QG := Lib.hid (fun W (h : Below wr.heap.size wr W) => (RB.out.below (Below.step W0.out h)).range k kk)
          have QV := Lib.hid (fun W (h : Below wr.heap.size wr W) => (RB.out.below (Below.step W0.out h)).v k kk)
          have QLo := Lib.hid (fun W (h : Below wr.heap.size wr W) => (RB.out.below (Below.step W0.out h)).lo k kk)
          have QHi := Lib.hid (fun W (h : Below wr.heap.size wr W) => (RB.out.below (Below.step W0.out h)).hi k kk)
          have LQ : Hid ((Try.prog.info? 30).map (·.size) = some (scL M[k]).length) := Lib.hid (by rw [scL_len q6, Try.sizeS q6, scells_size q6])
          have CRQ : Hid (∀ W, Calls Try.prog 27 #[.agg (scL M[k]).toArray] W fun e w' => e = .returned (.bool (rightZ (M[k]).v (M[k]).lo (M[k]).hi)) ∧ Below W.heap.size W w') := Lib.hid (fun W => CR.out M[k] W q6)
          have RT := Lib.hid (row_take p M k kk)
          have PGA := Lib.hid (PG.out _ W0.out)
          have XB : Hid (SBlk (wr.alloc (.cells (scells p) 30)) wr.heap.size p) := Lib.hid (sbox wr p)
          have AZ : Hid (SBlk (wr.alloc (.cells (scells zeroS) 30)) wr.heap.size zeroS) := Lib.hid (sbox wr zeroS)
          have BB : Hid (Below wr.heap.size wr (wr.alloc (.cells (scells p) 30))) := Lib.hid (box_below _ _)
          have HK := Lib.hid hk
          clear q6 hk
          generalize M[k] = q at *
          go_upto_region 9 with (first
            | ((with_reducible refine load_span_at 23 bA (oA + i * 33) (scL p) ?_ PGA.out LP.out ?_); (· rfl); rw [EP.out])
            | (with_reducible refine alloc_span_at ?_)
            | ((with_reducible refine store_span_at 8 24 wr.heap.size zeroS p zeroS_six PX.out ?_ ?_ AZ.out ?_); (· rfl); (· rfl); rw [alloc_setRow]))
          clear AZ PGA
          obtain ⟨g8, hg8⟩ : ∃ g8, g8 = wr.heap.size := ⟨_, rfl⟩
          have G8 : Hid (wr.heap.size ≤ g8) := Lib.hid (by omega)
          rw [← hg8] at XB
          rw [← hg8]
          clear hg8
          generalize hw8 : wr.alloc (.cells (scells p) 30) = w8 at *
          clear hw8
          have X8 := XB
          have B8 := BB
          clear XB BB
          obtain ⟨pv, plo, phi⟩ := p
          obtain ⟨qv, qlo, qhi⟩ := q
          dsimp only at *
          generalize hFQ : (scL ⟨qv, qlo, qhi⟩).toArray = FQ at *
          have EQ := Lib.hid hFQ
          clear hFQ
          have ON := Lib.hid (fun h => (show pairS (L.take i) M ++ rowS ⟨pv, plo, phi⟩ (M.take (k + 1)) = O from by rw [RT.out, if_neg h, List.append_nil]; exact OE.out))
          have OY := Lib.hid (fun h => (show pairS (L.take i) M ++ rowS ⟨pv, plo, phi⟩ (M.take (k + 1)) = O ++ [cutS ⟨pv, plo, phi⟩ ⟨qv, qlo, qhi⟩] from by rw [RT.out, if_pos h, ← List.append_assoc, OE.out]))
          clear RT OE PT
          generalize rightZ pv plo phi = r1 at *
          generalize rightZ qv qlo qhi = r2 at *
          cases r1 with
          | false =>
            have RN := Lib.hid (ON.out (by simp))
            clear ON OY CC CRQ
            refine wp_region_ord Ext Ext.refl (fun _ _ _ => Ext.trans) ((0, false) :: (1, true) :: (2, false) :: (3, false) :: (4, false) :: (5, false) :: (6, false) :: (7, false) :: (8, true) :: (9, false) :: (10, false) :: (11, false) :: (12, false) :: (13, false) :: (14, false) :: (15, false) :: (16, false) :: (17, false) :: (18, false) :: (19, false) :: (20, false) :: []) (by kernel_rfl) (by kernel_rfl) rfl (by kernel_rfl) (fun _ _ _ _ _ h => h) ?_
            have X9 : Hid (SBlk w8.drew g8 ⟨pv, plo, phi⟩) := X8
            have B9 := Lib.hid B8.out.drew
            clear X8 B8
            have X8 := X9
            have B8 := B9
            clear X9 B9
            generalize w8.drew = w9 at *
            repeat (first
              | (refine ord_skip rfl (by rfl) ?_; simp only [Act.put, List.setIfInBounds_toArray, List.set_cons_zero, List.set_cons_succ])
              | (refine ord_take _ rfl (by rfl) (fun W hW => yields_row 30 (.tmp 8) rfl g8 30 (scells ⟨pv, plo, phi⟩) _ rfl (Blk.below X8.out hW X8.out.lt) Try.underlying30 rfl SP.out) ?_; simp only [Act.put, List.setIfInBounds_toArray, List.set_cons_zero, List.set_cons_succ])
              | (refine ord_take _ rfl (by rfl) (fun W hW => yields_bool (.tmp 37) rfl g8 0 _ rfl (SBlk.v (SBlk.below X8.out hW X8.out.lt))) ?_; simp only [Act.put, List.setIfInBounds_toArray, List.set_cons_zero, List.set_cons_succ])
              | (refine ord_take _ rfl (by rfl) (fun W hW => yields_bool (.tmp 42) rfl bB (oB + k * 33) _ rfl (QV.out W (Below.step B8.out hW))) ?_; simp only [Act.put, List.setIfInBounds_toArray, List.set_cons_zero, List.set_cons_succ])
              | (refine ord_take (.agg FQ) rfl (by rfl) (fun W hW => by rw [← EQ.out]; exact yields_part 30 (.tmp 31) rfl bB (oB + k * 33) (scL ⟨qv, qlo, qhi⟩) _ rfl (QG.out W (Below.step B8.out hW)) Try.underlying30 rfl LQ.out) ?_; simp only [Act.put, List.setIfInBounds_toArray, List.set_cons_zero, List.set_cons_succ])
              | (refine ord_take _ rfl (by rfl) (fun W hW => by go_simp; first | done | rfl) ?_; simp only [Act.put, List.setIfInBounds_toArray, List.set_cons_zero, List.set_cons_succ])
              | (refine ord_sole rfl (by rfl) (fun K1 hK1 => ?_)
                 go_simp
                 first
                   | refine (CRP.out _).mono ?_
                 rintro r w5 ⟨rfl, hb5⟩
                 refine hK1 _ _ hb5 ?_
                 clear hK1 K1
                 replace X8 := Lib.hid (X8.out.below hb5 X8.out.lt)
                 replace B8 := Lib.hid (Below.step B8.out hb5)
                 clear hb5))
            refine ord_end ?_
            go_wp2_with fail
            go_roundg f
            case measure => omega
            case rel => exact ⟨k + 1, O, by go_num, by have := HK.out; omega, RN.out, by have := OL.out; omega, O5.out.below B8.out⟩
          | true =>
          cases r2 with
          | false =>
            have RN := Lib.hid (ON.out (by simp))
            clear ON OY CC
            refine wp_region_ord Ext Ext.refl (fun _ _ _ => Ext.trans) ((0, false) :: (1, true) :: (2, false) :: (3, false) :: (4, false) :: (5, false) :: (6, false) :: (7, false) :: (8, true) :: (9, false) :: (10, false) :: (11, false) :: (12, false) :: (13, false) :: (14, false) :: (15, false) :: (16, false) :: (17, false) :: (18, false) :: (19, false) :: (20, false) :: []) (by kernel_rfl) (by kernel_rfl) rfl (by kernel_rfl) (fun _ _ _ _ _ h => h) ?_
            have X9 : Hid (SBlk w8.drew g8 ⟨pv, plo, phi⟩) := X8
            have B9 := Lib.hid B8.out.drew
            clear X8 B8
            have X8 := X9
            have B8 := B9
            clear X9 B9
            generalize w8.drew = w9 at *
            repeat (first
              | (refine ord_skip rfl (by rfl) ?_; simp only [Act.put, List.setIfInBounds_toArray, List.set_cons_zero, List.set_cons_succ])
              | (refine ord_take _ rfl (by rfl) (fun W hW => yields_row 30 (.tmp 8) rfl g8 30 (scells ⟨pv, plo, phi⟩) _ rfl (Blk.below X8.out hW X8.out.lt) Try.underlying30 rfl SP.out) ?_; simp only [Act.put, List.setIfInBounds_toArray, List.set_cons_zero, List.set_cons_succ])
              | (refine ord_take _ rfl (by rfl) (fun W hW => yields_bool (.tmp 37) rfl g8 0 _ rfl (SBlk.v (SBlk.below X8.out hW X8.out.lt))) ?_; simp only [Act.put, List.setIfInBounds_toArray, List.set_cons_zero, List.set_cons_succ])
              | (refine ord_take _ rfl (by rfl) (fun W hW => yields_bool (.tmp 42) rfl bB (oB + k * 33) _ rfl (QV.out W (Below.step B8.out hW))) ?_; simp only [Act.put, List.setIfInBounds_toArray, List.set_cons_zero, List.set_cons_succ])
              | (refine ord_take (.agg FQ) rfl (by rfl) (fun W hW => by rw [← EQ.out]; exact yields_part 30 (.tmp 31) rfl bB (oB + k * 33) (scL ⟨qv, qlo, qhi⟩) _ rfl (QG.out W (Below.step B8.out hW)) Try.underlying30 rfl LQ.out) ?_; simp only [Act.put, List.setIfInBounds_toArray, List.set_cons_zero, List.set_cons_succ])
              | (refine ord_take _ rfl (by rfl) (fun W hW => by go_simp; first | done | rfl) ?_; simp only [Act.put, List.setIfInBounds_toArray, List.set_cons_zero, List.set_cons_succ])
              | (refine ord_sole rfl (by rfl) (fun K1 hK1 => ?_)
                 go_simp
                 first
                   | (refine (CRP.out _).mono ?_; clear CRP)
                   | refine (CRQ.out _).mono ?_
                 rintro r w5 ⟨rfl, hb5⟩
                 refine hK1 _ _ hb5 ?_
                 clear hK1 K1
                 replace X8 := Lib.hid (X8.out.below hb5 X8.out.lt)
                 replace B8 := Lib.hid (Below.step B8.out hb5)
                 clear hb5))
            refine ord_end ?_
            go_wp2_with fail
            go_roundg f
            case measure => omega
            case rel => exact ⟨k + 1, O, by go_num, by have := HK.out; omega, RN.out, by have := OL.out; omega, O5.out.below B8.out⟩
          | true =>
          by_cases hv : pv = qv
          · subst hv
            have tv : (pv == pv) = true := beq_self_eq_true pv
            have RN := Lib.hid (OY.out (by rw [tv]; rfl))
            clear ON OY
            refine wp_region_ord Ext Ext.refl (fun _ _ _ => Ext.trans) ((0, false) :: (1, true) :: (2, false) :: (3, false) :: (4, false) :: (5, false) :: (6, false) :: (7, false) :: (8, true) :: (9, false) :: (10, false) :: (11, false) :: (12, false) :: (13, false) :: (14, false) :: (15, false) :: (16, false) :: (17, false) :: (18, false) :: (19, false) :: (20, false) :: []) (by kernel_rfl) (by kernel_rfl) rfl (by kernel_rfl) (fun _ _ _ _ _ h => h) ?_
            have X9 : Hid (SBlk w8.drew g8 ⟨pv, plo, phi⟩) := X8
            have B9 := Lib.hid B8.out.drew
            clear X8 B8
            have X8 := X9
            have B8 := B9
            clear X9 B9
            generalize w8.drew = w9 at *
            repeat (first
              | (refine ord_skip rfl (by rfl) ?_; simp only [Act.put, List.setIfInBounds_toArray, List.set_cons_zero, List.set_cons_succ])
              | (refine ord_take _ rfl (by rfl) (fun W hW => yields_row 30 (.tmp 8) rfl g8 30 (scells ⟨pv, plo, phi⟩) _ rfl (Blk.below X8.out hW X8.out.lt) Try.underlying30 rfl SP.out) ?_; simp only [Act.put, List.setIfInBounds_toArray, List.set_cons_zero, List.set_cons_succ])
              | (refine ord_take _ rfl (by rfl) (fun W hW => yields_bool (.tmp 37) rfl g8 0 _ rfl (SBlk.v (SBlk.below X8.out hW X8.out.lt))) ?_; simp only [Act.put, List.setIfInBounds_toArray, List.set_cons_zero, List.set_cons_succ])
              | (refine ord_take _ rfl (by rfl) (fun W hW => yields_bool (.tmp 42) rfl bB (oB + k * 33) _ rfl (QV.out W (Below.step B8.out hW))) ?_; simp only [Act.put, List.setIfInBounds_toArray, List.set_cons_zero, List.set_cons_succ])
              | (refine ord_take (.agg FQ) rfl (by rfl) (fun W hW => by rw [← EQ.out]; exact yields_part 30 (.tmp 31) rfl bB (oB + k * 33) (scL ⟨pv, qlo, qhi⟩) _ rfl (QG.out W (Below.step B8.out hW)) Try.underlying30 rfl LQ.out) ?_; simp only [Act.put, List.setIfInBounds_toArray, List.set_cons_zero, List.set_cons_succ])
              | (refine ord_take _ rfl (by rfl) (fun W hW => by go_simp; first | done | rfl) ?_; simp only [Act.put, List.setIfInBounds_toArray, List.set_cons_zero, List.set_cons_succ])
              | (refine ord_sole rfl (by rfl) (fun K1 hK1 => ?_)
                 go_simp
                 first
                   | (refine (CRP.out _).mono ?_; clear CRP)
                   | refine (CRQ.out _).mono ?_
                 rintro r w5 ⟨rfl, hb5⟩
                 refine hK1 _ _ hb5 ?_
                 clear hK1 K1
                 replace X8 := Lib.hid (X8.out.below hb5 X8.out.lt)
                 replace B8 := Lib.hid (Below.step B8.out hb5)
                 clear hb5))
            refine ord_end ?_
            clear CRQ tv
            have C1 := Lib.hid (fun W => CC.out qlo plo W QX.out.1 PX.out.1)
            have C2 := Lib.hid (fun W => CC.out qhi phi W QX.out.2 PX.out.2)
            have SPL := Lib.hid (Try.sizeA PX.out.1.1)
            have SPH := Lib.hid (Try.sizeA PX.out.2.1)
            have SQL := Lib.hid (Try.sizeA QX.out.1.1)
            have SQH := Lib.hid (Try.sizeA QX.out.2.1)
            have SQL2 : Hid ((Try.prog.info? 28).map (·.size) = some (acells qlo).toArray.size) := SQL
            have SQH2 : Hid ((Try.prog.info? 28).map (·.size) = some (acells qhi).toArray.size) := SQH
            have AQL := Lib.hid (bytes_one qlo)
            have AQH := Lib.hid (bytes_one qhi)
            have D1 : Hid (0 < cmpN (aN qlo) (aN plo) ↔ aN plo < aN qlo) := Lib.hid (by have := cmpN_gt (aN qlo) (aN plo); rw [decide_eq_decide] at this; exact this)
            have D2 : Hid (cmpN (aN qhi) (aN phi) < 0 ↔ aN qhi < aN phi) := Lib.hid (by have := cmpN_lt (aN qhi) (aN phi); rw [decide_eq_decide] at this; exact this)
            have CU : Hid (cutS ⟨pv, plo, phi⟩ ⟨pv, qlo, qhi⟩ = ⟨pv, if 0 < cmpN (aN qlo) (aN plo) then qlo else plo, if cmpN (aN qhi) (aN phi) < 0 then qhi else phi⟩) := Lib.hid (by
              unfold cutS
              simp only [D1.out, D2.out])
            clear CC D1 D2
            generalize cmpN (aN qlo) (aN plo) = d1 at *
            generalize cmpN (aN qhi) (aN phi) = d2 at *
            obtain ⟨nlo, hnlo⟩ : ∃ nlo, (if 0 < d1 then qlo else plo) = nlo := ⟨_, rfl⟩
            obtain ⟨nhi, hnhi⟩ : ∃ nhi, (if d2 < 0 then qhi else phi) = nhi := ⟨_, rfl⟩
            have NL := Lib.hid hnlo
            have NH := Lib.hid hnhi
            have N6 : Hid (Sixteen nlo ∧ Sixteen nhi) := Lib.hid (by
              rw [← hnlo, ← hnhi]
              refine ⟨?_, ?_⟩ <;> split
              · exact QX.out.1
              · exact PX.out.1
              · exact QX.out.2
              · exact PX.out.2)
            rw [hnlo, hnhi] at CU
            clear hnlo hnhi
            go_upto_region 10 with fail
            refine wp_region_ord Ext Ext.refl (fun _ _ _ => Ext.trans) ((0, false) :: (1, false) :: (2, false) :: (3, false) :: (4, false) :: (5, false) :: (6, false) :: (7, true) :: (8, false) :: []) (by kernel_rfl) (by kernel_rfl) rfl (by kernel_rfl) (fun _ _ _ _ _ h => h) ?_
            have X9 : Hid (SBlk w5.drew g8 ⟨pv, plo, phi⟩) := X8
            have B9 := Lib.hid B8.out.drew
            clear X8 B8
            have X8 := X9
            have B8 := B9
            clear X9 B9
            generalize w5.drew = w9 at *
            repeat (first
              | (refine ord_skip rfl (by rfl) ?_; simp only [Act.put, List.setIfInBounds_toArray, List.set_cons_zero, List.set_cons_succ])
              | (refine ord_take _ rfl (by rfl) (fun W hW => yields_part 28 (.tmp 49) rfl bB (oB + k * 33 + 1) (acells qlo) _ rfl (QLo.out W (Below.step B8.out hW)) Try.underlying28 rfl SQL.out) ?_; simp only [Act.put, List.setIfInBounds_toArray, List.set_cons_zero, List.set_cons_succ])
              | (refine ord_take _ rfl (by rfl) (fun W hW => yields_part 28 (.tmp 51) rfl g8 1 (acells plo) _ rfl (SBlk.lo (SBlk.below X8.out hW X8.out.lt) PX.out) Try.underlying28 rfl SPL.out) ?_; simp only [Act.put, List.setIfInBounds_toArray, List.set_cons_zero, List.set_cons_succ])
              | (refine ord_take _ rfl (by rfl) (fun W hW => by go_simp; first | done | rfl) ?_; simp only [Act.put, List.setIfInBounds_toArray, List.set_cons_zero, List.set_cons_succ])
              | (refine ord_sole rfl (by rfl) (fun K1 hK1 => ?_)
                 go_simp
                 first
                   | refine (C1.out _).mono ?_
                 rintro r w5 ⟨rfl, hb5⟩
                 refine hK1 _ _ hb5 ?_
                 clear hK1 K1
                 replace X8 := Lib.hid (X8.out.below hb5 X8.out.lt)
                 replace B8 := Lib.hid (Below.step B8.out hb5)
                 clear hb5))
            refine ord_end ?_
            go_upto_if 54 with fail
            go_cut [] from 15 to 79 (fun wx => SBlk wx g8 ⟨pv, nlo, phi⟩ ∧ Below wr.heap.size wr wx)
            case first =>
              by_cases hd : 0 < d1
              · have td : decide (0 < d1) = true := decide_eq_true hd
                have e : qlo = nlo := by
                  have := NL.out
                  rwa [if_pos hd] at this
                have E := Lib.hid e
                clear e
                have QA := Lib.hid (QLo.out _ B8.out)
                have TH := Lib.hid (SBlk.thereLo X8.out PX.out)
                have TH2 : Hid (w5.there g8 1 (acells qlo).toArray.size) := Lib.hid (by rw [show (acells qlo).toArray.size = 16 from acells_len (by have := SQL2; first | exact QX.out.1.1 | exact QX.out.2.1)]; exact TH.out)
                clear TH
                go_wp2_with (first
                  | ((with_reducible refine load_bytes_at 58 bB (oB + k * 33 + 1) (acells qlo) ?_ QA.out SQL.out ?_); (· rfl))
                  | ((with_reducible refine store_bytes_at 60 59 g8 1 (acells qlo).toArray ?_ ?_ TH2.out SQL2.out AQL.out ?_); (· rfl); (· rfl)))
                go_meet
                exact ⟨by rw [← E.out]; exact SBlk.wholeLo PX.out QX.out.1.1 X8.out, below_setCells G8.out _ _ _ B8.out⟩
              · have td : decide (0 < d1) = false := decide_eq_false hd
                have e : plo = nlo := by
                  have := NL.out
                  rwa [if_neg hd] at this
                have E := Lib.hid e
                clear e
                go_wp2_with fail
                go_meet
                exact ⟨by rw [← E.out]; exact X8.out, B8.out⟩

            case rest =>
              obtain ⟨hx, hb⟩ := hcut
              have S7 : Hid (SixS ⟨pv, nlo, phi⟩) := Lib.hid ⟨N6.out.1, PX.out.2⟩
              have X8 := Lib.hid hx
              have B8 := Lib.hid hb
              clear hx hb C1
              go_upto_region 12 with fail
              refine wp_region_ord Ext Ext.refl (fun _ _ _ => Ext.trans) ((0, false) :: (1, false) :: (2, false) :: (3, false) :: (4, false) :: (5, false) :: (6, false) :: (7, true) :: (8, false) :: []) (by kernel_rfl) (by kernel_rfl) rfl (by kernel_rfl) (fun _ _ _ _ _ h => h) ?_
              have X9 : Hid (SBlk wc.drew g8 ⟨pv, nlo, phi⟩) := X8
              have B9 := Lib.hid B8.out.drew
              clear X8 B8
              have X8 := X9
              have B8 := B9
              clear X9 B9
              generalize wc.drew = w9 at *
              repeat (first
                | (refine ord_skip rfl (by rfl) ?_; simp only [Act.put, List.setIfInBounds_toArray, List.set_cons_zero, List.set_cons_succ])
                | (refine ord_take _ rfl (by rfl) (fun W hW => yields_part 28 (.tmp 64) rfl bB (oB + k * 33 + 17) (acells qhi) _ rfl (QHi.out W (Below.step B8.out hW)) Try.underlying28 rfl SQH.out) ?_; simp only [Act.put, List.setIfInBounds_toArray, List.set_cons_zero, List.set_cons_succ])
                | (refine ord_take _ rfl (by rfl) (fun W hW => yields_part 28 (.tmp 66) rfl g8 17 (acells phi) _ rfl (SBlk.hi (SBlk.below X8.out hW X8.out.lt) S7.out) Try.underlying28 rfl SPH.out) ?_; simp only [Act.put, List.setIfInBounds_toArray, List.set_cons_zero, List.set_cons_succ])
                | (refine ord_take _ rfl (by rfl) (fun W hW => by go_simp; first | done | rfl) ?_; simp only [Act.put, List.setIfInBounds_toArray, List.set_cons_zero, List.set_cons_succ])
                | (refine ord_sole rfl (by rfl) (fun K1 hK1 => ?_)
                   go_simp
                   first
                     | refine (C2.out _).mono ?_
                   rintro r w5 ⟨rfl, hb5⟩
                   refine hK1 _ _ hb5 ?_
                   clear hK1 K1
                   replace X8 := Lib.hid (X8.out.below hb5 X8.out.lt)
                   replace B8 := Lib.hid (Below.step B8.out hb5)
                   clear hb5))
              refine ord_end ?_
              go_upto_if 69 with fail
              go_cut [] from 15 to 79 (fun wx => SBlk wx g8 ⟨pv, nlo, nhi⟩ ∧ Below wr.heap.size wr wx)
              case first =>
                by_cases hd : d2 < 0
                · have td : decide (d2 < 0) = true := decide_eq_true hd
                  have e : qhi = nhi := by
                    have := NH.out
                    rwa [if_pos hd] at this
                  have E := Lib.hid e
                  clear e
                  have QA := Lib.hid (QHi.out _ B8.out)
                  have TH := Lib.hid (SBlk.thereHi X8.out S7.out)
                  have TH2 : Hid (w5.there g8 17 (acells qhi).toArray.size) := Lib.hid (by rw [show (acells qhi).toArray.size = 16 from acells_len (by have := SQH2; first | exact QX.out.1.1 | exact QX.out.2.1)]; exact TH.out)
                  clear TH
                  go_wp2_with (first
                    | ((with_reducible refine load_bytes_at 73 bB (oB + k * 33 + 17) (acells qhi) ?_ QA.out SQH.out ?_); (· rfl))
                    | ((with_reducible refine store_bytes_at 75 74 g8 17 (acells qhi).toArray ?_ ?_ TH2.out SQH2.out AQH.out ?_); (· rfl); (· rfl)))
                  go_meet
                  exact ⟨by rw [← E.out]; exact SBlk.wholeHi S7.out QX.out.2.1 X8.out, below_setCells G8.out _ _ _ B8.out⟩
                · have td : decide (d2 < 0) = false := decide_eq_false hd
                  have e : phi = nhi := by
                    have := NH.out
                    rwa [if_neg hd] at this
                  have E := Lib.hid e
                  clear e
                  go_wp2_with fail
                  go_meet
                  exact ⟨by rw [← E.out]; exact X8.out, B8.out⟩
              case rest =>
                obtain ⟨hx, hb⟩ := hcut
                have n7 : SixS ⟨pv, nlo, nhi⟩ := ⟨N6.out.1, N6.out.2⟩
                have N7 := Lib.hid n7
                have SN := Lib.hid (Try.sizeS n7)
                have BN := Lib.hid (built_one _ n7)
                have X8 : Hid (Blk wc g8 30 (scells ⟨pv, nlo, nhi⟩)) := Lib.hid hx
                have OX := Lib.hid (O5.out.below hb)
                clear hx hb C2 n7
                have LM : Hid (O.length + 1 ≤ 100000) := Lib.hid (by have := OL.out; have := HM.out; have := HN.out; omega)
                go_wp2_with (first
                  | ((with_reducible refine load_whole_at 8 g8 (scells ⟨pv, nlo, nhi⟩) ?_ X8.out SN.out ?_); (· rfl))
                  | ((with_reducible refine build_span_at 77 (scells ⟨pv, nlo, nhi⟩) ?_ BN.out ?_); (· rfl))
                  | (at_builtin; go_must (refine sp_append (W0 := w) (L := O) (zs := [⟨pv, nlo, nhi⟩]) rfl _ _ rfl rfl (OX.out.alloc _) rfl (sp_one wc N7.out) (fun e => by cases e) LM.out ?_; intro V9 w9 ho9; have O9 := Lib.hid ho9; clear ho9)))
                go_roundg f
                case measure => omega
                case rel => exact ⟨k + 1, O ++ [⟨pv, nlo, nhi⟩], by go_num, by have := HK.out; omega, by rw [RN.out, CU.out], by rw [List.length_append]; have := OL.out; show _ + 1 ≤ _; omega, O9.out⟩
          · have tv : (pv == qv) = false := by simpa using hv
            have RN := Lib.hid (ON.out (by rw [tv]; simp))
            clear ON OY CC hv
            refine wp_region_ord Ext Ext.refl (fun _ _ _ => Ext.trans) ((0, false) :: (1, true) :: (2, false) :: (3, false) :: (4, false) :: (5, false) :: (6, false) :: (7, false) :: (8, true) :: (9, false) :: (10, false) :: (11, false) :: (12, false) :: (13, false) :: (14, false) :: (15, false) :: (16, false) :: (17, false) :: (18, false) :: (19, false) :: (20, false) :: []) (by kernel_rfl) (by kernel_rfl) rfl (by kernel_rfl) (fun _ _ _ _ _ h => h) ?_
            have X9 : Hid (SBlk w8.drew g8 ⟨pv, plo, phi⟩) := X8
            have B9 := Lib.hid B8.out.drew
            clear X8 B8
            have X8 := X9
            have B8 := B9
            clear X9 B9
            generalize w8.drew = w9 at *
            repeat (first
              | (refine ord_skip rfl (by rfl) ?_; simp only [Act.put, List.setIfInBounds_toArray, List.set_cons_zero, List.set_cons_succ])
              | (refine ord_take _ rfl (by rfl) (fun W hW => yields_row 30 (.tmp 8) rfl g8 30 (scells ⟨pv, plo, phi⟩) _ rfl (Blk.below X8.out hW X8.out.lt) Try.underlying30 rfl SP.out) ?_; simp only [Act.put, List.setIfInBounds_toArray, List.set_cons_zero, List.set_cons_succ])
              | (refine ord_take _ rfl (by rfl) (fun W hW => yields_bool (.tmp 37) rfl g8 0 _ rfl (SBlk.v (SBlk.below X8.out hW X8.out.lt))) ?_; simp only [Act.put, List.setIfInBounds_toArray, List.set_cons_zero, List.set_cons_succ])
              | (refine ord_take _ rfl (by rfl) (fun W hW => yields_bool (.tmp 42) rfl bB (oB + k * 33) _ rfl (QV.out W (Below.step B8.out hW))) ?_; simp only [Act.put, List.setIfInBounds_toArray, List.set_cons_zero, List.set_cons_succ])
              | (refine ord_take (.agg FQ) rfl (by rfl) (fun W hW => by rw [← EQ.out]; exact yields_part 30 (.tmp 31) rfl bB (oB + k * 33) (scL ⟨qv, qlo, qhi⟩) _ rfl (QG.out W (Below.step B8.out hW)) Try.underlying30 rfl LQ.out) ?_; simp only [Act.put, List.setIfInBounds_toArray, List.set_cons_zero, List.set_cons_succ])
              | (refine ord_take _ rfl (by rfl) (fun W hW => by go_simp; first | done | rfl) ?_; simp only [Act.put, List.setIfInBounds_toArray, List.set_cons_zero, List.set_cons_succ])
              | (refine ord_sole rfl (by rfl) (fun K1 hK1 => ?_)
                 go_simp
                 first
                   | (refine (CRP.out _).mono ?_; clear CRP)
                   | refine (CRQ.out _).mono ?_
                 rintro r w5 ⟨rfl, hb5⟩
                 refine hK1 _ _ hb5 ?_
                 clear hK1 K1
                 replace X8 := Lib.hid (X8.out.below hb5 X8.out.lt)
                 replace B8 := Lib.hid (Below.step B8.out hb5)
                 clear hb5))
            refine ord_end ?_
            go_wp2_with fail
            go_roundg f
            case measure => omega
            case rel => exact ⟨k + 1, O, by go_num, by have := HK.out; omega, RN.out, by have := OL.out; omega, O5.out.below B8.out⟩

end Go.Proofs.Yteddeebhfnpchaa
