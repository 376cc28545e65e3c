/-
  Merged texts: StG, StH, AnT, AnJ, AnM, AnW.
-/
import Derived.Test.YtlmndmfebgaidaaGreatDoorGrJ
import Derived.Test.YtlmndmfebgaidaaGreatDoorGrG
import Derived.Lib.MinMax
namespace Go.Proofs.YtlmndmfebgaidaaGreatDoor
open Go.RowKit
set_option linter.unusedVariables false
theorem alloc_span_at {ops : Array Oper} {rest : List Oper} {a : Act} {w : World} {Q : Exit → Act → World → Prop} {dst : Option Tmp} {t' : TypeId} {pos : String} {aft : Array Edge}
    (h : wpList Tryz.prog ops Q rest (a.put dst (.pointer (some ⟨w.heap.size, 0, none⟩))) (w.alloc (.cells (scells zeroS) 62))) :
    wpList Tryz.prog ops Q ({ dst := dst, op := .alloc 62, type := t', pos := pos, after := aft, guard := none } :: rest) a w :=
  Great.wpList_allocTo rfl dst rfl _ _ (alloc_span_run rfl) h
theorem store_span_at {ops : Array Oper} {rest : List Oper} {a : Act} {w : World} {Q : Exit → Act → World → Prop} {t' : TypeId} {pos : String} {aft : Array Edge} (k j : Nat) (g : Nat) (s t : SpanZ) (hs : SixS s) (ht : SixS t) (hx : a.eval (.tmp k) = .pointer (some ⟨g, 0, none⟩)) (hy : a.eval (.tmp j) = .agg (scells t))
    (hb : SBlk w g s) (h : wpList Tryz.prog ops Q rest a (w.setRow g (scells t))) :
    wpList Tryz.prog ops Q ({ dst := none, op := .store 62 (.tmp k) (.tmp j), type := t', pos := pos, after := aft, guard := none } :: rest) a w :=
  wpList_store_rowTo rfl 62 (.tmp k) (.tmp j) rfl rfl g (scells t) hx hy 62 (scells s) hb (Tryz.sizeS ht) (by rw [scells_size hs, scells_size ht]) (scells_one t) h
def rowS (p : SpanZ) (b : List SpanZ) : List SpanZ := (b.filter fun q => rightZ p.v p.lo p.hi && rightZ q.v q.lo q.hi && (p.v == q.v)).map (cutS p)
theorem pair_take (a b : List SpanZ) (i : Nat) (hi : i < a.length) : pairS (a.take (i + 1)) b = pairS (a.take i) b ++ rowS (a[i]) b := by
  rw [List.take_succ_eq_append_getElem hi]
  unfold pairS rowS
  rw [List.flatMap_append]
  simp
theorem row_take (p : SpanZ) (b : List SpanZ) (k : Nat) (hk : k < b.length) : rowS p (b.take (k + 1)) = rowS p (b.take k) ++ (if (rightZ p.v p.lo p.hi && rightZ (b[k]).v (b[k]).lo (b[k]).hi && (p.v == (b[k]).v)) = true then [cutS p (b[k])] else []) := by
  rw [List.take_succ_eq_append_getElem hk]
  unfold rowS
  rw [List.filter_append, List.map_append]
  congr 1
  rw [List.filter_cons, List.filter_nil]
  split <;> rfl
theorem row_zero (p : SpanZ) : rowS p [] = [] := rfl
set_option maxHeartbeats 4000000 in
set_option maxRecDepth 100000 in
theorem rboth_any (a b : Option Addr) (n c m d : Nat) (L M : List SpanZ) (w : World) (hr : SpRow w a n L) (hA : a = none → n = 0 ∧ c = 0) (hn : n ≤ 100) (hs : SpRow w b m M) (hB : b = none → m = 0 ∧ d = 0) (hm : m ≤ 100) :
    Calls Tryz.prog 77 #[.slice a n c, .slice b m d] w (GivesSp (bothS L M) w) := by
  have RA := Lib.hid hr
  have RB := Lib.hid hs
  have HA := Lib.hid hr.1
  have HB := Lib.hid hs.1
  have HN := Lib.hid hn
  have HM := Lib.hid hm
  have CR := Lib.hid (fun (s : SpanZ) W (h : SixS s) => rsright_any s W h)
  have CC := Lib.hid (fun (A B : List Int) W (h : Sixteen A) (k : Sixteen B) => rcmpaddr_any A B W h k)
  have CJ := Lib.hid (fun (a : Option Addr) (n c : Nat) (X : List SpanZ) (W : World) (h : SpArg W a n c X) (hn : n ≤ 40000) => rjoin_any a n c X W h.1 h.2 hn)
  have BE : Hid (bothS L M = joinS (pairS L M)) := Lib.hid rfl
  rw [BE.out]
  clear hr hs hA hB hn hm BE
  go_enter Tryz.func77, Tryz.ntmps77
  go_wp2_with fail
  go_loopg [5, 6] n (fun gk oV iV wr => ∃ (i : Nat) (O : List SpanZ), iV = .int .i64 (i : Int) ∧ i + gk = n ∧ O = pairS (L.take i) M ∧ O.length ≤ i * 100 ∧ SpOut w wr oV O)
  case atStart => exact ⟨0, [], rfl, by omega, rfl, Nat.zero_le _, SpOut.start w⟩
  case round =>
    obtain ⟨i, O, rfl, hi, hO, hol, ho⟩ := hrel
    have O5 := Lib.hid ho
    have OE := Lib.hid hO
    have OL := Lib.hid hol
    clear ho hO hol
    rcases gk with _ | g
    · have hie : i = n := by omega
      have t0 : decide ((i : Int) < (n : Int)) = false := decide_eq_false (by omega)
      have t1 : decide (i < n) = false := decide_eq_false (by omega)
      have PE : Hid (O = pairS L M) := Lib.hid (by rw [OE.out, List.take_of_length_le (by rw [HA.out]; omega)])
      have OL2 : Hid (O.length ≤ 40000) := Lib.hid (by have := OL.out; have := HN.out; omega)
      clear hie hi OE OL CR CC RA RB
      obtain ⟨aO, cO, rfl, hr5⟩ := O5.out.arg
      have R5 := Lib.hid hr5
      have B5 := Lib.hid O5.out.2.1
      clear hr5 O5
      go_wp2_with (go_at_call 43
                   refine (CJ.out _ _ _ _ _ R5.out OL2.out).mono ?_
                   rintro r w7 ⟨V7, rfl, ho7⟩
                   have O7 := Lib.hid (ho7.wider B5.out)
                   clear ho7 R5 B5)
      go_ret
      rw [PE.out] at O7
      exact ⟨_, rfl, O7.out⟩
    · have hlt : i < n := by omega
      obtain ⟨bA, oA, rfl, _⟩ := RA.out.form (by omega)
      have kl : i < L.length := by rw [HA.out]; omega
      have t0 : decide ((i : Int) < (n : Int)) = true := decide_eq_true (by omega)
      have t1 : decide (i < n) = true := decide_eq_true (by omega)
      have i0 : (0 : Int) ≤ (i : Int) := by omega
      have i1 : (i : Int) < (n : Int) := by omega
      have iI : IntKind.i64.wrap ((i : Int) + 1) = (i : Int) + 1 := IntWalk.i64_in _ (by have := HN.out; omega)
      have p6 := RA.out.2.1 _ (List.getElem_mem kl)
      have PX := Lib.hid p6
      have PT := Lib.hid (fun X => pair_take L X i kl)
      have PG := Lib.hid (fun W (h : Below w.heap.size w W) => (RA.out.below h).range i kl)
      have LP : Hid ((Tryz.prog.info? 62).map (·.size) = some (scL L[i]).length) := Lib.hid (by rw [scL_len p6, Tryz.sizeS p6, scells_size p6])
      have SP := Lib.hid (Tryz.sizeS p6)
      have CRP := Lib.hid (fun W => CR.out L[i] W p6)
      clear p6 RA
      generalize L[i] = p at *
      have EP : Hid ((scL p).toArray = scells p) := Lib.hid rfl
      have RT : Hid (pairS (L.take i) M ++ rowS p (M.take 0) = O) := Lib.hid (by rw [OE.out]; simp [row_zero])
      have OL0 : Hid (O.length ≤ i * 100 + 0) := Lib.hid (by have := OL.out; omega)
      clear OE OL
      go_upto_region 6 with fail
      go_loopg [5, 7] m (fun fk oV kV wx => ∃ (k : Nat) (O : List SpanZ), kV = .int .i64 (k : Int) ∧ k + fk = m ∧ pairS (L.take i) M ++ rowS p (M.take k) = O ∧ O.length ≤ i * 100 + k ∧ SpOut w wx oV O)
      case atStart => exact ⟨0, O, rfl, by omega, RT.out, OL0.out, O5.out⟩
      case round =>
        clear RT OL0 O5
        obtain ⟨k, O, rfl, hk, hO, hol, ho⟩ := hrel
        have O5 := Lib.hid ho
        have OE := Lib.hid hO
        have OL := Lib.hid hol
        clear ho hO hol
        rcases gk with _ | f
        · have t2 : decide ((k : Int) < (m : Int)) = false := decide_eq_false (by omega)
          have t3 : decide (k < m) = false := decide_eq_false (by omega)
          have PN : Hid (O = pairS (L.take (i + 1)) M) := Lib.hid (by rw [PT.out, ← OE.out, List.take_of_length_le (l := M) (by rw [HB.out]; omega)])
          have ON : Hid (O.length ≤ (i + 1) * 100) := Lib.hid (by have := OL.out; have := HM.out; omega)
          clear hk OE OL
          go_wp2_with fail
          go_roundg g
          case measure => omega
          case rel => exact ⟨i + 1, O, by go_num, by omega, PN.out, ON.out, O5.out⟩
        · have hlk : k < m := by omega
          obtain ⟨bB, oB, rfl, _⟩ := RB.out.form (by omega)
          have kk : k < M.length := by rw [HB.out]; exact hlk
          have t2 : decide ((k : Int) < (m : Int)) = true := decide_eq_true (by omega)
          have t3 : decide (k < m) = true := decide_eq_true (by omega)
          have k0 : (0 : Int) ≤ (k : Int) := by omega
          have k1 : (k : Int) < (m : Int) := by omega
          have kI : IntKind.i64.wrap ((k : Int) + 1) = (k : Int) + 1 := IntWalk.i64_in _ (by have := HM.out; omega)
          have q6 := RB.out.2.1 _ (List.getElem_mem kk)
          have QX := Lib.hid q6
          have W0 := Lib.hid O5.out.2.1
          have QG := Lib.hid (fun W (h : Below wr.heap.size wr W) => (RB.out.below (Below.step W0.out h)).range k kk)
          have QV := Lib.hid (fun W (h : Below wr.heap.size wr W) => (RB.out.below (Below.step W0.out h)).v k kk)
          have QLo := Lib.hid (fun W (h : Below wr.heap.size wr W) => (RB.out.below (Below.step W0.out h)).lo k kk)
          have QHi := Lib.hid (fun W (h : Below wr.heap.size wr W) => (RB.out.below (Below.step W0.out h)).hi k kk)
          have LQ : Hid ((Tryz.prog.info? 62).map (·.size) = some (scL M[k]).length) := Lib.hid (by rw [scL_len q6, Tryz.sizeS q6, scells_size q6])
          have CRQ : Hid (∀ W, Calls Tryz.prog 70 #[.agg (scL M[k]).toArray] W fun e w' => e = .returned (.bool (rightZ (M[k]).v (M[k]).lo (M[k]).hi)) ∧ Below W.heap.size W w') := Lib.hid (fun W => CR.out M[k] W q6)
          have RT := Lib.hid (row_take p M k kk)
          have PGA := Lib.hid (PG.out _ W0.out)
          have XB : Hid (SBlk (wr.alloc (.cells (scells p) 62)) wr.heap.size p) := Lib.hid (sbox wr p)
          have AZ : Hid (SBlk (wr.alloc (.cells (scells zeroS) 62)) wr.heap.size zeroS) := Lib.hid (sbox wr zeroS)
          have BB : Hid (Below wr.heap.size wr (wr.alloc (.cells (scells p) 62))) := Lib.hid (box_below _ _)
          have HK := Lib.hid hk
          clear q6 hk
          generalize M[k] = q at *
          go_upto_region 9 with (first
            | ((with_reducible refine load_span_at 23 bA (oA + i * 33) (scL p) ?_ PGA.out LP.out ?_); (· rfl); rw [EP.out])
            | (with_reducible refine alloc_span_at ?_)
            | ((with_reducible refine store_span_at 8 24 wr.heap.size zeroS p zeroS_six PX.out ?_ ?_ AZ.out ?_); (· rfl); (· rfl); rw [alloc_setRow]))
          clear AZ PGA
          obtain ⟨g8, hg8⟩ : ∃ g8, g8 = wr.heap.size := ⟨_, rfl⟩
          have G8 : Hid (wr.heap.size ≤ g8) := Lib.hid (by omega)
          rw [← hg8] at XB
          rw [← hg8]
          clear hg8
          generalize hw8 : wr.alloc (.cells (scells p) 62) = w8 at *
          clear hw8
          have X8 := XB
          have B8 := BB
          clear XB BB
          obtain ⟨pv, plo, phi⟩ := p
          obtain ⟨qv, qlo, qhi⟩ := q
          dsimp only at *
          generalize hFQ : (scL ⟨qv, qlo, qhi⟩).toArray = FQ at *
          have EQ := Lib.hid hFQ
          clear hFQ
          have ON := Lib.hid (fun h => (show pairS (L.take i) M ++ rowS ⟨pv, plo, phi⟩ (M.take (k + 1)) = O from by rw [RT.out, if_neg h, List.append_nil]; exact OE.out))
          have OY := Lib.hid (fun h => (show pairS (L.take i) M ++ rowS ⟨pv, plo, phi⟩ (M.take (k + 1)) = O ++ [cutS ⟨pv, plo, phi⟩ ⟨qv, qlo, qhi⟩] from by rw [RT.out, if_pos h, ← List.append_assoc, OE.out]))
          clear RT OE PT
          generalize rightZ pv plo phi = r1 at *
          generalize rightZ qv qlo qhi = r2 at *
          cases r1 with
          | false =>
            have RN := Lib.hid (ON.out (by simp))
            clear ON OY CC CRQ
            refine wp_region_ord Ext Ext.refl (fun _ _ _ => Ext.trans) ((0, false) :: (1, true) :: (2, false) :: (3, false) :: (4, false) :: (5, false) :: (6, false) :: (7, false) :: (8, true) :: (9, false) :: (10, false) :: (11, false) :: (12, false) :: (13, false) :: (14, false) :: (15, false) :: (16, false) :: (17, false) :: (18, false) :: (19, false) :: (20, false) :: []) (by kernel_rfl) (by kernel_rfl) rfl (by kernel_rfl) (fun _ _ _ _ _ h => h) ?_
            have X9 : Hid (SBlk w8.drew g8 ⟨pv, plo, phi⟩) := X8
            have B9 := Lib.hid B8.out.drew
            clear X8 B8
            have X8 := X9
            have B8 := B9
            clear X9 B9
            generalize w8.drew = w9 at *
            repeat (first
              | (refine ord_skip rfl (by rfl) ?_; simp only [Act.put, List.setIfInBounds_toArray, List.set_cons_zero, List.set_cons_succ])
              | (refine ord_take _ rfl (by rfl) (fun W hW => yields_row 62 (.tmp 8) rfl g8 62 (scells ⟨pv, plo, phi⟩) _ rfl (Blk.below X8.out hW X8.out.lt) Tryz.underlying62 rfl SP.out) ?_; simp only [Act.put, List.setIfInBounds_toArray, List.set_cons_zero, List.set_cons_succ])
              | (refine ord_take _ rfl (by rfl) (fun W hW => yields_bool (.tmp 37) rfl g8 0 _ rfl (SBlk.v (SBlk.below X8.out hW X8.out.lt))) ?_; simp only [Act.put, List.setIfInBounds_toArray, List.set_cons_zero, List.set_cons_succ])
              | (refine ord_take _ rfl (by rfl) (fun W hW => yields_bool (.tmp 42) rfl bB (oB + k * 33) _ rfl (QV.out W (Below.step B8.out hW))) ?_; simp only [Act.put, List.setIfInBounds_toArray, List.set_cons_zero, List.set_cons_succ])
              | (refine ord_take (.agg FQ) rfl (by rfl) (fun W hW => by rw [← EQ.out]; exact yields_part 62 (.tmp 31) rfl bB (oB + k * 33) (scL ⟨qv, qlo, qhi⟩) _ rfl (QG.out W (Below.step B8.out hW)) Tryz.underlying62 rfl LQ.out) ?_; simp only [Act.put, List.setIfInBounds_toArray, List.set_cons_zero, List.set_cons_succ])
              | (refine ord_take _ rfl (by rfl) (fun W hW => by go_simp; first | done | rfl) ?_; simp only [Act.put, List.setIfInBounds_toArray, List.set_cons_zero, List.set_cons_succ])
              | (refine ord_sole rfl (by rfl) (fun K1 hK1 => ?_)
                 go_simp
                 first
                   | refine (CRP.out _).mono ?_
                 rintro r w5 ⟨rfl, hb5⟩
                 refine hK1 _ _ hb5 ?_
                 clear hK1 K1
                 replace X8 := Lib.hid (X8.out.below hb5 X8.out.lt)
                 replace B8 := Lib.hid (Below.step B8.out hb5)
                 clear hb5))
            refine ord_end ?_
            go_wp2_with fail
            go_roundg f
            case measure => omega
            case rel => exact ⟨k + 1, O, by go_num, by have := HK.out; omega, RN.out, by have := OL.out; omega, O5.out.below B8.out⟩
          | true =>
          cases r2 with
          | false =>
            have RN := Lib.hid (ON.out (by simp))
            clear ON OY CC
            refine wp_region_ord Ext Ext.refl (fun _ _ _ => Ext.trans) ((0, false) :: (1, true) :: (2, false) :: (3, false) :: (4, false) :: (5, false) :: (6, false) :: (7, false) :: (8, true) :: (9, false) :: (10, false) :: (11, false) :: (12, false) :: (13, false) :: (14, false) :: (15, false) :: (16, false) :: (17, false) :: (18, false) :: (19, false) :: (20, false) :: []) (by kernel_rfl) (by kernel_rfl) rfl (by kernel_rfl) (fun _ _ _ _ _ h => h) ?_
            have X9 : Hid (SBlk w8.drew g8 ⟨pv, plo, phi⟩) := X8
            have B9 := Lib.hid B8.out.drew
            clear X8 B8
            have X8 := X9
            have B8 := B9
            clear X9 B9
            generalize w8.drew = w9 at *
            repeat (first
              | (refine ord_skip rfl (by rfl) ?_; simp only [Act.put, List.setIfInBounds_toArray, List.set_cons_zero, List.set_cons_succ])
              | (refine ord_take _ rfl (by rfl) (fun W hW => yields_row 62 (.tmp 8) rfl g8 62 (scells ⟨pv, plo, phi⟩) _ rfl (Blk.below X8.out hW X8.out.lt) Tryz.underlying62 rfl SP.out) ?_; simp only [Act.put, List.setIfInBounds_toArray, List.set_cons_zero, List.set_cons_succ])
              | (refine ord_take _ rfl (by rfl) (fun W hW => yields_bool (.tmp 37) rfl g8 0 _ rfl (SBlk.v (SBlk.below X8.out hW X8.out.lt))) ?_; simp only [Act.put, List.setIfInBounds_toArray, List.set_cons_zero, List.set_cons_succ])
              | (refine ord_take _ rfl (by rfl) (fun W hW => yields_bool (.tmp 42) rfl bB (oB + k * 33) _ rfl (QV.out W (Below.step B8.out hW))) ?_; simp only [Act.put, List.setIfInBounds_toArray, List.set_cons_zero, List.set_cons_succ])
              | (refine ord_take (.agg FQ) rfl (by rfl) (fun W hW => by rw [← EQ.out]; exact yields_part 62 (.tmp 31) rfl bB (oB + k * 33) (scL ⟨qv, qlo, qhi⟩) _ rfl (QG.out W (Below.step B8.out hW)) Tryz.underlying62 rfl LQ.out) ?_; simp only [Act.put, List.setIfInBounds_toArray, List.set_cons_zero, List.set_cons_succ])
              | (refine ord_take _ rfl (by rfl) (fun W hW => by go_simp; first | done | rfl) ?_; simp only [Act.put, List.setIfInBounds_toArray, List.set_cons_zero, List.set_cons_succ])
              | (refine ord_sole rfl (by rfl) (fun K1 hK1 => ?_)
                 go_simp
                 first
                   | (refine (CRP.out _).mono ?_; clear CRP)
                   | refine (CRQ.out _).mono ?_
                 rintro r w5 ⟨rfl, hb5⟩
                 refine hK1 _ _ hb5 ?_
                 clear hK1 K1
                 replace X8 := Lib.hid (X8.out.below hb5 X8.out.lt)
                 replace B8 := Lib.hid (Below.step B8.out hb5)
                 clear hb5))
            refine ord_end ?_
            go_wp2_with fail
            go_roundg f
            case measure => omega
            case rel => exact ⟨k + 1, O, by go_num, by have := HK.out; omega, RN.out, by have := OL.out; omega, O5.out.below B8.out⟩
          | true =>
          by_cases hv : pv = qv
          · subst hv
            have tv : (pv == pv) = true := beq_self_eq_true pv
            have RN := Lib.hid (OY.out (by rw [tv]; rfl))
            clear ON OY
            refine wp_region_ord Ext Ext.refl (fun _ _ _ => Ext.trans) ((0, false) :: (1, true) :: (2, false) :: (3, false) :: (4, false) :: (5, false) :: (6, false) :: (7, false) :: (8, true) :: (9, false) :: (10, false) :: (11, false) :: (12, false) :: (13, false) :: (14, false) :: (15, false) :: (16, false) :: (17, false) :: (18, false) :: (19, false) :: (20, false) :: []) (by kernel_rfl) (by kernel_rfl) rfl (by kernel_rfl) (fun _ _ _ _ _ h => h) ?_
            have X9 : Hid (SBlk w8.drew g8 ⟨pv, plo, phi⟩) := X8
            have B9 := Lib.hid B8.out.drew
            clear X8 B8
            have X8 := X9
            have B8 := B9
            clear X9 B9
            generalize w8.drew = w9 at *
            repeat (first
              | (refine ord_skip rfl (by rfl) ?_; simp only [Act.put, List.setIfInBounds_toArray, List.set_cons_zero, List.set_cons_succ])
              | (refine ord_take _ rfl (by rfl) (fun W hW => yields_row 62 (.tmp 8) rfl g8 62 (scells ⟨pv, plo, phi⟩) _ rfl (Blk.below X8.out hW X8.out.lt) Tryz.underlying62 rfl SP.out) ?_; simp only [Act.put, List.setIfInBounds_toArray, List.set_cons_zero, List.set_cons_succ])
              | (refine ord_take _ rfl (by rfl) (fun W hW => yields_bool (.tmp 37) rfl g8 0 _ rfl (SBlk.v (SBlk.below X8.out hW X8.out.lt))) ?_; simp only [Act.put, List.setIfInBounds_toArray, List.set_cons_zero, List.set_cons_succ])
              | (refine ord_take _ rfl (by rfl) (fun W hW => yields_bool (.tmp 42) rfl bB (oB + k * 33) _ rfl (QV.out W (Below.step B8.out hW))) ?_; simp only [Act.put, List.setIfInBounds_toArray, List.set_cons_zero, List.set_cons_succ])
              | (refine ord_take (.agg FQ) rfl (by rfl) (fun W hW => by rw [← EQ.out]; exact yields_part 62 (.tmp 31) rfl bB (oB + k * 33) (scL ⟨pv, qlo, qhi⟩) _ rfl (QG.out W (Below.step B8.out hW)) Tryz.underlying62 rfl LQ.out) ?_; simp only [Act.put, List.setIfInBounds_toArray, List.set_cons_zero, List.set_cons_succ])
              | (refine ord_take _ rfl (by rfl) (fun W hW => by go_simp; first | done | rfl) ?_; simp only [Act.put, List.setIfInBounds_toArray, List.set_cons_zero, List.set_cons_succ])
              | (refine ord_sole rfl (by rfl) (fun K1 hK1 => ?_)
                 go_simp
                 first
                   | (refine (CRP.out _).mono ?_; clear CRP)
                   | refine (CRQ.out _).mono ?_
                 rintro r w5 ⟨rfl, hb5⟩
                 refine hK1 _ _ hb5 ?_
                 clear hK1 K1
                 replace X8 := Lib.hid (X8.out.below hb5 X8.out.lt)
                 replace B8 := Lib.hid (Below.step B8.out hb5)
                 clear hb5))
            refine ord_end ?_
            clear CRQ tv
            have C1 := Lib.hid (fun W => CC.out qlo plo W QX.out.1 PX.out.1)
            have C2 := Lib.hid (fun W => CC.out qhi phi W QX.out.2 PX.out.2)
            have SPL := Lib.hid (Tryz.sizeA PX.out.1.1)
            have SPH := Lib.hid (Tryz.sizeA PX.out.2.1)
            have SQL := Lib.hid (Tryz.sizeA QX.out.1.1)
            have SQH := Lib.hid (Tryz.sizeA QX.out.2.1)
            have SQL2 : Hid ((Tryz.prog.info? 41).map (·.size) = some (acells qlo).toArray.size) := SQL
            have SQH2 : Hid ((Tryz.prog.info? 41).map (·.size) = some (acells qhi).toArray.size) := SQH
            have AQL := Lib.hid (bytes_one qlo)
            have AQH := Lib.hid (bytes_one qhi)
            have D1 : Hid (0 < cmpN (aN qlo) (aN plo) ↔ aN plo < aN qlo) := Lib.hid (by have := cmpN_gt (aN qlo) (aN plo); rw [decide_eq_decide] at this; exact this)
            have D2 : Hid (cmpN (aN qhi) (aN phi) < 0 ↔ aN qhi < aN phi) := Lib.hid (by have := cmpN_lt (aN qhi) (aN phi); rw [decide_eq_decide] at this; exact this)
            have CU : Hid (cutS ⟨pv, plo, phi⟩ ⟨pv, qlo, qhi⟩ = ⟨pv, if 0 < cmpN (aN qlo) (aN plo) then qlo else plo, if cmpN (aN qhi) (aN phi) < 0 then qhi else phi⟩) := Lib.hid (by
              unfold cutS
              simp only [D1.out, D2.out])
            clear CC D1 D2
            generalize cmpN (aN qlo) (aN plo) = d1 at *
            generalize cmpN (aN qhi) (aN phi) = d2 at *
            obtain ⟨nlo, hnlo⟩ : ∃ nlo, (if 0 < d1 then qlo else plo) = nlo := ⟨_, rfl⟩
            obtain ⟨nhi, hnhi⟩ : ∃ nhi, (if d2 < 0 then qhi else phi) = nhi := ⟨_, rfl⟩
            have NL := Lib.hid hnlo
            have NH := Lib.hid hnhi
            have N6 : Hid (Sixteen nlo ∧ Sixteen nhi) := Lib.hid (by
              rw [← hnlo, ← hnhi]
              refine ⟨?_, ?_⟩ <;> split
              · exact QX.out.1
              · exact PX.out.1
              · exact QX.out.2
              · exact PX.out.2)
            rw [hnlo, hnhi] at CU
            clear hnlo hnhi
            go_upto_region 10 with fail
            refine wp_region_ord Ext Ext.refl (fun _ _ _ => Ext.trans) ((0, false) :: (1, false) :: (2, false) :: (3, false) :: (4, false) :: (5, false) :: (6, false) :: (7, true) :: (8, false) :: []) (by kernel_rfl) (by kernel_rfl) rfl (by kernel_rfl) (fun _ _ _ _ _ h => h) ?_
            have X9 : Hid (SBlk w5.drew g8 ⟨pv, plo, phi⟩) := X8
            have B9 := Lib.hid B8.out.drew
            clear X8 B8
            have X8 := X9
            have B8 := B9
            clear X9 B9
            generalize w5.drew = w9 at *
            repeat (first
              | (refine ord_skip rfl (by rfl) ?_; simp only [Act.put, List.setIfInBounds_toArray, List.set_cons_zero, List.set_cons_succ])
              | (refine ord_take _ rfl (by rfl) (fun W hW => yields_part 41 (.tmp 49) rfl bB (oB + k * 33 + 1) (acells qlo) _ rfl (QLo.out W (Below.step B8.out hW)) Tryz.underlying41 rfl SQL.out) ?_; simp only [Act.put, List.setIfInBounds_toArray, List.set_cons_zero, List.set_cons_succ])
              | (refine ord_take _ rfl (by rfl) (fun W hW => yields_part 41 (.tmp 51) rfl g8 1 (acells plo) _ rfl (SBlk.lo (SBlk.below X8.out hW X8.out.lt) PX.out) Tryz.underlying41 rfl SPL.out) ?_; simp only [Act.put, List.setIfInBounds_toArray, List.set_cons_zero, List.set_cons_succ])
              | (refine ord_take _ rfl (by rfl) (fun W hW => by go_simp; first | done | rfl) ?_; simp only [Act.put, List.setIfInBounds_toArray, List.set_cons_zero, List.set_cons_succ])
              | (refine ord_sole rfl (by rfl) (fun K1 hK1 => ?_)
                 go_simp
                 first
                   | refine (C1.out _).mono ?_
                 rintro r w5 ⟨rfl, hb5⟩
                 refine hK1 _ _ hb5 ?_
                 clear hK1 K1
                 replace X8 := Lib.hid (X8.out.below hb5 X8.out.lt)
                 replace B8 := Lib.hid (Below.step B8.out hb5)
                 clear hb5))
            refine ord_end ?_
            go_upto_if 54 with fail
            go_cut [] from 15 to 79 (fun wx => SBlk wx g8 ⟨pv, nlo, phi⟩ ∧ Below wr.heap.size wr wx)
            case first =>
              by_cases hd : 0 < d1
              · have td : decide (0 < d1) = true := decide_eq_true hd
                have e : qlo = nlo := by
                  have := NL.out
                  rwa [if_pos hd] at this
                have E := Lib.hid e
                clear e
                have QA := Lib.hid (QLo.out _ B8.out)
                have TH := Lib.hid (SBlk.thereLo X8.out PX.out)
                have TH2 : Hid (w5.there g8 1 (acells qlo).toArray.size) := Lib.hid (by rw [show (acells qlo).toArray.size = 16 from acells_len (by have := SQL2; first | exact QX.out.1.1 | exact QX.out.2.1)]; exact TH.out)
                clear TH
                go_wp2_with (first
                  | ((with_reducible refine load_bytes_at 58 bB (oB + k * 33 + 1) (acells qlo) ?_ QA.out SQL.out ?_); (· rfl))
                  | ((with_reducible refine store_bytes_at 60 59 g8 1 (acells qlo).toArray ?_ ?_ TH2.out SQL2.out AQL.out ?_); (· rfl); (· rfl)))
                go_meet
                exact ⟨by rw [← E.out]; exact SBlk.wholeLo PX.out QX.out.1.1 X8.out, below_setCells G8.out _ _ _ B8.out⟩
              · have td : decide (0 < d1) = false := decide_eq_false hd
                have e : plo = nlo := by
                  have := NL.out
                  rwa [if_neg hd] at this
                have E := Lib.hid e
                clear e
                go_wp2_with fail
                go_meet
                exact ⟨by rw [← E.out]; exact X8.out, B8.out⟩
            case rest =>
              obtain ⟨hx, hb⟩ := hcut
              have S7 : Hid (SixS ⟨pv, nlo, phi⟩) := Lib.hid ⟨N6.out.1, PX.out.2⟩
              have X8 := Lib.hid hx
              have B8 := Lib.hid hb
              clear hx hb C1
              go_upto_region 12 with fail
              refine wp_region_ord Ext Ext.refl (fun _ _ _ => Ext.trans) ((0, false) :: (1, false) :: (2, false) :: (3, false) :: (4, false) :: (5, false) :: (6, false) :: (7, true) :: (8, false) :: []) (by kernel_rfl) (by kernel_rfl) rfl (by kernel_rfl) (fun _ _ _ _ _ h => h) ?_
              have X9 : Hid (SBlk wc.drew g8 ⟨pv, nlo, phi⟩) := X8
              have B9 := Lib.hid B8.out.drew
              clear X8 B8
              have X8 := X9
              have B8 := B9
              clear X9 B9
              generalize wc.drew = w9 at *
              repeat (first
                | (refine ord_skip rfl (by rfl) ?_; simp only [Act.put, List.setIfInBounds_toArray, List.set_cons_zero, List.set_cons_succ])
                | (refine ord_take _ rfl (by rfl) (fun W hW => yields_part 41 (.tmp 64) rfl bB (oB + k * 33 + 17) (acells qhi) _ rfl (QHi.out W (Below.step B8.out hW)) Tryz.underlying41 rfl SQH.out) ?_; simp only [Act.put, List.setIfInBounds_toArray, List.set_cons_zero, List.set_cons_succ])
                | (refine ord_take _ rfl (by rfl) (fun W hW => yields_part 41 (.tmp 66) rfl g8 17 (acells phi) _ rfl (SBlk.hi (SBlk.below X8.out hW X8.out.lt) S7.out) Tryz.underlying41 rfl SPH.out) ?_; simp only [Act.put, List.setIfInBounds_toArray, List.set_cons_zero, List.set_cons_succ])
                | (refine ord_take _ rfl (by rfl) (fun W hW => by go_simp; first | done | rfl) ?_; simp only [Act.put, List.setIfInBounds_toArray, List.set_cons_zero, List.set_cons_succ])
                | (refine ord_sole rfl (by rfl) (fun K1 hK1 => ?_)
                   go_simp
                   first
                     | refine (C2.out _).mono ?_
                   rintro r w5 ⟨rfl, hb5⟩
                   refine hK1 _ _ hb5 ?_
                   clear hK1 K1
                   replace X8 := Lib.hid (X8.out.below hb5 X8.out.lt)
                   replace B8 := Lib.hid (Below.step B8.out hb5)
                   clear hb5))
              refine ord_end ?_
              go_upto_if 69 with fail
              go_cut [] from 15 to 79 (fun wx => SBlk wx g8 ⟨pv, nlo, nhi⟩ ∧ Below wr.heap.size wr wx)
              case first =>
                by_cases hd : d2 < 0
                · have td : decide (d2 < 0) = true := decide_eq_true hd
                  have e : qhi = nhi := by
                    have := NH.out
                    rwa [if_pos hd] at this
                  have E := Lib.hid e
                  clear e
                  have QA := Lib.hid (QHi.out _ B8.out)
                  have TH := Lib.hid (SBlk.thereHi X8.out S7.out)
                  have TH2 : Hid (w5.there g8 17 (acells qhi).toArray.size) := Lib.hid (by rw [show (acells qhi).toArray.size = 16 from acells_len (by have := SQH2; first | exact QX.out.1.1 | exact QX.out.2.1)]; exact TH.out)
                  clear TH
                  go_wp2_with (first
                    | ((with_reducible refine load_bytes_at 73 bB (oB + k * 33 + 17) (acells qhi) ?_ QA.out SQH.out ?_); (· rfl))
                    | ((with_reducible refine store_bytes_at 75 74 g8 17 (acells qhi).toArray ?_ ?_ TH2.out SQH2.out AQH.out ?_); (· rfl); (· rfl)))
                  go_meet
                  exact ⟨by rw [← E.out]; exact SBlk.wholeHi S7.out QX.out.2.1 X8.out, below_setCells G8.out _ _ _ B8.out⟩
                · have td : decide (d2 < 0) = false := decide_eq_false hd
                  have e : phi = nhi := by
                    have := NH.out
                    rwa [if_neg hd] at this
                  have E := Lib.hid e
                  clear e
                  go_wp2_with fail
                  go_meet
                  exact ⟨by rw [← E.out]; exact X8.out, B8.out⟩
              case rest =>
                obtain ⟨hx, hb⟩ := hcut
                have n7 : SixS ⟨pv, nlo, nhi⟩ := ⟨N6.out.1, N6.out.2⟩
                have N7 := Lib.hid n7
                have SN := Lib.hid (Tryz.sizeS n7)
                have BN := Lib.hid (built_one _ n7)
                have X8 : Hid (Blk wc g8 62 (scells ⟨pv, nlo, nhi⟩)) := Lib.hid hx
                have OX := Lib.hid (O5.out.below hb)
                clear hx hb C2 n7
                have LM : Hid (O.length + 1 ≤ 100000) := Lib.hid (by have := OL.out; have := HM.out; have := HN.out; omega)
                go_wp2_with (first
                  | ((with_reducible refine load_whole_at 8 g8 (scells ⟨pv, nlo, nhi⟩) ?_ X8.out SN.out ?_); (· rfl))
                  | ((with_reducible refine build_span_at 77 (scells ⟨pv, nlo, nhi⟩) ?_ BN.out ?_); (· rfl))
                  | (at_builtin; go_must (refine sp_append (W0 := w) (L := O) (zs := [⟨pv, nlo, nhi⟩]) rfl _ _ rfl rfl (OX.out.alloc _) rfl (sp_one wc N7.out) (fun e => by cases e) LM.out ?_; intro V9 w9 ho9; have O9 := Lib.hid ho9; clear ho9)))
                go_roundg f
                case measure => omega
                case rel => exact ⟨k + 1, O ++ [⟨pv, nlo, nhi⟩], by go_num, by have := HK.out; omega, by rw [RN.out, CU.out], by rw [List.length_append]; have := OL.out; show _ + 1 ≤ _; omega, O9.out⟩
          · have tv : (pv == qv) = false := by simpa using hv
            have RN := Lib.hid (ON.out (by rw [tv]; simp))
            clear ON OY CC hv
            refine wp_region_ord Ext Ext.refl (fun _ _ _ => Ext.trans) ((0, false) :: (1, true) :: (2, false) :: (3, false) :: (4, false) :: (5, false) :: (6, false) :: (7, false) :: (8, true) :: (9, false) :: (10, false) :: (11, false) :: (12, false) :: (13, false) :: (14, false) :: (15, false) :: (16, false) :: (17, false) :: (18, false) :: (19, false) :: (20, false) :: []) (by kernel_rfl) (by kernel_rfl) rfl (by kernel_rfl) (fun _ _ _ _ _ h => h) ?_
            have X9 : Hid (SBlk w8.drew g8 ⟨pv, plo, phi⟩) := X8
            have B9 := Lib.hid B8.out.drew
            clear X8 B8
            have X8 := X9
            have B8 := B9
            clear X9 B9
            generalize w8.drew = w9 at *
            repeat (first
              | (refine ord_skip rfl (by rfl) ?_; simp only [Act.put, List.setIfInBounds_toArray, List.set_cons_zero, List.set_cons_succ])
              | (refine ord_take _ rfl (by rfl) (fun W hW => yields_row 62 (.tmp 8) rfl g8 62 (scells ⟨pv, plo, phi⟩) _ rfl (Blk.below X8.out hW X8.out.lt) Tryz.underlying62 rfl SP.out) ?_; simp only [Act.put, List.setIfInBounds_toArray, List.set_cons_zero, List.set_cons_succ])
              | (refine ord_take _ rfl (by rfl) (fun W hW => yields_bool (.tmp 37) rfl g8 0 _ rfl (SBlk.v (SBlk.below X8.out hW X8.out.lt))) ?_; simp only [Act.put, List.setIfInBounds_toArray, List.set_cons_zero, List.set_cons_succ])
              | (refine ord_take _ rfl (by rfl) (fun W hW => yields_bool (.tmp 42) rfl bB (oB + k * 33) _ rfl (QV.out W (Below.step B8.out hW))) ?_; simp only [Act.put, List.setIfInBounds_toArray, List.set_cons_zero, List.set_cons_succ])
              | (refine ord_take (.agg FQ) rfl (by rfl) (fun W hW => by rw [← EQ.out]; exact yields_part 62 (.tmp 31) rfl bB (oB + k * 33) (scL ⟨qv, qlo, qhi⟩) _ rfl (QG.out W (Below.step B8.out hW)) Tryz.underlying62 rfl LQ.out) ?_; simp only [Act.put, List.setIfInBounds_toArray, List.set_cons_zero, List.set_cons_succ])
              | (refine ord_take _ rfl (by rfl) (fun W hW => by go_simp; first | done | rfl) ?_; simp only [Act.put, List.setIfInBounds_toArray, List.set_cons_zero, List.set_cons_succ])
              | (refine ord_sole rfl (by rfl) (fun K1 hK1 => ?_)
                 go_simp
                 first
                   | (refine (CRP.out _).mono ?_; clear CRP)
                   | refine (CRQ.out _).mono ?_
                 rintro r w5 ⟨rfl, hb5⟩
                 refine hK1 _ _ hb5 ?_
                 clear hK1 K1
                 replace X8 := Lib.hid (X8.out.below hb5 X8.out.lt)
                 replace B8 := Lib.hid (Below.step B8.out hb5)
                 clear hb5))
            refine ord_end ?_
            go_wp2_with fail
            go_roundg f
            case measure => omega
            case rel => exact ⟨k + 1, O, by go_num, by have := HK.out; omega, RN.out, by have := OL.out; omega, O5.out.below B8.out⟩
end Go.Proofs.YtlmndmfebgaidaaGreatDoor
namespace Go.Proofs.YtlmndmfebgaidaaGreatDoor
open Go.RowKit
set_option linter.unusedVariables false
set_option maxHeartbeats 1000000 in
set_option maxRecDepth 100000 in
theorem rwithin_any (a b : Option Addr) (n m c d : Nat) (L M : List SpanZ) (w : World) (ha : SpArg w a n c L) (hn : n ≤ 100) (hb : SpArg w b m d M) (hm : m ≤ 100) :
    Calls Tryz.prog 48 #[.slice a n c, .slice b m d] w fun e w' => e = .returned (.bool (inS L M)) ∧ Below w.heap.size w w' := by
  have CB := Lib.hid (rboth_any a b n c m d L M w ha.1 ha.2 hn hb.1 hb.2 hm)
  have CJ := Lib.hid (fun W (h : SpArg W a n c L) => rjoin_any a n c L W h.1 h.2 (by omega))
  have CS := Lib.hid (fun (a b : Option Addr) (n m ca cb : Nat) (X Y : List SpanZ) (W : World) (h : SpArg W a n ca X) (hn : n ≤ 90000) (g : SpArg W b m cb Y) (hm : m ≤ 90000) => sameS_any a b n ca m cb X Y W h.1 hn g.1 hm)
  have LB : Hid ((bothS L M).length ≤ 90000) := Lib.hid (by have := both_len ha.spans hb.spans; have := ha.1.1; have := hb.1.1; omega)
  have LJ : Hid ((joinS L).length ≤ 90000) := Lib.hid (by have := joinS_len L; have := ha.1.1; omega)
  have EI : Hid (inS L M = eqLS (bothS L M) (joinS L)) := Lib.hid (eqLS_turned _ _)
  have RA := Lib.hid ha
  rw [EI.out]
  clear ha hb EI
  generalize bothS L M = B at *
  generalize joinS L = J at *
  go_enter Tryz.func48, Tryz.ntmps48
  go_wp2_with (first
    | (go_at_call 77
       refine CB.out.mono ?_
       rintro r w1 ⟨V1, rfl, ho1⟩
       obtain ⟨a1, c1, rfl, hr1⟩ := ho1.arg
       have R1 := Lib.hid hr1
       have RA1 := Lib.hid (RA.out.below ho1.2.1)
       have B1 := Lib.hid ho1.2.1
       clear ho1 hr1 CB RA)
    | (go_at_call 43
       refine (CJ.out _ RA1.out).mono ?_
       rintro r w2 ⟨V2, rfl, ho2⟩
       obtain ⟨a2, c2, rfl, hr2⟩ := ho2.arg
       have R2 := Lib.hid hr2
       have R3 := Lib.hid (R1.out.below ho2.2.1)
       have B2 := Lib.hid (Below.step B1.out ho2.2.1)
       clear ho2 hr2 CJ RA1 R1 B1)
    | (go_at_call 37
       refine (CS.out _ _ _ _ _ _ _ _ _ R3.out LB.out R2.out LJ.out).mono ?_
       rintro r w3 ⟨rfl, hb3⟩
       have B3 := Lib.hid (Below.step B2.out hb3)
       clear hb3 B2))
  go_ret
  exact ⟨rfl, B3.out⟩
end Go.Proofs.YtlmndmfebgaidaaGreatDoor
namespace Go.Proofs.YtlmndmfebgaidaaGreatDoor
open Go.RowKit
set_option linter.unusedVariables false
theorem yields_u32 {o : Oper} {a : Act} {W : World} (x : Operand) (ho : o.op = .load 52 x) (g off : Nat) (v : Value) (hx : a.eval x = .pointer (some ⟨g, off, none⟩)) (hc : W.cell? ⟨g, off, none⟩ = some v) : (execOp a.eval o).run Tryz.prog W = .ok (.value v) W := by
  have u3 : Tryz.prog.underlying 52 = some (.int .u32) := Tryz.underlying52
  unfold execOp
  simp only [ho, hx]
  go_simp
theorem load_range_at {ops : Array Oper} {rest : List Oper} {a : Act} {w : World} {Q : Exit → Act → World → Prop} {dst : Option Tmp} {t' : TypeId} {pos : String} {aft : Array Edge} (k : Nat) (b o : Nat) (s : Nat × Nat) (hx : a.eval (.tmp k) = .pointer (some ⟨b, o, none⟩)) (hc : w.rangeAt b o (rcL s))
    (h : wpList Tryz.prog ops Q rest (a.put dst (.agg (rcells s))) w) :
    wpList Tryz.prog ops Q ({ dst := dst, op := .load 54 (.tmp k), type := t', pos := pos, after := aft, guard := none } :: rest) a w :=
  wpList_load_mid rfl 54 (.tmp k) rfl b o hx (rcL s) _ hc Tryz.underlying54 rfl (by kernel_rfl) h
theorem build_range_at {ops : Array Oper} {rest : List Oper} {a : Act} {w : World} {Q : Exit → Act → World → Prop} {dst : Option Tmp} {t' : TypeId} {pos : String} {aft : Array Edge} (k j : Nat) (s : Nat × Nat) (hx : a.eval (.tmp k) = .int .u32 (s.1 : Int)) (hy : a.eval (.tmp j) = .int .u32 (s.2 : Int))
    (h : wpList Tryz.prog ops Q rest (a.put dst (.agg (rcells s))) w) :
    wpList Tryz.prog ops Q ({ dst := dst, op := .build 54 #[(0, .tmp k), (1, .tmp j)], type := t', pos := pos, after := aft, guard := none } :: rest) a w := by
  refine wpList_buildTo rfl 54 _ rfl dst rfl (rcells s) ?_ h
  simp only [List.map_toArray, List.map_cons, List.map_nil, hx, hy]
  exact rbuilt _ _
theorem slice_range_at {ops : Array Oper} {rest : List Oper} {a : Act} {w : World} {Q : Exit → Act → World → Prop} {dst : Option Tmp} {t' : TypeId} {pos : String} {aft : Array Edge} (k : Nat) (s : Nat × Nat) (hx : a.eval (.tmp k) = .agg (rcells s))
    (h : wpList Tryz.prog ops Q rest (a.put dst (.slice (some ⟨w.heap.size, 0, none⟩) 1 1)) (w.alloc (.cells (rcells s) 54))) :
    wpList Tryz.prog ops Q ({ dst := dst, op := .buildSlice 23 1 #[(0, .tmp k)], type := t', pos := pos, after := aft, guard := none } :: rest) a w := by
  refine Great.wpList_buildSliceTo rfl 23 54 1 _ rfl w.heap.size rfl dst rfl Tryz.underlying23 (rcells s) ?_ h
  simp only [List.map_toArray, List.map_cons, List.map_nil, hx]
  exact rbuilt_one s
end Go.Proofs.YtlmndmfebgaidaaGreatDoor
namespace Go.Proofs.YtlmndmfebgaidaaGreatDoor
open Go.RowKit
set_option linter.unusedVariables false
theorem u64_same {x : Nat} (h : x < 18446744073709551616) : IntKind.u64.wrap (x : Int) = (x : Int) := by
  simp [IntKind.wrap, IntKind.bits, IntKind.signed]
  omega
theorem u32_same {x : Nat} (h : x < 4294967296) : IntKind.u32.wrap (x : Int) = (x : Int) := by
  simp [IntKind.wrap, IntKind.bits, IntKind.signed]
  omega
def PassAt (L : List (Nat × Nat)) (h0 hi i : Nat) (more : Bool) (top : Nat) : Prop := h0 ≤ hi ∧ hi ≤ top ∧ (more = true → h0 < hi) ∧ (more = false → hi = h0 ∧ ∀ q ∈ L.take i, q.1 ≤ q.2 → q.1 ≤ h0 + 1 → ¬ h0 < q.2)
theorem pass_start (L : List (Nat × Nat)) {h0 top : Nat} (h : h0 ≤ top) : PassAt L h0 h0 0 false top := ⟨Nat.le_refl _, h, fun e => (by cases e), fun _ => ⟨rfl, fun q hq => by simp at hq⟩⟩
theorem pass_no {L : List (Nat × Nat)} {h0 hi i top : Nat} {more : Bool} (h : PassAt L h0 hi i more top) (hl : i < L.length) (hn : ¬ ((L[i]).1 ≤ (L[i]).2 ∧ (L[i]).1 ≤ hi + 1 ∧ hi < (L[i]).2)) : PassAt L h0 hi (i + 1) more top := by
  refine ⟨h.1, h.2.1, h.2.2.1, fun e => ?_⟩
  obtain ⟨e1, e2⟩ := h.2.2.2 e
  subst e1
  refine ⟨rfl, fun q hq k1 k2 k3 => ?_⟩
  rw [List.take_succ_eq_append_getElem hl] at hq
  rcases List.mem_append.1 hq with hq | hq
  · exact e2 q hq k1 k2 k3
  · rw [List.mem_singleton.1 hq] at k1 k2 k3
    exact hn ⟨k1, k2, k3⟩
theorem pass_yes {L : List (Nat × Nat)} {h0 hi i top : Nat} {more : Bool} (h : PassAt L h0 hi i more top) {x : Nat} (h1 : hi < x) (h2 : x ≤ top) : PassAt L h0 x (i + 1) true top :=
  ⟨Nat.le_trans h.1 (by omega), h2, fun _ => Nat.lt_of_le_of_lt h.1 h1, fun e => by cases e⟩
set_option maxHeartbeats 4000000 in
set_option maxRecDepth 100000 in
theorem rjoinR_any (a : Option Addr) (n c : Nat) (L : List (Nat × Nat)) (w : World) (hr : RgArg w a n c L) (hn : n ≤ 10000) :
    Calls Tryz.prog 44 #[.slice a n c] w (GivesRg (joinZ L) w) := by
  have RL := Lib.hid hr.1
  have HL := Lib.hid hr.1.1
  have HN := Lib.hid hn
  have HU := Lib.hid hr.under
  have R0 := Lib.hid (rest_start L)
  have JL := Lib.hid (join_len' L)
  have JE := Lib.hid (fun s0 D (h : RestAt L s0 D []) => rest_none h)
  have JZ := Lib.hid (fun s0 D r (h : RestAt L s0 D r) => (show joinZ L = D ++ r from h.1))
  clear hr hn
  generalize joinZ L = J at *
  go_enter Tryz.func44, Tryz.ntmps44
  go_wp2_with fail
  go_loopg [3, 4] J.length (fun gk oV sV wr => ∃ (s0 : Nat) (D r : List (Nat × Nat)), sV = .int .u64 (s0 : Int) ∧ s0 ≤ 4294967296 ∧ RestAt L s0 D r ∧ r.length = gk ∧ RgOut w wr oV D)
  case atStart => exact ⟨0, [], J, rfl, by omega, R0.out, rfl, RgOut.start w⟩
  case round =>
    obtain ⟨s0, D, r, rfl, hs0, hrest, hrl, ho⟩ := hrel
    subst hrl
    have A5 := Lib.hid hrest
    have O5 := Lib.hid ho
    have S5 := Lib.hid hs0
    have DL : Hid (D.length + r.length ≤ 10000) := Lib.hid (by have := congrArg List.length (JZ.out _ _ _ hrest); rw [List.length_append] at this; have := JL.out; have := HL.out; have := HN.out; omega)
    clear hrest ho R0 hs0
    obtain ⟨aO, cO, hV, _, _⟩ := O5.out.row
    subst hV
    obtain ⟨dl, hdl⟩ : ∃ dl, D.length = dl := ⟨_, rfl⟩
    rw [hdl] at O5 DL
    rw [hdl]
    have HD := Lib.hid hdl
    clear hdl
    obtain ⟨v, hv⟩ : ∃ v, leastL s0 4294967296 (L.drop 0) = v := ⟨_, rfl⟩
    have LV := Lib.hid hv
    have LV2 : Hid (leastL s0 4294967296 L = v) := Lib.hid hv
    clear hv
    go_upto_region 5 with fail
    go_loopg [5, 6] n (fun fk mV iV wx => ∃ (i m0 : Nat), iV = .int .i64 (i : Int) ∧ mV = .int .u64 (m0 : Int) ∧ i + fk = n ∧ m0 ≤ 4294967296 ∧ leastL s0 m0 (L.drop i) = v ∧ RgOut w wx (.slice aO dl cO) D)
    case atStart => exact ⟨0, 4294967296, rfl, rfl, by omega, Nat.le_refl _, LV.out, O5.out⟩
    case round =>
      obtain ⟨i, m0, rfl, rfl, hi, hm0, hlv, ho⟩ := hrel
      have OY := Lib.hid ho
      have LE := Lib.hid hlv
      have M5 := Lib.hid hm0
      clear ho hlv hm0 LV O5
      rcases gk with _ | f
      · have t0 : decide ((i : Int) < (n : Int)) = false := decide_eq_false (by omega)
        have t0' : decide (i < n) = false := decide_eq_false (by omega)
        have ev : m0 = v := by
          have := LE.out
          rwa [List.drop_of_length_le (by rw [HL.out]; omega)] at this
        subst ev
        clear LE hi
        rcases r with _ | ⟨p, r⟩
        · have e : m0 = 4294967296 := by rw [← LV2.out]; exact rest_end HU.out A5.out
          subst e
          have ED := Lib.hid (JE.out _ _ A5.out)
          clear A5 LV2 JE
          go_wp2_with fail
          go_ret
          have O9 := OY.out
          rw [ED.out] at O9
          exact ⟨_, rfl, O9⟩
        · obtain ⟨e, b1, b2, hv, hs⟩ := rest_head HU.out A5.out
          rw [LV2.out] at e
          subst e
          have V1 := Lib.hid b1
          have V2 := Lib.hid b2
          have V3 := Lib.hid hv
          have ne : ((p.1 : Int) == 4294967296) = false := by
            rw [beq_eq_false_iff_ne]
            omega
          have ne' : (p.1 == 4294967296) = false := by
            rw [beq_eq_false_iff_ne]
            omega
          clear LV2 M5 hs
          go_upto_region 13 with fail
          clear ne ne' b1 b2 hv
          go_loopg [7, 8] (p.2 + 1 - p.1) (fun fk hV bV wx => ∃ (hi : Nat) (more : Bool), hV = .int .u64 (hi : Int) ∧ bV = .bool more ∧ p.1 ≤ hi ∧ hi ≤ p.2 ∧ (more = true → p.2 + 1 ≤ hi + fk) ∧ (more = false → hi = p.2) ∧ RgOut w wx (.slice aO dl cO) D)
          case atStart => exact ⟨p.1, true, rfl, rfl, Nat.le_refl _, V3.out, fun _ => by omega, fun e => (by cases e), OY.out⟩
          case round =>
            obtain ⟨hi, more, rfl, rfl, hl, hh, hm1, hm2, ho⟩ := hrel
            have OZ := Lib.hid ho
            have K1 := Lib.hid hl
            have K2 := Lib.hid hh
            have KM := Lib.hid hm1
            have KE := Lib.hid hm2
            clear ho hl hh hm1 hm2 OY
            cases more with
            | false =>
              obtain rfl : hi = p.2 := KE.out rfl
              have AN := Lib.hid (rest_next A5.out)
              have OKP : Hid (OkR p) := Lib.hid ⟨V1.out, V2.out⟩
              have LM : Hid (D.length + 1 ≤ 100000) := Lib.hid (by rw [HD.out]; have := DL.out; omega)
              have V4 : Hid (p.2 + 1 ≤ 4294967296) := Lib.hid (by have := V2.out; omega)
              have w1 : IntKind.u32.wrap (p.1 : Int) = (p.1 : Int) := u32_same V1.out
              have w2 : IntKind.u32.wrap (p.2 : Int) = (p.2 : Int) := u32_same V2.out
              have w3 : IntKind.u64.wrap ((p.2 : Int) + 1) = (p.2 : Int) + 1 := by have := u64_same (x := p.2 + 1) (by have := V2.out; omega); rwa [Int.natCast_add] at this
              clear A5 KM KE K1 K2 V1 V2 V3
              go_wp2_with (first
                | ((with_reducible refine build_range_at 98 100 p ?_ ?_ ?_); (· rfl); (· rfl))
                | ((with_reducible refine slice_range_at 101 p ?_ ?_); (· rfl))
                | (at_builtin; go_must (refine rg_append (W0 := w) (L := D) (zs := [p]) rfl _ _ rfl rfl (OZ.out.below (boxR_below _ _)) rfl (rg_one wr OKP.out) (fun e => by cases e) LM.out ?_; intro V8 w8 ho8; have O8 := Lib.hid ho8; clear ho8)))
              go_roundg r.length
              case measure => simp only [List.length_cons]; omega
              case rel => exact ⟨p.2 + 1, D ++ [p], r, by go_num, V4.out, AN.out, rfl, O8.out⟩
            | true =>
              rcases gk with _ | f
              · exfalso
                have := KM.out rfl
                have := K2.out
                omega
              · have RG := Lib.hid (fun (hi : Nat) (q : Nat × Nat) (h1 : p.1 ≤ hi) (h2 : hi ≤ p.2) (hq : q ∈ L) (k1 : q.1 ≤ hi + 1) (k2 : hi < q.2) => rest_grow A5.out h1 h2 hq k1 k2)
                have RS := Lib.hid (fun (hn : ∀ q ∈ L, q.1 ≤ q.2 → q.1 ≤ hi + 1 → ¬ hi < q.2) => rest_stop A5.out K1.out K2.out hn)
                have PS := Lib.hid (pass_start L K2.out)
                clear KE
                go_upto_region 16 with fail
                go_loopg [7, 8, 9] n (fun ek hV bV iV wy => ∃ (i hi' : Nat) (more' : Bool), hV = .int .u64 (hi' : Int) ∧ bV = .bool more' ∧ iV = .int .i64 (i : Int) ∧ i + ek = n ∧ PassAt L hi hi' i more' p.2 ∧ RgOut w wy (.slice aO dl cO) D)
                case atStart => exact ⟨0, hi, false, rfl, rfl, rfl, by omega, PS.out, OZ.out⟩
                case round =>
                  obtain ⟨i, hi', more', rfl, rfl, rfl, hi0, hp, ho⟩ := hrel
                  have P7 := Lib.hid hp
                  have OY := Lib.hid ho
                  clear hp ho OZ
                  rcases gk with _ | e
                  · have t0 : decide ((i : Int) < (n : Int)) = false := decide_eq_false (by omega)
                    have t0' : decide (i < n) = false := decide_eq_false (by omega)
                    have hn2 : p.1 ≤ hi' := Nat.le_trans K1.out P7.out.1
                    have hn3 := P7.out.2.1
                    have Q1 : Hid (more' = true → p.2 + 1 ≤ hi' + f) := Lib.hid (fun e => by have := P7.out.2.2.1 e; have := KM.out (by trivial); omega)
                    have Q2 : Hid (more' = false → hi' = p.2) := Lib.hid (fun e => by
                      obtain ⟨e1, e2⟩ := P7.out.2.2.2 e
                      subst e1
                      rw [List.take_of_length_le (by rw [HL.out]; omega)] at e2
                      exact RS.out e2)
                    have Q3 := Lib.hid hn2
                    have Q4 := Lib.hid hn3
                    clear hi0 P7 hn2 hn3 KM RS RG
                    go_wp2_with fail
                    go_roundg f
                    case measure => omega
                    case rel => exact ⟨hi', more', rfl, rfl, Q3.out, Q4.out, Q1.out, Q2.out, OY.out⟩
                  · have hlt : i < n := by omega
                    have kl : i < L.length := by rw [HL.out]; exact hlt
                    obtain ⟨bL, oL, rfl, _⟩ := RL.out.form (by omega)
                    have t0 : decide ((i : Int) < (n : Int)) = true := decide_eq_true (by omega)
                    have t0' : decide (i < n) = true := decide_eq_true hlt
                    have i0 : (0 : Int) ≤ (i : Int) := by omega
                    have i1 : (i : Int) < (n : Int) := by omega
                    have iI : IntKind.i64.wrap ((i : Int) + 1) = (i : Int) + 1 := IntWalk.i64_in _ (by have := HN.out; omega)
                    have RLo := Lib.hid (fun W (h : Below w.heap.size w W) => (RL.out.below h).lo i kl)
                    have RHi := Lib.hid (fun W (h : Below w.heap.size w W) => (RL.out.below h).hi i kl)
                    have okp := RL.out.2.1 _ (List.getElem_mem kl)
                    have GR := Lib.hid (fun (k1 : (L[i]).1 ≤ hi' + 1) (k2 : hi' < (L[i]).2) => RG.out hi' L[i] (Nat.le_trans K1.out P7.out.1) P7.out.2.1 (List.getElem_mem kl) k1 k2)
                    obtain ⟨okx, oky⟩ := okp
                    have H2 : hi' < 4294967296 := Nat.lt_of_le_of_lt P7.out.2.1 V2.out
                    have wh : IntKind.u64.wrap ((hi' : Int) + 1) = (hi' : Int) + 1 := by have := u64_same (x := hi' + 1) (by omega); rwa [Int.natCast_add] at this
                    obtain ⟨x, hx⟩ : ∃ x, (L[i]).1 = x := ⟨_, rfl⟩
                    obtain ⟨y, hy⟩ : ∃ y, (L[i]).2 = y := ⟨_, rfl⟩
                    have HX := Lib.hid hx
                    have HY := Lib.hid hy
                    rw [hx] at RLo okx
                    rw [hy] at RHi oky
                    rw [hx, hy] at GR
                    clear hx hy
                    have wx : IntKind.u64.wrap (x : Int) = (x : Int) := u64_same (by omega)
                    have wy : IntKind.u64.wrap (y : Int) = (y : Int) := u64_same (by omega)
                    go_upto_region 18 with fail
                    refine wp_region_ord Ext Ext.refl (fun _ _ _ => Ext.trans) ((0, false) :: (1, false) :: (2, false) :: (3, false) :: (4, false) :: (5, false) :: (6, false) :: (7, false) :: (8, false) :: (9, false) :: (10, false) :: (11, false) :: (12, false) :: (13, false) :: (14, false) :: (15, false) :: (16, false) :: (17, false) :: (18, false) :: (19, false) :: (20, false) :: (21, false) :: (22, false) :: (23, false) :: (24, false) :: (25, false) :: (26, false) :: (27, false) :: (28, false) :: (29, false) :: (30, false) :: (31, false) :: []) (by kernel_rfl) (by kernel_rfl) rfl (by kernel_rfl) (fun _ _ _ _ _ h => h) ?_
                    have OX := Lib.hid (show RgOut w wr.drew _ _ from OY.out.below (drewN_below _ 1))
                    clear OY
                    generalize wr.drew = w7 at *
                    by_cases h1 : x ≤ y
                    · have t1 : decide ((x : Int) ≤ (y : Int)) = true := decide_eq_true (by omega)
                      have t1' : decide (x ≤ y) = true := decide_eq_true (by omega)
                      by_cases h2 : x ≤ hi' + 1
                      · have t2 : decide ((x : Int) ≤ (hi' : Int) + 1) = true := decide_eq_true (by omega)
                        have t2' : decide (x ≤ hi' + 1) = true := decide_eq_true (by omega)
                        by_cases h3 : hi' < y
                        · have t3 : decide ((hi' : Int) < (y : Int)) = true := decide_eq_true (by omega)
                          have t3' : decide (hi' < y) = true := decide_eq_true (by omega)
                          have hy := GR.out h2 h3
                          have PY := Lib.hid (pass_yes P7.out h3 hy)
                          clear P7 GR
                          repeat (first
                            | (refine ord_skip rfl (by rfl) ?_; simp only [Act.put, List.setIfInBounds_toArray, List.set_cons_zero, List.set_cons_succ])
                            | (refine ord_take _ rfl (by rfl) (fun W hW => yields_u32 (.tmp 61) rfl bL (oL + i * 2) _ rfl (RLo.out W (Below.step OX.out.2.1 hW))) ?_; simp only [Act.put, List.setIfInBounds_toArray, List.set_cons_zero, List.set_cons_succ])
                            | (refine ord_take _ rfl (by rfl) (fun W hW => yields_u32 (.tmp 66) rfl bL (oL + i * 2 + 1) _ rfl (RHi.out W (Below.step OX.out.2.1 hW))) ?_; simp only [Act.put, List.setIfInBounds_toArray, List.set_cons_zero, List.set_cons_succ])
                            | (refine ord_take _ rfl (by rfl) (fun W hW => yields_u32 (.tmp 73) rfl bL (oL + i * 2) _ rfl (RLo.out W (Below.step OX.out.2.1 hW))) ?_; simp only [Act.put, List.setIfInBounds_toArray, List.set_cons_zero, List.set_cons_succ])
                            | (refine ord_take _ rfl (by rfl) (fun W hW => yields_u32 (.tmp 84) rfl bL (oL + i * 2 + 1) _ rfl (RHi.out W (Below.step OX.out.2.1 hW))) ?_; simp only [Act.put, List.setIfInBounds_toArray, List.set_cons_zero, List.set_cons_succ])
                            | (refine ord_take _ rfl (by rfl) (fun W hW => by go_simp; first | done | rfl) ?_; simp only [Act.put, List.setIfInBounds_toArray, List.set_cons_zero, List.set_cons_succ]))
                          refine ord_end ?_
                          have c2 := RHi.out _ OX.out.2.1
                          go_wp2_with fail
                          go_roundg e
                          case measure => omega
                          case rel => exact ⟨i + 1, y, true, rfl, rfl, by go_num, by omega, PY.out, OX.out⟩
                        · have t3 : decide ((hi' : Int) < (y : Int)) = false := decide_eq_false (by omega)
                          have t3' : decide (hi' < y) = false := decide_eq_false (by omega)
                          have PN := Lib.hid (pass_no P7.out kl (fun h => h3 (by have := h.2.2; rw [HY.out] at this; exact this)))
                          clear P7 GR
                          repeat (first
                            | (refine ord_skip rfl (by rfl) ?_; simp only [Act.put, List.setIfInBounds_toArray, List.set_cons_zero, List.set_cons_succ])
                            | (refine ord_take _ rfl (by rfl) (fun W hW => yields_u32 (.tmp 61) rfl bL (oL + i * 2) _ rfl (RLo.out W (Below.step OX.out.2.1 hW))) ?_; simp only [Act.put, List.setIfInBounds_toArray, List.set_cons_zero, List.set_cons_succ])
                            | (refine ord_take _ rfl (by rfl) (fun W hW => yields_u32 (.tmp 66) rfl bL (oL + i * 2 + 1) _ rfl (RHi.out W (Below.step OX.out.2.1 hW))) ?_; simp only [Act.put, List.setIfInBounds_toArray, List.set_cons_zero, List.set_cons_succ])
                            | (refine ord_take _ rfl (by rfl) (fun W hW => yields_u32 (.tmp 73) rfl bL (oL + i * 2) _ rfl (RLo.out W (Below.step OX.out.2.1 hW))) ?_; simp only [Act.put, List.setIfInBounds_toArray, List.set_cons_zero, List.set_cons_succ])
                            | (refine ord_take _ rfl (by rfl) (fun W hW => yields_u32 (.tmp 84) rfl bL (oL + i * 2 + 1) _ rfl (RHi.out W (Below.step OX.out.2.1 hW))) ?_; simp only [Act.put, List.setIfInBounds_toArray, List.set_cons_zero, List.set_cons_succ])
                            | (refine ord_take _ rfl (by rfl) (fun W hW => by go_simp; first | done | rfl) ?_; simp only [Act.put, List.setIfInBounds_toArray, List.set_cons_zero, List.set_cons_succ]))
                          refine ord_end ?_
                          go_wp2_with fail
                          go_roundg e
                          case measure => omega
                          case rel => exact ⟨i + 1, hi', more', rfl, rfl, by go_num, by omega, PN.out, OX.out⟩
                      · have t2 : decide ((x : Int) ≤ (hi' : Int) + 1) = false := decide_eq_false (by omega)
                        have t2' : decide (x ≤ hi' + 1) = false := decide_eq_false (by omega)
                        have PN := Lib.hid (pass_no P7.out kl (fun h => h2 (by have := h.2.1; rw [HX.out] at this; exact this)))
                        clear P7 GR
                        repeat (first
                          | (refine ord_skip rfl (by rfl) ?_; simp only [Act.put, List.setIfInBounds_toArray, List.set_cons_zero, List.set_cons_succ])
                          | (refine ord_take _ rfl (by rfl) (fun W hW => yields_u32 (.tmp 61) rfl bL (oL + i * 2) _ rfl (RLo.out W (Below.step OX.out.2.1 hW))) ?_; simp only [Act.put, List.setIfInBounds_toArray, List.set_cons_zero, List.set_cons_succ])
                          | (refine ord_take _ rfl (by rfl) (fun W hW => yields_u32 (.tmp 66) rfl bL (oL + i * 2 + 1) _ rfl (RHi.out W (Below.step OX.out.2.1 hW))) ?_; simp only [Act.put, List.setIfInBounds_toArray, List.set_cons_zero, List.set_cons_succ])
                          | (refine ord_take _ rfl (by rfl) (fun W hW => yields_u32 (.tmp 73) rfl bL (oL + i * 2) _ rfl (RLo.out W (Below.step OX.out.2.1 hW))) ?_; simp only [Act.put, List.setIfInBounds_toArray, List.set_cons_zero, List.set_cons_succ])
                          | (refine ord_take _ rfl (by rfl) (fun W hW => yields_u32 (.tmp 84) rfl bL (oL + i * 2 + 1) _ rfl (RHi.out W (Below.step OX.out.2.1 hW))) ?_; simp only [Act.put, List.setIfInBounds_toArray, List.set_cons_zero, List.set_cons_succ])
                          | (refine ord_take _ rfl (by rfl) (fun W hW => by go_simp; first | done | rfl) ?_; simp only [Act.put, List.setIfInBounds_toArray, List.set_cons_zero, List.set_cons_succ]))
                        refine ord_end ?_
                        go_wp2_with fail
                        go_roundg e
                        case measure => omega
                        case rel => exact ⟨i + 1, hi', more', rfl, rfl, by go_num, by omega, PN.out, OX.out⟩
                    · have t1 : decide ((x : Int) ≤ (y : Int)) = false := decide_eq_false (by omega)
                      have t1' : decide (x ≤ y) = false := decide_eq_false (by omega)
                      have PN := Lib.hid (pass_no P7.out kl (fun h => h1 (by have := h.1; rw [HX.out, HY.out] at this; exact this)))
                      clear P7 GR
                      repeat (first
                        | (refine ord_skip rfl (by rfl) ?_; simp only [Act.put, List.setIfInBounds_toArray, List.set_cons_zero, List.set_cons_succ])
                        | (refine ord_take _ rfl (by rfl) (fun W hW => yields_u32 (.tmp 61) rfl bL (oL + i * 2) _ rfl (RLo.out W (Below.step OX.out.2.1 hW))) ?_; simp only [Act.put, List.setIfInBounds_toArray, List.set_cons_zero, List.set_cons_succ])
                        | (refine ord_take _ rfl (by rfl) (fun W hW => yields_u32 (.tmp 66) rfl bL (oL + i * 2 + 1) _ rfl (RHi.out W (Below.step OX.out.2.1 hW))) ?_; simp only [Act.put, List.setIfInBounds_toArray, List.set_cons_zero, List.set_cons_succ])
                        | (refine ord_take _ rfl (by rfl) (fun W hW => yields_u32 (.tmp 73) rfl bL (oL + i * 2) _ rfl (RLo.out W (Below.step OX.out.2.1 hW))) ?_; simp only [Act.put, List.setIfInBounds_toArray, List.set_cons_zero, List.set_cons_succ])
                        | (refine ord_take _ rfl (by rfl) (fun W hW => yields_u32 (.tmp 84) rfl bL (oL + i * 2 + 1) _ rfl (RHi.out W (Below.step OX.out.2.1 hW))) ?_; simp only [Act.put, List.setIfInBounds_toArray, List.set_cons_zero, List.set_cons_succ])
                        | (refine ord_take _ rfl (by rfl) (fun W hW => by go_simp; first | done | rfl) ?_; simp only [Act.put, List.setIfInBounds_toArray, List.set_cons_zero, List.set_cons_succ]))
                      refine ord_end ?_
                      go_wp2_with fail
                      go_roundg e
                      case measure => omega
                      case rel => exact ⟨i + 1, hi', more', rfl, rfl, by go_num, by omega, PN.out, OX.out⟩
      · have hlt : i < n := by omega
        have kl : i < L.length := by rw [HL.out]; exact hlt
        obtain ⟨bL, oL, rfl, _⟩ := RL.out.form (by omega)
        have t0 : decide ((i : Int) < (n : Int)) = true := decide_eq_true (by omega)
        have t0' : decide (i < n) = true := decide_eq_true hlt
        have i0 : (0 : Int) ≤ (i : Int) := by omega
        have i1 : (i : Int) < (n : Int) := by omega
        have iI : IntKind.i64.wrap ((i : Int) + 1) = (i : Int) + 1 := IntWalk.i64_in _ (by have := HN.out; omega)
        have RLo := Lib.hid (fun W (h : Below w.heap.size w W) => (RL.out.below h).lo i kl)
        have RHi := Lib.hid (fun W (h : Below w.heap.size w W) => (RL.out.below h).hi i kl)
        have okp := RL.out.2.1 _ (List.getElem_mem kl)
        have LS : Hid (leastL s0 (if (L[i]).1 ≤ (L[i]).2 ∧ s0 ≤ (L[i]).2 then min m0 (max (L[i]).1 s0) else m0) (L.drop (i + 1)) = v) := Lib.hid (by rw [← least_step kl]; exact LE.out)
        clear LE
        obtain ⟨okx, oky⟩ := okp
        generalize (L[i]).1 = x at *
        generalize (L[i]).2 = y at *
        have wx : IntKind.u64.wrap (x : Int) = (x : Int) := u64_same (by omega)
        have wy : IntKind.u64.wrap (y : Int) = (y : Int) := u64_same (by omega)
        go_upto_region 7 with fail
        refine wp_region_ord Ext Ext.refl (fun _ _ _ => Ext.trans) ((0, false) :: (1, false) :: (2, false) :: (3, false) :: (4, false) :: (5, false) :: (6, false) :: (7, false) :: (8, false) :: (9, false) :: (10, false) :: (11, false) :: (12, false) :: (13, false) :: (14, false) :: (15, false) :: (16, false) :: (17, false) :: (18, false) :: (19, false) :: (20, false) :: []) (by kernel_rfl) (by kernel_rfl) rfl (by kernel_rfl) (fun _ _ _ _ _ h => h) ?_
        have OX := Lib.hid (show RgOut w wr.drew _ _ from OY.out.below (drewN_below _ 1))
        clear OY
        generalize wr.drew = w7 at *
        have LN := Lib.hid (fun h : ¬ (x ≤ y ∧ s0 ≤ y) => (show leastL s0 m0 (L.drop (i + 1)) = v from by have := LS.out; rwa [if_neg h] at this))
        have LY := Lib.hid (fun h : x ≤ y ∧ s0 ≤ y => (show leastL s0 (min m0 (max x s0)) (L.drop (i + 1)) = v from by have := LS.out; rwa [if_pos h] at this))
        clear LS
        by_cases h1 : x ≤ y
        · have t1 : decide ((x : Int) ≤ (y : Int)) = true := decide_eq_true (by omega)
          have t1' : decide (x ≤ y) = true := decide_eq_true h1
          by_cases h2 : s0 ≤ y
          · have t2 : decide ((s0 : Int) ≤ (y : Int)) = true := decide_eq_true (by omega)
            have t2' : decide (s0 ≤ y) = true := decide_eq_true h2
            have LL := Lib.hid (LY.out ⟨h1, h2⟩)
            have mm : min (m0 : Int) (max (x : Int) (s0 : Int)) = ((min m0 (max x s0) : Nat) : Int) := by omega
            have mb : Hid (min m0 (max x s0) ≤ 4294967296) := Lib.hid (by have := M5.out; omega)
            clear LN LY
            repeat (first
              | (refine ord_skip rfl (by rfl) ?_; simp only [Act.put, List.setIfInBounds_toArray, List.set_cons_zero, List.set_cons_succ])
              | (refine ord_take _ rfl (by rfl) (fun W hW => yields_u32 (.tmp 19) rfl bL (oL + i * 2) _ rfl (RLo.out W (Below.step OX.out.2.1 hW))) ?_; simp only [Act.put, List.setIfInBounds_toArray, List.set_cons_zero, List.set_cons_succ])
              | (refine ord_take _ rfl (by rfl) (fun W hW => yields_u32 (.tmp 24) rfl bL (oL + i * 2 + 1) _ rfl (RHi.out W (Below.step OX.out.2.1 hW))) ?_; simp only [Act.put, List.setIfInBounds_toArray, List.set_cons_zero, List.set_cons_succ])
              | (refine ord_take _ rfl (by rfl) (fun W hW => yields_u32 (.tmp 31) rfl bL (oL + i * 2 + 1) _ rfl (RHi.out W (Below.step OX.out.2.1 hW))) ?_; simp only [Act.put, List.setIfInBounds_toArray, List.set_cons_zero, List.set_cons_succ])
              | (refine ord_take _ rfl (by rfl) (fun W hW => by go_simp; first | done | rfl) ?_; simp only [Act.put, List.setIfInBounds_toArray, List.set_cons_zero, List.set_cons_succ]))
            refine ord_end ?_
            have c1 := RLo.out _ OX.out.2.1
            go_wp2_with fail
            go_roundg f
            case measure => omega
            case rel => exact ⟨i + 1, min m0 (max x s0), by go_num, by first | rfl | (rw [mm]) | (congr 1; omega), by omega, mb.out, LL.out, OX.out⟩
          · have t2 : decide ((s0 : Int) ≤ (y : Int)) = false := decide_eq_false (by omega)
            have t2' : decide (s0 ≤ y) = false := decide_eq_false h2
            have LL := Lib.hid (LN.out (fun h => h2 h.2))
            clear LN LY
            repeat (first
              | (refine ord_skip rfl (by rfl) ?_; simp only [Act.put, List.setIfInBounds_toArray, List.set_cons_zero, List.set_cons_succ])
              | (refine ord_take _ rfl (by rfl) (fun W hW => yields_u32 (.tmp 19) rfl bL (oL + i * 2) _ rfl (RLo.out W (Below.step OX.out.2.1 hW))) ?_; simp only [Act.put, List.setIfInBounds_toArray, List.set_cons_zero, List.set_cons_succ])
              | (refine ord_take _ rfl (by rfl) (fun W hW => yields_u32 (.tmp 24) rfl bL (oL + i * 2 + 1) _ rfl (RHi.out W (Below.step OX.out.2.1 hW))) ?_; simp only [Act.put, List.setIfInBounds_toArray, List.set_cons_zero, List.set_cons_succ])
              | (refine ord_take _ rfl (by rfl) (fun W hW => yields_u32 (.tmp 31) rfl bL (oL + i * 2 + 1) _ rfl (RHi.out W (Below.step OX.out.2.1 hW))) ?_; simp only [Act.put, List.setIfInBounds_toArray, List.set_cons_zero, List.set_cons_succ])
              | (refine ord_take _ rfl (by rfl) (fun W hW => by go_simp; first | done | rfl) ?_; simp only [Act.put, List.setIfInBounds_toArray, List.set_cons_zero, List.set_cons_succ]))
            refine ord_end ?_
            go_wp2_with fail
            go_roundg f
            case measure => omega
            case rel => exact ⟨i + 1, m0, by go_num, rfl, by omega, M5.out, LL.out, OX.out⟩
        · have t1 : decide ((x : Int) ≤ (y : Int)) = false := decide_eq_false (by omega)
          have t1' : decide (x ≤ y) = false := decide_eq_false h1
          have LL := Lib.hid (LN.out (fun h => h1 h.1))
          clear LN LY
          repeat (first
            | (refine ord_skip rfl (by rfl) ?_; simp only [Act.put, List.setIfInBounds_toArray, List.set_cons_zero, List.set_cons_succ])
            | (refine ord_take _ rfl (by rfl) (fun W hW => yields_u32 (.tmp 19) rfl bL (oL + i * 2) _ rfl (RLo.out W (Below.step OX.out.2.1 hW))) ?_; simp only [Act.put, List.setIfInBounds_toArray, List.set_cons_zero, List.set_cons_succ])
            | (refine ord_take _ rfl (by rfl) (fun W hW => yields_u32 (.tmp 24) rfl bL (oL + i * 2 + 1) _ rfl (RHi.out W (Below.step OX.out.2.1 hW))) ?_; simp only [Act.put, List.setIfInBounds_toArray, List.set_cons_zero, List.set_cons_succ])
            | (refine ord_take _ rfl (by rfl) (fun W hW => yields_u32 (.tmp 31) rfl bL (oL + i * 2 + 1) _ rfl (RHi.out W (Below.step OX.out.2.1 hW))) ?_; simp only [Act.put, List.setIfInBounds_toArray, List.set_cons_zero, List.set_cons_succ])
            | (refine ord_take _ rfl (by rfl) (fun W hW => by go_simp; first | done | rfl) ?_; simp only [Act.put, List.setIfInBounds_toArray, List.set_cons_zero, List.set_cons_succ]))
          refine ord_end ?_
          go_wp2_with fail
          go_roundg f
          case measure => omega
          case rel => exact ⟨i + 1, m0, by go_num, rfl, by omega, M5.out, LL.out, OX.out⟩
end Go.Proofs.YtlmndmfebgaidaaGreatDoor
namespace Go.Proofs.YtlmndmfebgaidaaGreatDoor
open Go.RowKit
set_option linter.unusedVariables false
theorem u64_in {z : Int} (h0 : 0 ≤ z) (h1 : z < 18446744073709551616) : IntKind.u64.wrap z = z := by
  have := u64_same (x := z.toNat) (by omega)
  rwa [Int.toNat_of_nonneg h0] at this
end Go.Proofs.YtlmndmfebgaidaaGreatDoor
namespace Go.Proofs.YtlmndmfebgaidaaGreatDoor
open Go.RowKit
set_option linter.unusedVariables false
theorem held_take (Y : List (Nat × Nat)) (p : Nat × Nat) (k : Nat) (hk : k < Y.length) : heldZ (Y.take (k + 1)) p = (heldZ (Y.take k) p || (decide ((Y[k]).1 ≤ p.1) && decide (p.2 ≤ (Y[k]).2))) := by
  rw [List.take_succ_eq_append_getElem hk]
  unfold heldZ
  rw [List.any_append]
  simp
set_option maxHeartbeats 4000000 in
set_option maxRecDepth 100000 in
theorem rwithinR_any (a b : Option Addr) (n c m d : Nat) (L M : List (Nat × Nat)) (w : World) (ha : RgArg w a n c L) (hn : n ≤ 10000) (hb : RgArg w b m d M) (hm : m ≤ 10000) :
    Calls Tryz.prog 49 #[.slice a n c, .slice b m d] w fun e w' => e = .returned (.bool (inN L M)) ∧ Below w.heap.size w w' := by
  have CJ := Lib.hid (rjoinR_any a n c L w ha hn)
  have CK := Lib.hid (fun W (h : RgArg W b m d M) => rjoinR_any b m d M W h hm)
  have RB := Lib.hid hb
  have XL : Hid ((joinZ L).length ≤ 10000) := Lib.hid (by have := join_len' L; have := ha.1.1; omega)
  have YL : Hid ((joinZ M).length ≤ 10000) := Lib.hid (by have := join_len' M; have := hb.1.1; omega)
  have EY : Hid ((∀ p ∈ joinZ L, heldZ (joinZ M) p = true) → inN L M = true) := Lib.hid (fun h => by unfold inN; exact List.all_eq_true.2 h)
  have EN : Hid (∀ p ∈ joinZ L, heldZ (joinZ M) p = false → inN L M = false) := Lib.hid (fun p hp h => by
    unfold inN
    rw [Bool.eq_false_iff]
    intro h2
    have := List.all_eq_true.1 h2 p hp
    rw [h] at this
    cases this)
  clear ha hb hn hm
  generalize inN L M = r0 at *
  generalize joinZ L = X at *
  generalize joinZ M = Y at *
  go_enter Tryz.func49, Tryz.ntmps49
  go_wp2_with (first
    | (go_at_call 44
       refine CJ.out.mono ?_
       rintro r w1 ⟨V1, rfl, ho1⟩
       obtain ⟨aX, cX, rfl, hr1⟩ := ho1.arg
       have RX1 := Lib.hid hr1
       have RB1 := Lib.hid (RB.out.below ho1.2.1)
       have B1 := Lib.hid ho1.2.1
       clear ho1 hr1 CJ RB)
    | (go_at_call 44
       refine (CK.out _ RB1.out).mono ?_
       rintro r w2 ⟨V2, rfl, ho2⟩
       obtain ⟨aY, cY, rfl, hr2⟩ := ho2.arg
       have RY := Lib.hid hr2.1
       have RX := Lib.hid (RX1.out.below ho2.2.1).1
       have B2 := Lib.hid (Below.step B1.out ho2.2.1)
       clear ho2 hr2 CK RX1 RB1 B1))
  obtain ⟨x, hx⟩ : ∃ x, X.length = x := ⟨_, rfl⟩
  obtain ⟨y, hy⟩ : ∃ y, Y.length = y := ⟨_, rfl⟩
  have HX := Lib.hid hx
  have HY := Lib.hid hy
  rw [hx] at RX XL
  rw [hy] at RY YL
  rw [hx, hy]
  clear hx hy
  go_loopg [7] x (fun gk iV wr => ∃ i : Nat, iV = .int .i64 (i : Int) ∧ i + gk = x ∧ (∀ p ∈ X.take i, heldZ Y p = true) ∧ Below w2.heap.size w2 wr)
  case atStart => exact ⟨0, rfl, by omega, fun p hp => by simp at hp, Below.refl _ _⟩
  case round =>
    obtain ⟨i, rfl, hi, hal, hb⟩ := hrel
    have B5 := Lib.hid hb
    have AL := Lib.hid hal
    clear hb hal
    rcases gk with _ | g
    · have t0 : decide ((i : Int) < (x : Int)) = false := decide_eq_false (by omega)
      have t0' : decide (i < x) = false := decide_eq_false (by omega)
      have e := EY.out (by have := AL.out; rwa [List.take_of_length_le (by rw [HX.out]; omega)] at this)
      subst e
      clear hi
      go_wp2_with fail
      go_ret
      exact ⟨rfl, Below.step B2.out B5.out⟩
    · have hlt : i < x := by omega
      have t0 : decide ((i : Int) < (x : Int)) = true := decide_eq_true (by omega)
      have t0' : decide (i < x) = true := decide_eq_true hlt
      obtain ⟨bX, oX, rfl, _⟩ := RX.out.form (by omega)
      have kl : i < X.length := by rw [HX.out]; exact hlt
      have i0 : (0 : Int) ≤ (i : Int) := by omega
      have i1 : (i : Int) < (x : Int) := by omega
      have iI : IntKind.i64.wrap ((i : Int) + 1) = (i : Int) + 1 := IntWalk.i64_in _ (by have := XL.out; omega)
      have XLo := Lib.hid (fun W (h : Below w2.heap.size w2 W) => (RX.out.below h).lo i kl)
      have XHi := Lib.hid (fun W (h : Below w2.heap.size w2 W) => (RX.out.below h).hi i kl)
      have HT := Lib.hid (fun k hk => held_take Y X[i] k hk)
      have AN := Lib.hid (fun h : heldZ Y X[i] = true => (show ∀ p ∈ X.take (i + 1), heldZ Y p = true from by
        intro p hp
        rw [List.take_succ_eq_append_getElem kl] at hp
        rcases List.mem_append.1 hp with hp | hp
        · exact AL.out p hp
        · rw [List.mem_singleton.1 hp]
          exact h))
      have EF := Lib.hid (EN.out X[i] (List.getElem_mem kl))
      clear AL EN EY
      generalize X[i] = p at *
      obtain ⟨px, py⟩ := p
      dsimp only at *
      go_upto_region 8 with fail
      go_loopg [8, 9] y (fun fk hV kV wx => ∃ k : Nat, hV = .bool (heldZ (Y.take k) (px, py)) ∧ kV = .int .i64 (k : Int) ∧ k + fk = y ∧ Below w2.heap.size w2 wx)
      case atStart => exact ⟨0, rfl, rfl, by omega, B5.out⟩
      case round =>
        obtain ⟨k, rfl, rfl, hk, hb⟩ := hrel
        have B7 := Lib.hid hb
        clear hb B5
        rcases gk with _ | f
        · have t1 : decide ((k : Int) < (y : Int)) = false := decide_eq_false (by omega)
          have t1' : decide (k < y) = false := decide_eq_false (by omega)
          rw [List.take_of_length_le (l := Y) (i := k) (by rw [HY.out]; omega)]
          clear hk
          generalize heldZ Y (px, py) = hd at *
          cases hd with
          | true =>
            have AO := Lib.hid (AN.out rfl)
            clear AN EF
            go_wp2_with fail
            go_roundg g
            case measure => omega
            case rel => exact ⟨i + 1, by go_num, by omega, AO.out, B7.out⟩
          | false =>
            have e := EF.out rfl
            subst e
            clear AN EF
            go_wp2_with fail
            go_ret
            exact ⟨rfl, Below.step B2.out B7.out⟩
        · have hlk : k < y := by omega
          have t1 : decide ((k : Int) < (y : Int)) = true := decide_eq_true (by omega)
          have t1' : decide (k < y) = true := decide_eq_true hlk
          obtain ⟨bY, oY, rfl, _⟩ := RY.out.form (by omega)
          have kk : k < Y.length := by rw [HY.out]; exact hlk
          have k0 : (0 : Int) ≤ (k : Int) := by omega
          have k1 : (k : Int) < (y : Int) := by omega
          have kI : IntKind.i64.wrap ((k : Int) + 1) = (k : Int) + 1 := IntWalk.i64_in _ (by have := YL.out; omega)
          have YLo := Lib.hid (fun W (h : Below w2.heap.size w2 W) => (RY.out.below h).lo k kk)
          have YHi := Lib.hid (fun W (h : Below w2.heap.size w2 W) => (RY.out.below h).hi k kk)
          have HS := Lib.hid (HT.out k kk)
          clear HT
          generalize (Y[k]).1 = qx at *
          generalize (Y[k]).2 = qy at *
          generalize heldZ (Y.take k) (px, py) = h0 at *
          go_upto_region 10 with fail
          have B9 : Hid (Below w2.heap.size w2 wr.drew) := Lib.hid (Below.step B7.out (drewN_below wr 1))
          clear B7
          refine wp_region_ord Ext Ext.refl (fun _ _ _ => Ext.trans) ((0, false) :: (1, false) :: (2, false) :: (3, false) :: (4, false) :: (5, false) :: (6, false) :: (7, false) :: (8, false) :: (9, false) :: (10, false) :: (11, false) :: (12, false) :: (13, false) :: (14, false) :: (15, false) :: (16, false) :: (17, false) :: (18, false) :: (19, false) :: (20, false) :: (21, false) :: (22, false) :: (23, false) :: (24, false) :: (25, false) :: (26, false) :: (27, false) :: []) (by kernel_rfl) (by kernel_rfl) rfl (by kernel_rfl) (fun _ _ _ _ _ h => h) ?_
          generalize wr.drew = w9 at *
          cases h0 with
          | true =>
            rw [Bool.true_or] at HS
            repeat (first
              | (refine ord_skip rfl (by rfl) ?_; simp only [Act.put, List.setIfInBounds_toArray, List.set_cons_zero, List.set_cons_succ])
              | (refine ord_take _ rfl (by rfl) (fun W hW => yields_u32 (.tmp 31) rfl bY (oY + k * 2) _ rfl (YLo.out W (B9.out.trans (hW.mono B9.out.size)))) ?_; simp only [Act.put, List.setIfInBounds_toArray, List.set_cons_zero, List.set_cons_succ])
              | (refine ord_take _ rfl (by rfl) (fun W hW => yields_u32 (.tmp 36) rfl bX (oX + i * 2) _ rfl (XLo.out W (B9.out.trans (hW.mono B9.out.size)))) ?_; simp only [Act.put, List.setIfInBounds_toArray, List.set_cons_zero, List.set_cons_succ])
              | (refine ord_take _ rfl (by rfl) (fun W hW => yields_u32 (.tmp 43) rfl bX (oX + i * 2 + 1) _ rfl (XHi.out W (B9.out.trans (hW.mono B9.out.size)))) ?_; simp only [Act.put, List.setIfInBounds_toArray, List.set_cons_zero, List.set_cons_succ])
              | (refine ord_take _ rfl (by rfl) (fun W hW => yields_u32 (.tmp 48) rfl bY (oY + k * 2 + 1) _ rfl (YHi.out W (B9.out.trans (hW.mono B9.out.size)))) ?_; simp only [Act.put, List.setIfInBounds_toArray, List.set_cons_zero, List.set_cons_succ])
              | (refine ord_take _ rfl (by rfl) (fun W hW => by go_simp; first | done | rfl) ?_; simp only [Act.put, List.setIfInBounds_toArray, List.set_cons_zero, List.set_cons_succ]))
            refine ord_end ?_
            go_wp2_with fail
            go_roundg f
            case measure => omega
            case rel => exact ⟨k + 1, by first | rw [HS.out] | (rw [HS.out]; rfl), by go_num, by omega, B9.out⟩
          | false =>
            rw [Bool.false_or] at HS
            by_cases h1 : qx ≤ px
            · have t2 : decide ((qx : Int) ≤ (px : Int)) = true := decide_eq_true (by omega)
              have t2' : decide (qx ≤ px) = true := decide_eq_true h1
              rw [t2', Bool.true_and] at HS
              by_cases h2 : py ≤ qy
              · have t3 : decide ((py : Int) ≤ (qy : Int)) = true := decide_eq_true (by omega)
                have t3' : decide (py ≤ qy) = true := decide_eq_true h2
                rw [t3'] at HS
                repeat (first
                  | (refine ord_skip rfl (by rfl) ?_; simp only [Act.put, List.setIfInBounds_toArray, List.set_cons_zero, List.set_cons_succ])
                  | (refine ord_take _ rfl (by rfl) (fun W hW => yields_u32 (.tmp 31) rfl bY (oY + k * 2) _ rfl (YLo.out W (B9.out.trans (hW.mono B9.out.size)))) ?_; simp only [Act.put, List.setIfInBounds_toArray, List.set_cons_zero, List.set_cons_succ])
                  | (refine ord_take _ rfl (by rfl) (fun W hW => yields_u32 (.tmp 36) rfl bX (oX + i * 2) _ rfl (XLo.out W (B9.out.trans (hW.mono B9.out.size)))) ?_; simp only [Act.put, List.setIfInBounds_toArray, List.set_cons_zero, List.set_cons_succ])
                  | (refine ord_take _ rfl (by rfl) (fun W hW => yields_u32 (.tmp 43) rfl bX (oX + i * 2 + 1) _ rfl (XHi.out W (B9.out.trans (hW.mono B9.out.size)))) ?_; simp only [Act.put, List.setIfInBounds_toArray, List.set_cons_zero, List.set_cons_succ])
                  | (refine ord_take _ rfl (by rfl) (fun W hW => yields_u32 (.tmp 48) rfl bY (oY + k * 2 + 1) _ rfl (YHi.out W (B9.out.trans (hW.mono B9.out.size)))) ?_; simp only [Act.put, List.setIfInBounds_toArray, List.set_cons_zero, List.set_cons_succ])
                  | (refine ord_take _ rfl (by rfl) (fun W hW => by go_simp; first | done | rfl) ?_; simp only [Act.put, List.setIfInBounds_toArray, List.set_cons_zero, List.set_cons_succ]))
                refine ord_end ?_
                go_wp2_with fail
                go_roundg f
                case measure => omega
                case rel => exact ⟨k + 1, by first | rw [HS.out] | (rw [HS.out]; rfl), by go_num, by omega, B9.out⟩
              · have t3 : decide ((py : Int) ≤ (qy : Int)) = false := decide_eq_false (by omega)
                have t3' : decide (py ≤ qy) = false := decide_eq_false h2
                rw [t3'] at HS
                repeat (first
                  | (refine ord_skip rfl (by rfl) ?_; simp only [Act.put, List.setIfInBounds_toArray, List.set_cons_zero, List.set_cons_succ])
                  | (refine ord_take _ rfl (by rfl) (fun W hW => yields_u32 (.tmp 31) rfl bY (oY + k * 2) _ rfl (YLo.out W (B9.out.trans (hW.mono B9.out.size)))) ?_; simp only [Act.put, List.setIfInBounds_toArray, List.set_cons_zero, List.set_cons_succ])
                  | (refine ord_take _ rfl (by rfl) (fun W hW => yields_u32 (.tmp 36) rfl bX (oX + i * 2) _ rfl (XLo.out W (B9.out.trans (hW.mono B9.out.size)))) ?_; simp only [Act.put, List.setIfInBounds_toArray, List.set_cons_zero, List.set_cons_succ])
                  | (refine ord_take _ rfl (by rfl) (fun W hW => yields_u32 (.tmp 43) rfl bX (oX + i * 2 + 1) _ rfl (XHi.out W (B9.out.trans (hW.mono B9.out.size)))) ?_; simp only [Act.put, List.setIfInBounds_toArray, List.set_cons_zero, List.set_cons_succ])
                  | (refine ord_take _ rfl (by rfl) (fun W hW => yields_u32 (.tmp 48) rfl bY (oY + k * 2 + 1) _ rfl (YHi.out W (B9.out.trans (hW.mono B9.out.size)))) ?_; simp only [Act.put, List.setIfInBounds_toArray, List.set_cons_zero, List.set_cons_succ])
                  | (refine ord_take _ rfl (by rfl) (fun W hW => by go_simp; first | done | rfl) ?_; simp only [Act.put, List.setIfInBounds_toArray, List.set_cons_zero, List.set_cons_succ]))
                refine ord_end ?_
                go_wp2_with fail
                go_roundg f
                case measure => omega
                case rel => exact ⟨k + 1, by first | rw [HS.out] | (rw [HS.out]; rfl), by go_num, by omega, B9.out⟩
            · have t2 : decide ((qx : Int) ≤ (px : Int)) = false := decide_eq_false (by omega)
              have t2' : decide (qx ≤ px) = false := decide_eq_false h1
              rw [t2', Bool.false_and] at HS
              repeat (first
                | (refine ord_skip rfl (by rfl) ?_; simp only [Act.put, List.setIfInBounds_toArray, List.set_cons_zero, List.set_cons_succ])
                | (refine ord_take _ rfl (by rfl) (fun W hW => yields_u32 (.tmp 31) rfl bY (oY + k * 2) _ rfl (YLo.out W (B9.out.trans (hW.mono B9.out.size)))) ?_; simp only [Act.put, List.setIfInBounds_toArray, List.set_cons_zero, List.set_cons_succ])
                | (refine ord_take _ rfl (by rfl) (fun W hW => yields_u32 (.tmp 36) rfl bX (oX + i * 2) _ rfl (XLo.out W (B9.out.trans (hW.mono B9.out.size)))) ?_; simp only [Act.put, List.setIfInBounds_toArray, List.set_cons_zero, List.set_cons_succ])
                | (refine ord_take _ rfl (by rfl) (fun W hW => yields_u32 (.tmp 43) rfl bX (oX + i * 2 + 1) _ rfl (XHi.out W (B9.out.trans (hW.mono B9.out.size)))) ?_; simp only [Act.put, List.setIfInBounds_toArray, List.set_cons_zero, List.set_cons_succ])
                | (refine ord_take _ rfl (by rfl) (fun W hW => yields_u32 (.tmp 48) rfl bY (oY + k * 2 + 1) _ rfl (YHi.out W (B9.out.trans (hW.mono B9.out.size)))) ?_; simp only [Act.put, List.setIfInBounds_toArray, List.set_cons_zero, List.set_cons_succ])
                | (refine ord_take _ rfl (by rfl) (fun W hW => by go_simp; first | done | rfl) ?_; simp only [Act.put, List.setIfInBounds_toArray, List.set_cons_zero, List.set_cons_succ]))
              refine ord_end ?_
              go_wp2_with fail
              go_roundg f
              case measure => omega
              case rel => exact ⟨k + 1, by first | rw [HS.out] | (rw [HS.out]; rfl), by go_num, by omega, B9.out⟩
end Go.Proofs.YtlmndmfebgaidaaGreatDoor
