/-
  DeleteFunc at ranges, for stage 12 (asn); what the package's sorted hands back.
-/
import Derived.Test.YtppdnejkbdnlcaaApB
namespace Go.Proofs.Ytppdnejkbdnlcaa
open Go.RowKit
set_option linter.unusedVariables false

/-- A row of the caller's own, in memory newer than W0, that is handed back. -/
def GivesInR (W0 : World) (L : List (Nat × Nat)) (e : Ending) (w' : World) : Prop := ∃ V, e = .returned V ∧ RgOut W0 w' V L

/-- What DeleteFunc's loop has come to: of the first j those that have numbers stand first. -/
def DelR (L : List (Nat × Nat)) (i j : Nat) (R : List (Nat × Nat)) : Prop := R.length = L.length ∧ i < j ∧ R.take i = (L.take j).filter validP ∧ R.drop j = L.drop j
theorem delR_start {L : List (Nat × Nat)} (h : ¬ (L.takeWhile validP).length = L.length) : (L.takeWhile validP).length < L.length ∧ DelR L (L.takeWhile validP).length ((L.takeWhile validP).length + 1) L := by
  have key : ∀ M : List (Nat × Nat), ¬ (M.takeWhile validP).length = M.length → (M.takeWhile validP).length < M.length ∧ M.take (M.takeWhile validP).length = (M.take ((M.takeWhile validP).length + 1)).filter validP := by
    intro M
    induction M with
    | nil => intro h; exact absurd rfl h
    | cons s r ih =>
      intro h
      cases hs : validP s with
      | true =>
        simp only [List.takeWhile, hs, List.length_cons] at h ⊢
        obtain ⟨h1, h2⟩ := ih (by omega)
        refine ⟨by omega, ?_⟩
        rw [List.take_succ_cons, List.take_succ_cons, List.filter_cons_of_pos hs, ← h2]
      | false =>
        simp [List.takeWhile, hs]
  obtain ⟨h1, h2⟩ := key L h
  exact ⟨h1, rfl, Nat.lt_succ_self _, h2, rfl⟩
theorem allR_right : ∀ {L : List (Nat × Nat)}, (L.takeWhile validP).length = L.length → L.filter validP = L
  | [], _ => rfl
  | s :: r, h => by
    cases hs : validP s with
    | true =>
      simp only [List.takeWhile, hs, List.length_cons] at h
      rw [List.filter_cons_of_pos hs, allR_right (by omega)]
    | false => simp [List.takeWhile, hs] at h
theorem delR_at {L R : List (Nat × Nat)} {i j : Nat} (h : DelR L i j R) (hj : j < L.length) : R[j]'(by rw [h.1]; exact hj) = L[j] := by
  have hR : j < R.length := by rw [h.1]; exact hj
  have e := h.2.2.2
  rw [List.drop_eq_getElem_cons hR, List.drop_eq_getElem_cons hj] at e
  injection e
theorem delR_next {L R : List (Nat × Nat)} {i j : Nat} (h : DelR L i j R) (hj : j < L.length) : R.drop (j + 1) = L.drop (j + 1) := by
  have hR : j < R.length := by rw [h.1]; exact hj
  have e := h.2.2.2
  rw [List.drop_eq_getElem_cons hR, List.drop_eq_getElem_cons hj] at e
  injection e
theorem delR_keep {L R : List (Nat × Nat)} {i j : Nat} (h : DelR L i j R) (hj : j < L.length) (hr : validP L[j] = true) : DelR L (i + 1) (j + 1) (R.set i L[j]) := by
  have hi : i < R.length := by have := h.1; have := h.2.1; omega
  refine ⟨by rw [List.length_set]; exact h.1, by have := h.2.1; omega, ?_, ?_⟩
  · rw [(listR_split L[j] hi).1, h.2.2.1, List.take_add_one, List.filter_append, List.getElem?_eq_getElem hj]
    simp [hr]
  · rw [List.drop_set_of_lt (by have := h.2.1; omega), delR_next h hj]
theorem delR_skip {L R : List (Nat × Nat)} {i j : Nat} (h : DelR L i j R) (hj : j < L.length) (hr : validP L[j] = false) : DelR L i (j + 1) R := by
  refine ⟨h.1, by have := h.2.1; omega, ?_, delR_next h hj⟩
  rw [h.2.2.1, List.take_add_one, List.filter_append, List.getElem?_eq_getElem hj]
  simp [hr]
theorem delR_end {L R : List (Nat × Nat)} {i : Nat} (h : DelR L i L.length R) : R.take i = L.filter validP := by
  have := h.2.2.1
  rwa [List.take_length] at this

/-- clear of ranges that stand in a row of the call's own. -/
theorem run_clear_range (w : World) (ty : TypeId) (g o n c : Nat) (hn : 0 < n) (ht : w.there g o (n * 2)) :
    (Builtin.clear_ #[22] ty #[.slice (some ⟨g, o, none⟩) n c]).run Try.prog w = .ok (.tuple #[]) (w.setCells g o (Builtin.zeroCells (rcells (0, 0)) n).toList) ∧ (Builtin.zeroCells (rcells (0, 0)) n).toList.length = n * 2 := by
  have hl : (Builtin.zeroCells (rcells (0, 0)) n).toList.length = n * 2 := by
    simp [Builtin.zeroCells, rcells_size zeroR_ok]
  have hv : ∀ w, (zeroValue 33).run Try.prog w = .ok (.agg (rcells (0, 0))) w := fun w => by kernel_rfl
  have hst := run_storeCells_cells (P := Try.prog) g o (Builtin.zeroCells (rcells (0, 0)) n).toList 0 w (fun j hj => (ht j (by rw [hl] at hj; exact hj)).1) (fun j hj => (ht j (by rw [hl] at hj; exact hj)).2) (fun v hv => by
    have hall := Array.all_eq_true_iff_forall_mem.1 (rcells_one (0, 0))
    obtain ⟨i, _, rfl⟩ := Array.mem_map.1 (Array.mem_toList_iff.1 hv)
    have hi : i % (rcells (0, 0)).size < (rcells (0, 0)).size := Nat.mod_lt _ (by rw [rcells_size zeroR_ok]; decide)
    rw [getElem!_pos (rcells (0, 0)) (i % (rcells (0, 0)).size) hi]
    exact hall _ (Array.getElem_mem hi))
  refine ⟨?_, hl⟩
  simp only [Nat.add_zero] at hst
  obtain ⟨m, rfl⟩ : ∃ m, n = m + 1 := ⟨n - 1, by omega⟩
  simp [Builtin.clear_, run_underlying Try.underlying22, hv, hst, Value.cells]
theorem storeMidR_at {ops : Array Oper} {rest : List Oper} {a : Act} {w : World} {Q : Exit → Act → World → Prop} {t' : TypeId} {pos : String} {aft : Array Edge} (k j : Nat) (g o : Nat) (s : Nat × Nat) (hx : a.eval (.tmp k) = .pointer (some ⟨g, o, none⟩)) (hy : a.eval (.tmp j) = .agg (rcells s)) (ht : w.there g o (rcells s).size)
    (h : wpList Try.prog ops Q rest a (w.setCells g o (rcL s))) :
    wpList Try.prog ops Q ({ dst := none, op := .store 33 (.tmp k) (.tmp j), type := t', pos := pos, after := aft, guard := none } :: rest) a w :=
  wpList_store_mid rfl 33 (.tmp k) (.tmp j) rfl g o (rcells s) hx hy ht (by kernel_rfl) (rcells_one s) h

set_option maxHeartbeats 2000000 in
set_option maxRecDepth 10000 in
theorem deleteR_any (W0 w : World) (V : Value) (L : List (Nat × Nat)) (ho : RgOut W0 w V L) (hl : L.length ≤ 90000) :
    Calls Try.prog 20 #[V, .func (.func 22) #[] #[]] w (GivesInR W0 (L.filter validP)) := by
  obtain ⟨a, c, rfl, hr, hA⟩ := ho.row
  have CI := Lib.hid (indexDel_any a L.length c L w hr hl)
  have HO := Lib.hid ho
  by_cases hall : (L.takeWhile validP).length = L.length
  · have ix : idxQ validP L = -1 := by unfold idxQ; rw [if_pos hall]
    rw [ix] at CI
    have FL := Lib.hid (allR_right hall)
    clear ho hr hA ix hall
    go_enter Try.func20, Try.ntmps20
    go_wp2_with (go_at_call 26; refine CI.out.mono ?_; rintro r w2 ⟨rfl, hb2⟩; have O2 := Lib.hid (HO.out.below hb2); clear hb2)
    go_ret
    exact ⟨_, rfl, by rw [FL.out]; exact O2.out⟩
  · obtain ⟨hk, hst⟩ := delR_start hall
    have ix : idxQ validP L = ((L.takeWhile validP).length : Int) := by unfold idxQ; rw [if_neg hall]
    rw [ix] at CI
    have form := ho.form
    obtain ⟨g, cap, hV, hg0, hg1, hcap⟩ : ∃ g cap, Value.slice a L.length c = .slice (some ⟨g, 0, none⟩) L.length cap ∧ W0.heap.size ≤ g ∧ g < w.heap.size ∧ L.length ≤ cap := by
      rcases form with ⟨_, h0⟩ | h
      · rw [h0] at hk
        exact absurd hk (by simp)
      · exact h
    injection hV with e1 _ e2
    subst e1 e2
    have DS := Lib.hid hst
    have HK := Lib.hid hk
    generalize (L.takeWhile validP).length = k at *
    clear ho hr hA ix hall form hst
    obtain ⟨n, hn⟩ : ∃ n, L.length = n := ⟨_, rfl⟩
    have HN := Lib.hid hn
    rw [hn] at CI HO hk hl hcap ⊢
    clear hn
    have kI : IntKind.i64.wrap ((k : Int) + 1) = (k : Int) + 1 := IntWalk.i64_in _ (by omega)
    go_enter Try.func20, Try.ntmps20
    have k1 : ((k : Int) == -1) = false := by simp
    go_wp2_with (go_at_call 26; refine CI.out.mono ?_; rintro r w2 ⟨rfl, hb2⟩; have O2 := Lib.hid (HO.out.below hb2); clear hb2)
    clear HO CI
    go_loopw [5, 6] (fun iV jV wr => ∃ (i j : Nat) (R : List (Nat × Nat)), iV = .int .i64 (i : Int) ∧ jV = .int .i64 (j : Int) ∧ j ≤ n ∧ DelR L i j R ∧ RgOut W0 wr (.slice (some ⟨g, 0, none⟩) n c) R) (fun _ jV _ => ((n : Int) - intOf jV).toNat)
    case atStart => exact ⟨k, k + 1, L, rfl, by go_num, by omega, DS.out, O2.out⟩
    case round =>
      obtain ⟨i, j, R, rfl, rfl, hj, hd, ho⟩ := hrel
      have D5 := Lib.hid hd
      have O5 := Lib.hid ho
      have RL : Hid (R.length = n) := Lib.hid (by rw [hd.1]; exact HN.out)
      have hij := hd.2.1
      clear hd ho DS O2
      by_cases hlt : j < n
      · have t0 : decide ((j : Int) < (n : Int)) = true := decide_eq_true (by omega)
        have t0' : decide (j < n) = true := decide_eq_true hlt
        have hjL : j < L.length := by rw [HN.out]; exact hlt
        have hjR : j < R.length := by rw [RL.out]; exact hlt
        obtain ⟨a', c', hV, hrow, _⟩ := O5.out.row
        injection hV with e1 e2 e3
        subst e1
        have ra := hrow.range j hjR
        rw [delR_at D5.out hjL] at ra
        rw [Nat.zero_add] at ra
        have RG := Lib.hid ra
        have s6 := O5.out.2.2 _ (List.getElem_mem hjR)
        rw [delR_at D5.out hjL] at s6
        have C1 := Lib.hid (fun W => wrongR_any L[j] W)
        have NK := Lib.hid (fun h => delR_keep D5.out hjL h)
        have NS := Lib.hid (fun h => delR_skip D5.out hjL h)
        have ST := Lib.hid (fun (W : World) (h : RgOut W0 W (.slice (some ⟨g, 0, none⟩) n c) R) => h.set RL.out.symm hg0 i (by rw [RL.out]; omega) s6)
        have TH := Lib.hid (fun (W : World) (h : RgOut W0 W (.slice (some ⟨g, 0, none⟩) n c) R) => h.there RL.out.symm (i * 2) (rcells L[j]).size (by rw [rcells_size s6]; omega))
        have BX := Lib.hid (rbox wr L[j])
        have OX := Lib.hid (O5.out.below (boxR_below wr (.cells (rcells L[j]) 33)))
        have i0 : (0 : Int) ≤ (j : Int) := by omega
        have i1 : (j : Int) < (n : Int) := by omega
        have i2 : (0 : Int) ≤ (i : Int) := by omega
        have i3 : (i : Int) < (n : Int) := by omega
        have iI : IntKind.i64.wrap ((i : Int) + 1) = (i : Int) + 1 := IntWalk.i64_in _ (by omega)
        have jI : IntKind.i64.wrap ((j : Int) + 1) = (j : Int) + 1 := IntWalk.i64_in _ (by omega)
        clear s6 hrow ra e2 e3 HN RL
        generalize L[j] = s at *
        clear D5
        go_upto_region 8 with (first
          | ((with_reducible refine load_range_at 24 g (j * 2) s ?_ RG.out ?_); (· rfl))
          | (with_reducible refine allocR_at ?_)
          | ((with_reducible refine storeR_at 7 25 wr s ?_ ?_ ?_ ?_); (· rfl); (· rfl); (· rfl)))
        clear O5 RG
        generalize wr.alloc (.cells (rcells s) 33) = w3 at *
        generalize wr.heap.size = gb at *
        generalize hq : validP s = q at *
        clear hq
        cases q with
        | true =>
          have N7 := Lib.hid (NK.out rfl)
          clear NK NS
          go_wp2_with (first
            | ((with_reducible refine wholeR_at 7 gb s ?_ BX.out ?_); (· rfl))
            | (go_at_call 22
               refine (C1.out _).mono ?_
               rintro r w6 ⟨rfl, hb6⟩
               have O6 := Lib.hid (OX.out.below hb6)
               replace BX := Lib.hid (BX.out.below hb6 BX.out.lt)
               have T6 := Lib.hid (TH.out _ O6.out)
               have S6 := Lib.hid (ST.out _ O6.out)
               clear hb6)
            | ((with_reducible refine storeMidR_at 33 32 g (i * 2) s ?_ ?_ T6.out ?_); (· rfl); (· rfl)))
          go_roundw
          case rel => exact ⟨i + 1, j + 1, _, by go_num, by go_num, by omega, N7.out, S6.out⟩
          case measure => simp only [intOf]; omega
        | false =>
          have N7 := Lib.hid (NS.out rfl)
          clear NK NS
          go_wp2_with (first
            | ((with_reducible refine wholeR_at 7 gb s ?_ BX.out ?_); (· rfl))
            | (go_at_call 22
               refine (C1.out _).mono ?_
               rintro r w6 ⟨rfl, hb6⟩
               have O6 := Lib.hid (OX.out.below hb6)
               clear hb6))
          go_roundw
          case rel => exact ⟨i, j + 1, R, rfl, by go_num, by omega, N7.out, O6.out⟩
          case measure => simp only [intOf]; omega
      · obtain rfl : j = n := by omega
        have t0 : decide ((j : Int) < (j : Int)) = false := decide_eq_false (by omega)
        have t0' : decide (j < j) = false := decide_eq_false (by omega)
        have e0 := O5.out
        have e2 := (run_clear_range wr 0 g (i * 2) (j - i) (c - i) (by omega) (e0.there RL.out.symm _ _ (by omega))).2
        have hcl : ∀ ty, (Builtin.clear_ #[22] ty #[.slice (some ⟨g, i * 2, none⟩) (j - i) (c - i)]).run Try.prog wr = .ok (.tuple #[]) (wr.setCells g (i * 2) (Builtin.zeroCells (rcells (0, 0)) (j - i)).toList) := fun ty => (run_clear_range wr ty g (i * 2) (j - i) (c - i) (by omega) (e0.there RL.out.symm _ _ (by omega))).1
        have O7 := Lib.hid (e0.clear RL.out.symm hg0 i (by rw [RL.out]; omega) _ (by rw [RL.out]; exact e2))
        have DE := Lib.hid (delR_end (show DelR L i L.length R by rw [HN.out]; exact D5.out))
        rw [DE.out] at O7
        have i0 : (0 : Int) ≤ (i : Int) := by omega
        have i1 : (i : Int) ≤ (j : Int) := by omega
        have i2 : (j : Int) ≤ (c : Int) := by omega
        have i3 : (i : Int) ≤ (c : Int) := by omega
        clear e0 e2 O5 D5 HN RL DE
        generalize wr.setCells g (i * 2) (Builtin.zeroCells (rcells (0, 0)) (j - i)).toList = w7 at *
        go_wp2_with fail
        go_ret
        exact ⟨_, rfl, O7.out⟩

/-- The ranges of a list that have numbers, by their first ones, in memory of the call's own. -/
def GivesSortedR (L : List (Nat × Nat)) (w : World) (e : Ending) (w' : World) : Prop := ∃ V L', e = .returned V ∧ RgOut w w' V L' ∧ L'.Perm (L.filter validP) ∧ L'.Pairwise (fun a b => a.1 ≤ b.1)
def PkSorted : Prop := ∀ (a : Option Addr) (n c : Nat) (L : List (Nat × Nat)) (W : World), RgArg W a n c L → n ≤ 90000 → Calls Try.prog 17 #[.slice a n c] W (GivesSortedR L W)

end Go.Proofs.Ytppdnejkbdnlcaa
