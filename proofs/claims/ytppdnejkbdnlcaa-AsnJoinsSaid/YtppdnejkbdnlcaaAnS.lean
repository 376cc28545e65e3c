/-
  The reference's Same; ranges compared, for stage 12 (asn).
-/
import Derived.Test.YtppdnejkbdnlcaaAnH
import Derived.Test.YtppdnejkbdnlcaaOrd
import Derived.Deep.MidRow
import Derived.Deep.Cut
import Derived.Deep.DeepCutAuto
import Derived.Deep.CutRange
namespace Go.Proofs.Ytppdnejkbdnlcaa
open Go.RowKit
set_option linter.unusedVariables false

def eqR (s t : Nat × Nat) : Bool := decide (s.1 = t.1 ∧ s.2 = t.2)
theorem eqR_is {s t : Nat × Nat} : eqR s t = true ↔ s = t := by
  unfold eqR
  rw [decide_eq_true_iff]
  exact ⟨fun ⟨h1, h2⟩ => Prod.ext h1 h2, fun e => by rw [e]; exact ⟨rfl, rfl⟩⟩
theorem part_r0 (s : Nat × Nat) (w : World) : (part 23 (rcells s) 0).run Try.prog w = .ok (.int .u32 (s.1 : Int)) w := by
  unfold part
  simp [isAgg, run_underlying Try.underlying23, rcells, rcL]
theorem part_r1 (s : Nat × Nat) (w : World) : (part 23 (rcells s) 1).run Try.prog w = .ok (.int .u32 (s.2 : Int)) w := by
  unfold part
  simp [isAgg, run_underlying Try.underlying23, rcells, rcL]
theorem two_range (s t : Nat × Nat) (w : World) : (Op.equalIn 10000 33 (.agg (rcells s)) (.agg (rcells t))).run Try.prog w = .ok (eqR s t) w := by
  rw [run_equalIn_struct w 9999 33 _ _ (by simp only [Program.fieldsOf, Try.underlying33]) (by kernel_rfl)]
  simp only [Program.fieldsOf, Try.underlying33, Op.eqFields]
  have q1 := run_equalIn_int w 9998 23 .u32 .u32 (s.1 : Int) (t.1 : Int) Try.underlying23
  have q2 := run_equalIn_int w 9998 23 .u32 .u32 (s.2 : Int) (t.2 : Int) Try.underlying23
  simp only [ne_eq, Sem.run_bind, part_r0, part_r1, q1, q2, Result.andThen_ok, Sem.run_ite, Sem.run_pure]
  unfold eqR
  by_cases e1 : s.1 = t.1
  · by_cases e2 : s.2 = t.2
    · simp [e1, e2]
    · simp [e1, e2]
      omega
  · have : ((s.1 : Int) == (t.1 : Int)) = false := by
      rw [beq_eq_false_iff_ne]
      omega
    simp [e1]
    omega
theorem run_eql_range (s t : Nat × Nat) (w : World) : (binOp .eql 33 (.agg (rcells s)) (.agg (rcells t))).run Try.prog w = .ok (.bool (eqR s t)) w := by
  have e : (Op.equal 33 (.agg (rcells s)) (.agg (rcells t))).run Try.prog w = .ok (eqR s t) w := two_range s t w
  simp [binOp, go_sem, e]
theorem run_neq_range (s t : Nat × Nat) (w : World) : (binOp .neq 33 (.agg (rcells s)) (.agg (rcells t))).run Try.prog w = .ok (.bool (!eqR s t)) w := by
  have e : (Op.equal 33 (.agg (rcells s)) (.agg (rcells t))).run Try.prog w = .ok (eqR s t) w := two_range s t w
  simp [binOp, go_sem, e]
theorem run_guardR_eql (x y : Operand) (cs ds : Array Value) (w : World) : (eqGuard .eql 33 x y (.agg cs) (.agg ds)).run Try.prog w = .ok () w := by
  unfold eqGuard
  simp [Sem.run_bind, Sem.run_pure, go_sem, Result.andThen]
theorem run_guardR_neq (x y : Operand) (cs ds : Array Value) (w : World) : (eqGuard .neq 33 x y (.agg cs) (.agg ds)).run Try.prog w = .ok () w := by
  unfold eqGuard
  simp [Sem.run_bind, Sem.run_pure, go_sem, Result.andThen]
theorem yields_eqlR {o : Oper} {a : Act} {W : World} {s t : Nat × Nat} (x y : Operand) (ho : o.op = .binOp .eql 33 x y 33) (hx : a.eval x = .agg (rcells s)) (hy : a.eval y = .agg (rcells t)) : (execOp a.eval o).run Try.prog W = .ok (.value (.bool (eqR s t))) W := by
  unfold execOp
  simp [ho, hx, hy, run_guardR_eql, run_eql_range, Result.andThen]
theorem yields_neqR {o : Oper} {a : Act} {W : World} {s t : Nat × Nat} (x y : Operand) (ho : o.op = .binOp .neq 33 x y 33) (hx : a.eval x = .agg (rcells s)) (hy : a.eval y = .agg (rcells t)) : (execOp a.eval o).run Try.prog W = .ok (.value (.bool (!eqR s t))) W := by
  unfold execOp
  simp [ho, hx, hy, run_guardR_neq, run_neq_range, Result.andThen]
theorem yields_partR {P : Program} {o : Oper} {a : Act} {W : World} (ty : TypeId) (x : Operand) (ho : o.op = .load ty x) (b off : Nat) (cs : List Value) (d : TypeDesc) (hx : a.eval x = .pointer (some ⟨b, off, none⟩)) (hc : W.rangeAt b off cs)
    (hu : P.underlying ty = some d) (hd : d.isRow = true) (hi : (P.info? ty).map (·.size) = some cs.length) : (execOp a.eval o).run P W = .ok (.value (.agg cs.toArray)) W := by
  unfold execOp
  simp only [ho, hx, Instr.loadAt, Instr.sureAddr, Sem.run_bind, Sem.run_pure, Result.andThen_ok, run_loadVar_mid W b off ty cs d hc hu hd hi]

def eqLR (l m : List (Nat × Nat)) : Bool := decide (l = m)
theorem eqLR_self (l : List (Nat × Nat)) : eqLR l l = true := decide_eq_true rfl
theorem eqLR_step {l m : List (Nat × Nat)} {k : Nat} (hl : k < l.length) (hm : k < m.length) (ht : l.take k = m.take k) : (l[k] = m[k] → l.take (k + 1) = m.take (k + 1)) ∧ (l[k] ≠ m[k] → eqLR l m = false) := by
  refine ⟨fun e => ?_, fun e => decide_eq_false (fun h => e (by subst h; rfl))⟩
  rw [List.take_succ_eq_append_getElem hl, List.take_succ_eq_append_getElem hm, ht, e]

set_option maxHeartbeats 1000000 in
set_option maxRecDepth 10000 in
theorem rsame_any (a b : Option Addr) (n c m d : Nat) (L M : List (Nat × Nat)) (w : World) (hr : RgArg w a n c L) (hn : n ≤ 100000) (hs : RgArg w b m d M) :
    Calls Try.prog 8 #[.slice a n c, .slice b m d] w fun e w' => e = .returned (.bool (eqLR L M)) ∧ Below w.heap.size w w' := by
  have RL := Lib.hid hr.1
  have RM := Lib.hid hs.1
  have HL := Lib.hid hr.1.1
  have HM := Lib.hid hs.1.1
  have HN := Lib.hid hn
  clear hr hs hn
  have E0 : Hid (L.length ≠ M.length → eqLR L M = false) := Lib.hid (fun h => decide_eq_false (fun e => h (by rw [e])))
  have E1 : Hid (L = M → eqLR L M = true) := Lib.hid (fun e => decide_eq_true e)
  have ES := Lib.hid (fun k (hl : k < L.length) (hm : k < M.length) ht => eqLR_step hl hm ht)
  generalize eqLR L M = r0 at *
  go_enter Try.func8, Try.ntmps8
  by_cases hnm : n = m
  · subst hnm
    go_wp2_with fail
    go_loopw [5] (fun iV wr => ∃ k : Nat, iV = .int .i64 (k : Int) ∧ k ≤ n ∧ L.take k = M.take k ∧ Below w.heap.size w wr) (fun iV _ => ((n : Int) - intOf iV).toNat)
    case atStart => exact ⟨0, rfl, Nat.zero_le _, rfl, Below.refl _ _⟩
    case round =>
      obtain ⟨k, rfl, hk, he, hb⟩ := hrel
      have B5 := Lib.hid hb
      have E5 := Lib.hid he
      clear hb he
      by_cases hlt : k < n
      · have t0 : decide ((k : Int) < (n : Int)) = true := decide_eq_true (by omega)
        have t0' : decide (k < n) = true := decide_eq_true hlt
        obtain ⟨bA, oA, rfl, _⟩ := RL.out.form (by omega)
        obtain ⟨bB, oB, rfl, _⟩ := RM.out.form (by omega)
        have kl : k < L.length := by rw [HL.out]; exact hlt
        have km : k < M.length := by rw [HM.out]; exact hlt
        obtain ⟨e1, e2⟩ := ES.out k kl km E5.out
        have EY := Lib.hid e1
        have EN := Lib.hid e2
        have RG := Lib.hid (fun W (h : Below w.heap.size w W) => (RL.out.below h).range k kl)
        have SG := Lib.hid (fun W (h : Below w.heap.size w W) => (RM.out.below h).range k km)
        clear e1 e2 ES
        generalize L[k] = s at *
        generalize M[k] = t at *
        have LS : Hid ((Try.prog.info? 33).map (·.size) = some (rcL s).length) := Lib.hid (by kernel_rfl)
        have LT : Hid ((Try.prog.info? 33).map (·.size) = some (rcL t).length) := Lib.hid (by kernel_rfl)
        have i0 : (0 : Int) ≤ (k : Int) := by omega
        have i1 : (k : Int) < (n : Int) := by omega
        have kI : IntKind.i64.wrap ((k : Int) + 1) = (k : Int) + 1 := IntWalk.i64_in _ (by have := HN.out; omega)
        clear kl km
        go_upto_region 6 with fail
        have B6 : Hid (Below w.heap.size w wr.drew) := Lib.hid (Below.step B5.out (drewN_below wr 1))
        clear B5
        refine wp_region_ord Ext Ext.refl (fun _ _ _ => Ext.trans) ((0, false) :: (1, false) :: (2, false) :: (3, false) :: (4, false) :: (5, false) :: (6, false) :: (7, false) :: (8, false) :: []) (by kernel_rfl) (by kernel_rfl) rfl (by kernel_rfl) (fun _ _ _ _ _ h => h) ?_
        generalize wr.drew = w6 at *
        repeat (first
          | (refine ord_skip rfl (by rfl) ?_; simp only [Act.put, List.setIfInBounds_toArray, List.set_cons_zero, List.set_cons_succ])
          | (refine ord_take _ rfl (by rfl) (fun W hW => yields_neqR (.tmp 20) (.tmp 24) rfl rfl rfl) ?_; simp only [Act.put, List.setIfInBounds_toArray, List.set_cons_zero, List.set_cons_succ])
          | (refine ord_take (.agg (rcells s)) rfl (by rfl) (fun W hW => yields_partR 33 (.tmp 19) rfl bA (oA + k * 2) (rcL s) _ rfl (RG.out W (B6.out.trans (hW.mono B6.out.size))) Try.underlying33 rfl LS.out) ?_; simp only [Act.put, List.setIfInBounds_toArray, List.set_cons_zero, List.set_cons_succ])
          | (refine ord_take (.agg (rcells t)) rfl (by rfl) (fun W hW => yields_partR 33 (.tmp 23) rfl bB (oB + k * 2) (rcL t) _ rfl (SG.out W (B6.out.trans (hW.mono B6.out.size))) Try.underlying33 rfl LT.out) ?_; simp only [Act.put, List.setIfInBounds_toArray, List.set_cons_zero, List.set_cons_succ])
          | (refine ord_take _ rfl (by rfl) (fun W hW => by go_simp; first | done | rfl) ?_; simp only [Act.put, List.setIfInBounds_toArray, List.set_cons_zero, List.set_cons_succ]))
        refine ord_end ?_
        cases hq : eqR s t with
        | true =>
          have E6 := Lib.hid (EY.out (eqR_is.1 hq))
          go_wp2_with fail
          go_roundw
          case rel => exact ⟨k + 1, by go_num, by omega, E6.out, B6.out⟩
          case measure => simp only [intOf]; omega
        | false =>
          have e := EN.out (fun h => by rw [eqR_is.2 h] at hq; cases hq)
          subst e
          go_wp2_with fail
          go_ret
          exact ⟨rfl, B6.out⟩
      · have t0 : decide ((k : Int) < (n : Int)) = false := decide_eq_false (by omega)
        have t0' : decide (k < n) = false := decide_eq_false hlt
        have e := E5.out
        rw [List.take_of_length_le (by rw [HL.out]; omega), List.take_of_length_le (by rw [HM.out]; omega)] at e
        have e2 := E1.out e
        subst e2
        clear e
        go_wp2_with fail
        go_ret
        exact ⟨rfl, B5.out⟩
  · have e := E0.out (by rw [HL.out, HM.out]; exact hnm)
    subst e
    have t0 : ((n : Int) != (m : Int)) = true := by simp; omega
    go_wp2_with fail
    go_ret
    exact ⟨rfl, Below.refl _ _⟩

end Go.Proofs.Ytppdnejkbdnlcaa
