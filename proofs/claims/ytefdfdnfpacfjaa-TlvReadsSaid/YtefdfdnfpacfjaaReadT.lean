/-
  What the reference's Read answers, for stage 4 (tlv).
-/
import Derived.Test.YtefdfdnfpacfjaaElemIn
namespace Go.Proofs.Ytefdfdnfpacfjaa
open Go.RowKit
set_option linter.unusedVariables false

theorem elem_any : ∀ (N : Nat) (a : Option Addr) (n ca k deep : Nat) (zs : List Int) (w : World), Row w a n zs → n ≤ ca → n ≤ 30000 → k ≤ n → deep ≤ 32 → n - k < N →
    Calls Try.prog 19 #[.slice a n ca, .int .i64 (k : Int), .int .i64 (n : Int), .int .i64 (deep : Int)] w (GivesElem deep zs k n w) := by
  intro N
  induction N with
  | zero => intro a n ca k deep zs w _ _ _ _ _ h; omega
  | succ N ih =>
    intro a n ca k deep zs w hr hnc hn hk hd hN
    cases hh : headL (zs.drop k) with
    | error z => exact elem_err a n ca k deep zs w hr hnc hn hk hd hh
    | ok p =>
      obtain ⟨h, m⟩ := p
      by_cases hs : n < k + h + m
      · exact elem_short a n ca k deep zs w hr hnc hn hk hd hh hs
      by_cases hdp : 32 ≤ deep
      · exact elem_deep a n ca k deep zs w hr hnc hn hk hd hh hs hdp
      cases hw : withinB (zs[k]?.getD 0)
      · exact elem_leaf a n ca k deep zs w hr hnc hn hk hd hh hs hdp hw
      · exact elem_in N ih a n ca k deep zs w hr hnc hn hk hd hN hh hs hdp hw

def GivesRead (x : Except Int T) (w : World) (e : Ending) (w' : World) : Prop :=
  Below w.heap.size w w' ∧
  ((∃ z : Int, x = .error z ∧ e = .returned (.tuple #[.agg #[.int .i64 0, .slice none 0 0, .slice none 0 0], .int .i64 z])) ∨
   (∃ (t : T) (v : Value), x = .ok t ∧ e = .returned (.tuple #[v, .int .i64 0]) ∧ t.InP (w.heap.size ≤ ·) w' v))
theorem results_node {P : Program} {fn : Func} {p u : Tmp} {ty : TypeId} (h : fn.results = #[.cell p ty, .tmp u]) (tmps : Array Value) (w : World) (g : Nat) (t : TypeId) (cs : Array Value) (fr : Nat × Nat) (d : TypeDesc)
    (hp : tmps.getD p undef = .pointer (some ⟨g, 0, none⟩)) (hg : w.heap[g]? = some (.cells cs t fr))
    (hu : P.underlying ty = some d) (hd : (match d with | .struct _ | .array _ _ => true | _ => false) = true) (hi : (P.info? ty).map (·.size) = some cs.size) :
    (results fn tmps).run P w = .ok (.tuple #[.agg cs, tmps.getD u undef]) w := by
  rw [results_cell_tmp h, hp]
  simp [asAddr, run_loadVar_row w g t ty cs fr d hg hu hd hi, Result.andThen]
theorem read_large {l : List Int} (h : 20000 < l.length) : readZ l = .error 5 := if_pos h
theorem read_bad {l : List Int} {z : Int} (h : ¬ 20000 < l.length) (e : elemC 0 l = .error z) : readZ l = .error z := by rw [readZ, if_neg h, e]
theorem read_rest {l r : List Int} {t : T} (h : ¬ 20000 < l.length) (e : elemC 0 l = .ok (t, r)) (hr : r ≠ []) : readZ l = .error 2 := by
  rw [readZ, if_neg h, e]
  exact if_neg hr
theorem read_ok {l r : List Int} {t : T} (h : ¬ 20000 < l.length) (e : elemC 0 l = .ok (t, r)) (hr : r = []) : readZ l = .ok t := by
  rw [readZ, if_neg h, e]
  exact if_pos hr
/-- The element that was read, laid in the result's box. -/
def laidW (w W : World) (a b c : Value) : World := ((W.setCell ⟨w.heap.size, 0, none⟩ a).setCell ⟨w.heap.size, 1, none⟩ b).setCell ⟨w.heap.size, 2, none⟩ c
theorem laid_blk {w W : World} {x y z : Value} (h : Blk W w.heap.size 26 #[x, y, z]) (a b c : Value) : Blk (laidW w W a b c) w.heap.size 26 #[a, b, c] :=
  ((h.set 0 a).set 1 b).set 2 c
theorem laid_below {w W : World} (h : Below w.heap.size w W) (a b c : Value) : Below w.heap.size w (laidW w W a b c) := ((h.setCell (Nat.le_refl _) _).setCell (Nat.le_refl _) _).setCell (Nat.le_refl _) _
theorem laid_in {w W : World} {t : T} {v : Value} (h : t.InP (w.heap.size + 1 ≤ ·) W v) (a b c : Value) : t.InP (w.heap.size ≤ ·) (laidW w W a b c) v :=
  T.InP.keep (fun x _ hp => ⟨by have hp' : w.heap.size + 1 ≤ x := hp; show w.heap.size ≤ x; omega, by
    have hp' : w.heap.size + 1 ≤ x := hp
    have hx : x ≠ w.heap.size := by omega
    unfold laidW
    rw [heap_setCell_other _ ⟨w.heap.size, 2, none⟩ x c hx, heap_setCell_other _ ⟨w.heap.size, 1, none⟩ x b hx, heap_setCell_other _ ⟨w.heap.size, 0, none⟩ x a hx]⟩) (by simp [laidW]) _ h

set_option maxHeartbeats 2000000 in
theorem rread_any (a : Option Addr) (n ca : Nat) (zs : List Int) (w : World) (hr : Row w a n zs) (hnc : n ≤ ca) (hn : n ≤ 30000) : Calls Try.prog 11 #[.slice a n ca] w (GivesRead (readZ zs) w) := by
  have hlen := hr.1
  have B0 : Hid (Below w.heap.size w (w.alloc (.cells #[.int .i64 0, .slice none 0 0, .slice none 0 0] 26))) := (Below.refl _ _).alloc (Nat.le_refl _) _
  have K0 := Lib.hid (Blk.new w 26 #[.int .i64 0, .slice none 0 0, .slice none 0 0])
  by_cases h5 : 20000 < n
  · have F := Lib.hid (read_large (l := zs) (by omega))
    clear hlen
    go_enter Try.func11, Try.ntmps11
    go_wp2_with fail
    exact bodyPost_ret (results_node rfl _ _ w.heap.size 26 #[.int .i64 0, .slice none 0 0, .slice none 0 0] (0, 0) _ rfl K0.out Try.underlying26 rfl Try.sizeNode) rfl ⟨B0.out, .inl ⟨5, F.out, rfl⟩⟩
  have N5 : Hid (¬ 20000 < zs.length) := by rw [hlen]; exact Lib.hid h5
  have R0 := Lib.hid (hr.below (w' := w.alloc (.cells #[.int .i64 0, .slice none 0 0, .slice none 0 0] 26)) ((Below.refl _ _).alloc (Nat.le_refl _) _))
  have CI : Hid (∀ (ki ei di : Int), ki = ((0 : Nat) : Int) → ei = (n : Int) → di = ((0 : Nat) : Int) →
      Calls Try.prog 19 #[.slice a n ca, .int .i64 ki, .int .i64 ei, .int .i64 di] (w.alloc (.cells #[.int .i64 0, .slice none 0 0, .slice none 0 0] 26)) (GivesElem 0 zs 0 n (w.alloc (.cells #[.int .i64 0, .slice none 0 0, .slice none 0 0] 26)))) := by
    intro ki ei di h1 h2 h3
    subst h1
    subst h2
    subst h3
    exact elem_any (n + 1) a n ca 0 0 zs _ R0.out hnc hn (Nat.zero_le _) (by omega) (by omega)
  have HL := Lib.hid hlen
  clear hlen
  go_enter Try.func11, Try.ntmps11
  go_wp2_with fail
  refine (CI.out _ _ _ (by omega) (by omega) (by omega)).mono ?_
  rintro e w2 ⟨hb2, hways⟩
  have B2 := Lib.hid (Below.step B0.out hb2)
  have K2 := Lib.hid (K0.out.below hb2 (by simp))
  rcases hways with ⟨z, hz, rfl⟩ | ⟨t, nx, v, ht, h1, h2, rfl, hin⟩
  · rw [List.drop_zero] at hz
    have zr := elemC_err hz
    have F := Lib.hid (read_bad N5.out hz)
    have t0 : (z != 0) = true := by simp; omega
    have K3 := Lib.hid (K2.out.alloc (.cells #[.int .i64 0, .slice none 0 0, .slice none 0 0] 26))
    have B3 : Hid (Below w.heap.size w (w2.alloc (.cells #[.int .i64 0, .slice none 0 0, .slice none 0 0] 26))) := Below.step B2.out ((Below.refl _ _).alloc (Nat.le_refl _) _)
    obtain ⟨p0, p1, p2, f0, f1, f2⟩ := K3.out.facts
    clear hz hb2 CI K2 B2 K0
    go_wp2_with fail
    exact bodyPost_ret (results_node rfl _ _ w.heap.size 26 #[.int .i64 0, .slice none 0 0, .slice none 0 0] (0, 0) _ rfl (laid_blk K3.out _ _ _) Try.underlying26 rfl Try.sizeNode) rfl ⟨laid_below B3.out _ _ _, .inl ⟨z, F.out, rfl⟩⟩
  · rw [List.drop_zero] at ht
    obtain ⟨A, n', c', K', m', d', rfl⟩ := hin.form
    have K3 := Lib.hid (K2.out.alloc (.cells #[.int .i64 t.tag, .slice A n' c', .slice K' m' d'] 26))
    have B3 : Hid (Below w.heap.size w (w2.alloc (.cells #[.int .i64 t.tag, .slice A n' c', .slice K' m' d'] 26))) := Below.step B2.out ((Below.refl _ _).alloc (Nat.le_refl _) _)
    have V3 : Hid (t.InP (w.heap.size + 1 ≤ ·) (w2.alloc (.cells #[.int .i64 t.tag, .slice A n' c', .slice K' m' d'] 26)) (.agg #[.int .i64 t.tag, .slice A n' c', .slice K' m' d'])) :=
      T.InP.below ((Below.refl _ _).alloc (Nat.le_refl _) _) (fun b hb => by simpa using hb) t hin
    obtain ⟨p0, p1, p2, f0, f1, f2⟩ := K3.out.facts
    by_cases hnx : nx < n
    · have F := Lib.hid (read_rest N5.out ht (drop_ne HL.out hnx))
      clear ht hin hb2 CI K2 B2 K0
      go_wp2_with fail
      exact bodyPost_ret (results_node rfl _ _ w.heap.size 26 #[.int .i64 0, .slice none 0 0, .slice none 0 0] (0, 0) _ rfl (laid_blk K3.out _ _ _) Try.underlying26 rfl Try.sizeNode) rfl ⟨laid_below B3.out _ _ _, .inl ⟨2, F.out, rfl⟩⟩
    · have F := Lib.hid (read_ok N5.out ht (List.drop_of_length_le (by rw [HL.out]; omega)))
      clear ht hin hb2 CI K2 B2 K0
      go_wp2_with fail
      exact bodyPost_ret (results_node rfl _ _ w.heap.size 26 #[.int .i64 t.tag, .slice A n' c', .slice K' m' d'] (0, 0) _ rfl (laid_blk K3.out _ _ _) Try.underlying26 rfl Try.sizeNode) rfl ⟨laid_below B3.out _ _ _, .inr ⟨t, _, F.out, rfl, laid_in V3.out _ _ _⟩⟩

end Go.Proofs.Ytefdfdnfpacfjaa
