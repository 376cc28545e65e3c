/-
  What clock.Date answers, for stage 3 (clock).
-/
import Derived.Test.YtebefamnmmbdnaaDays
import Derived.Laws.ResultCell
namespace Go.Proofs.Ytebefamnmmbdnaa
open Go.RowKit

def D6.cells (a : D6) : Array Value := d6c a.y a.m a.d a.h a.i a.s
def zeroD : D6 := ⟨0, 0, 0, 0, 0, 0⟩
/-- What Date answers: the date and true, or zeros and false. -/
def DateR (s : Int) (a : D6) (ok : Bool) : Prop := (ok = true ∧ IsDate s a) ∨ (ok = false ∧ a = zeroD ∧ (s < -631152000 ∨ 7258118399 < s))
def GivesDate (w : World) (s : Int) (e : Ending) (w' : World) : Prop := ∃ a ok, DateR s a ok ∧ e = .returned (.tuple #[.agg a.cells, .bool ok]) ∧ Below w.heap.size w w'

theorem DateR.eq {s : Int} {a b : D6} {p q : Bool} (h : DateR s a p) (k : DateR s b q) : a = b ∧ p = q := by
  rcases h with ⟨rfl, h⟩ | ⟨rfl, rfl, h⟩ <;> rcases k with ⟨rfl, k⟩ | ⟨rfl, rfl, k⟩
  · exact ⟨h.eq k, rfl⟩
  · have := secs_rng h.1; rw [h.2] at this; omega
  · have := secs_rng k.1; rw [k.2] at this; omega
  · exact ⟨rfl, rfl⟩

theorem date_of_day {n t s y m d : Int} (h : IsDay n y m d) (h0 : 0 ≤ t) (h1 : t < 86400) (hs : s = (n - 7305) * 86400 + t) : IsDate s ⟨y, m, d, t / 3600, t % 3600 / 60, t % 60⟩ := by
  obtain ⟨a1, a2, a3, a4, a5, a6, a7⟩ := h
  refine ⟨⟨a1, a2, a3, a4, a5, a6, ?_⟩, ?_⟩
  · simp only; omega
  · unfold secs D6.days D6.clk
    simp only
    omega

/-- Two results: a whole array that lies in memory, and a value. -/
theorem results_row_tmp {P : Program} {fn : Func} {p u : Tmp} {ty : TypeId} (h : fn.results = #[.cell p ty, .tmp u]) (tmps : Array Value) (w : World) (g : Nat) (t : TypeId) (cs : Array Value) (fr : Nat × Nat) (d : TypeDesc)
    (hp : tmps.getD p undef = .pointer (some ⟨g, 0, none⟩)) (hg : w.heap[g]? = some (.cells cs t fr))
    (hu : P.underlying ty = some d) (hd : (match d with | .struct _ | .array _ _ => true | _ => false) = true) (hi : (P.info? ty).map (·.size) = some cs.size) :
    (results fn tmps).run P w = .ok (.tuple #[.agg cs, tmps.getD u undef]) w := by
  rw [results_cell_tmp h, hp]
  simp [asAddr, run_loadVar_row w g t ty cs fr d hg hu hd hi, Result.andThen]

set_option maxRecDepth 100000 in
set_option maxHeartbeats 2000000 in
theorem date_any (s : Int) (w : World) : Calls Try.prog 11 #[.int .i64 s] w (GivesDate w s) := by
  by_cases hlo : s < -631152000
  · have t1 : decide (s < -631152000) = true := by simpa using hlo
    go_enter Try.func11, Try.ntmps11
    go_wp2_with fail
    refine (dby_any 1950 _ (by omega) (by omega)).mono ?_
    rintro e w1 ⟨rfl, rfl⟩
    go_wp2_with fail
    refine (dby_any 1970 _ (by omega) (by omega)).mono ?_
    rintro e w1' ⟨rfl, hw⟩
    subst hw
    rw [dby_1950, dby_1970]
    go_wp2_with fail
    refine (dby_any 2200 _ (by omega) (by omega)).mono ?_
    rintro e w1' ⟨rfl, hw⟩
    subst hw
    go_wp2_with fail
    refine (dby_any 1970 _ (by omega) (by omega)).mono ?_
    rintro e w1' ⟨rfl, hw⟩
    subst hw
    rw [dby_2200, dby_1970]
    go_wp2
    exact bodyPost_ret (v := .tuple #[.agg zeroD.cells, .bool false]) (by simp [results, Try.results11, go_sem, D6.cells, d6c, zeroD]) rfl ⟨zeroD, false, .inr ⟨rfl, rfl, .inl hlo⟩, rfl, (Below.refl _ _).alloc (Nat.le_refl _) _⟩
  · have t1 : decide (s < -631152000) = false := by simpa using hlo
    by_cases hhi : 7258118399 < s
    · have t2 : decide (7258118400 ≤ s) = true := by simp; omega
      go_enter Try.func11, Try.ntmps11
      go_wp2_with fail
      refine (dby_any 1950 _ (by omega) (by omega)).mono ?_
      rintro e w1 ⟨rfl, rfl⟩
      go_wp2_with fail
      refine (dby_any 1970 _ (by omega) (by omega)).mono ?_
      rintro e w1' ⟨rfl, hw⟩
      subst hw
      rw [dby_1950, dby_1970]
      go_wp2_with fail
      refine (dby_any 2200 _ (by omega) (by omega)).mono ?_
      rintro e w1' ⟨rfl, hw⟩
      subst hw
      go_wp2_with fail
      refine (dby_any 1970 _ (by omega) (by omega)).mono ?_
      rintro e w1' ⟨rfl, hw⟩
      subst hw
      rw [dby_2200, dby_1970]
      go_wp2
      exact bodyPost_ret (v := .tuple #[.agg zeroD.cells, .bool false]) (by simp [results, Try.results11, go_sem, D6.cells, d6c, zeroD]) rfl ⟨zeroD, false, .inr ⟨rfl, rfl, .inr hhi⟩, rfl, (Below.refl _ _).alloc (Nat.le_refl _) _⟩
    · have t2 : decide (7258118400 ≤ s) = false := by simp; omega
      have hp0 : 0 ≤ s + 631152000 := by omega
      have hp1 : s + 631152000 < 7889270400 := by omega
      have K0 := Lib.hid (Blk.new w 22 (d6c 0 0 0 0 0 0))
      have KB := Lib.hid ((Below.refl w.heap.size w).alloc (Nat.le_refl _) (.cells (d6c 0 0 0 0 0 0) 22))
      simp only [d6c] at K0 KB
      go_enter Try.func11, Try.ntmps11
      go_wp2_with fail
      refine (dby_any 1950 _ (by omega) (by omega)).mono ?_
      rintro e w1 ⟨rfl, hw⟩
      subst hw
      go_wp2_with fail
      refine (dby_any 1970 _ (by omega) (by omega)).mono ?_
      rintro e w1' ⟨rfl, hw⟩
      subst hw
      rw [dby_1950, dby_1970]
      go_wp2_with fail
      refine (dby_any 2200 _ (by omega) (by omega)).mono ?_
      rintro e w1' ⟨rfl, hw⟩
      subst hw
      go_wp2_with fail
      refine (dby_any 1970 _ (by omega) (by omega)).mono ?_
      rintro e w1' ⟨rfl, hw⟩
      subst hw
      rw [dby_2200, dby_1970]
      go_wp2_with fail
      refine (days_any ((s + 631152000) / 86400) _ (by omega) (by omega)).mono ?_
      rintro e w2 ⟨y, m, d, rfl, hday, hb2⟩
      have ID := Lib.hid (date_of_day (t := (s + 631152000) % 86400) (s := s) hday (by omega) (by omega) (by omega))
      rw [show (s + 631152000) % 86400 % 3600 = (s + 631152000) % 3600 by omega, show (s + 631152000) % 86400 % 60 = (s + 631152000) % 60 by omega] at ID
      clear hday
      have K2 := Lib.hid ((K0.out.below hb2 (by simp)).alloc (.cells (d6c y m d ((s + 631152000) % 86400 / 3600) ((s + 631152000) % 3600 / 60) ((s + 631152000) % 60)) 22))
      have KC := Lib.hid ((Below.step KB.out hb2).alloc (Below.step KB.out hb2).size (.cells (d6c y m d ((s + 631152000) % 86400 / 3600) ((s + 631152000) % 3600 / 60) ((s + 631152000) % 60)) 22))
      clear hb2 K0 KB
      simp only [d6c] at K2 KC ⊢
      go_wp2_with (refine wpList_store_rowTo rfl 22 (.tmp 2) (.tmp 44) rfl rfl w.heap.size (d6c y m d ((s + 631152000) % 86400 / 3600) ((s + 631152000) % 3600 / 60) ((s + 631152000) % 60)) rfl rfl 22 (d6c 0 0 0 0 0 0) K2.out (Try.size22 ..) rfl (d6c_one ..) ?_)
      exact bodyPost_ret (results_row_tmp rfl _ _ w.heap.size 22 (d6c y m d ((s + 631152000) % 86400 / 3600) ((s + 631152000) % 3600 / 60) ((s + 631152000) % 60)) (0, 0) (.array 6 3) rfl (setRow_heap _ _ _ _ 22 _ K2.out) Try.underlying22 rfl (Try.size22 ..)) rfl ⟨_, true, .inl ⟨rfl, ID.out⟩, rfl, below_setRow KC.out (Nat.le_refl _) _⟩

end Go.Proofs.Ytebefamnmmbdnaa
