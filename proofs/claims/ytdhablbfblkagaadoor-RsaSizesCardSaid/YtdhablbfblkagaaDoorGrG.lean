/-
  Merged texts: MdC, MdF, MdG, MdH, MdI, MdJ, MdK.
-/
import Derived.Test.YtdhablbfblkagaaDoorGrF
import Derived.Test.YtdhablbfblkagaaDoorGrD
import Derived.Test.YtdhablbfblkagaaDoorGrE
import Derived.ChangeKeysEq
import Derived.ScopeJumps
import Derived.ArgAppend
import Derived.BigRegion
import Derived.Deep.OwnRows
namespace Go.Proofs.YtdhablbfblkagaaDoor
open Go.RowKit
set_option linter.unusedVariables false

/-- The row L' differs from L at most in the limbs i to i + k. -/
def Around (L L' : List Int) (i k : Nat) : Prop := L'.length = L.length ∧ Limbs L' ∧ L'.take i = L.take i ∧ ∀ j, i + k + 1 ≤ j → L'[j]?.getD 0 = L[j]?.getD 0
theorem Around.refl {L : List Int} (h : Limbs L) (i k : Nat) : Around L L i k := ⟨rfl, h, rfl, fun _ _ => rfl⟩
theorem Around.set {L L' : List Int} {i k j : Nat} {v : Int} (h : Around L L' i k) (hj : j ≤ k) (v0 : 0 ≤ v) (v1 : v ≤ 4294967295) : Around L (L'.set (i + j) v) i k := by
  refine ⟨by rw [List.length_set]; exact h.1, limbs_set h.2.1 _ v0 v1, ?_, fun m hm => ?_⟩
  · rw [List.take_set_of_le (by omega)]
    exact h.2.2.1
  · rw [List.getElem?_set_ne (by omega)]
    exact h.2.2.2 m hm
theorem Around.trans {L L' L'' : List Int} {i k : Nat} (h : Around L L' i k) (h2 : Around L' L'' i k) : Around L L'' i k :=
  ⟨h2.1.trans h.1, h2.2.1, h2.2.2.1.trans h.2.2.1, fun j hj => (h2.2.2.2 j hj).trans (h.2.2.2 j hj)⟩
theorem drop_set32 {L : List Int} {i j : Nat} (v : Int) (h : i + j < L.length) : valZ ((L.set (i + j) v).drop i) = valZ (L.drop i) + 4294967296 ^ j * (v - L[i + j]?.getD 0) := by
  rw [List.drop_set, if_neg (by omega), show i + j - i = j by omega, valZ_set _ _ _ (by rw [List.length_drop]; omega), List.getElem?_drop]
/-- Where nothing lies above, a part's number is that of all from there on. -/
theorem drop_lt {L : List Int} (hL : Limbs L) {i n : Nat} (hz : ∀ j, i + n ≤ j → L[j]?.getD 0 = 0) : 0 ≤ valZ (L.drop i) ∧ valZ (L.drop i) < 4294967296 ^ n ∧ valZ ((L.drop i).take n) = valZ (L.drop i) := by
  have e := valZ_parts (L.drop i) n
  have z : ∀ l : List Int, (∀ j : Nat, l[j]?.getD 0 = 0) → valZ l = 0 := by
    intro l
    induction l with
    | nil => intro _; rfl
    | cons x xs ih =>
      intro h
      have h0 := h 0
      rw [valZ, ih (fun j => by have := h (j + 1); rwa [List.getElem?_cons_succ] at this)]
      simp at h0
      omega
  have e2 : valZ ((L.drop i).drop n) = 0 := z _ (fun j => by rw [List.drop_drop, List.getElem?_drop]; exact hz _ (by omega))
  rw [e2, Int.mul_zero, Int.add_zero] at e
  have t := take_lt (hL.drop i) n
  rw [← e] at t
  exact ⟨t.1, t.2, e.symm⟩
theorem high_zero {L : List Int} (hL : Limbs L) {s k : Nat} (h : valZ (L.drop s) < 4294967296 ^ k) : ∀ j, s + k ≤ j → L[j]?.getD 0 = 0 := by
  intro j hj
  have e := valZ_parts (L.drop s) (j - s)
  rw [List.drop_drop, show s + (j - s) = j by omega, valZ_drop L j] at e
  have t := take_lt (hL.drop s) (j - s)
  have r := hL.at j
  have n := valZ_nonneg (hL.drop (j + 1))
  have p := pow_mono32 (show k ≤ j - s by omega)
  have p2 := pow_pos32 (j - s)
  generalize (4294967296 : Int) ^ (j - s) = P at *
  generalize valZ (L.drop (j + 1)) = V at *
  rcases (show L[j]?.getD 0 + 4294967296 * V = 0 ∨ 1 ≤ L[j]?.getD 0 + 4294967296 * V by omega) with h1 | h1
  · omega
  · have := Int.mul_le_mul_of_nonneg_left h1 (Int.le_of_lt p2)
    rw [Int.mul_one] at this
    omega

/-- The digit that the top limbs make is not too small. -/
theorem est_over {ps ys : List Int} {t : Nat} {a b c d e : Int} (hp : Limbs ps) (hy : Limbs ys) (lp : ps.length = t + 3) (ly : ys.length = t + 2) (ha : ps[t + 2]?.getD 0 = a) (hb : ps[t + 1]?.getD 0 = b) (hc : ps[t]?.getD 0 = c) (hd : ys[t + 1]?.getD 0 = d) (he : ys[t]?.getD 0 = e)
    (hn : d ≠ 0) (hlt : valZ ps < valZ ys * 4294967296) :
    0 ≤ valZ ps / valZ ys ∧ valZ ps / valZ ys ≤ 4294967295 ∧ (¬ (a = d ∧ b = e) → a < d * 4294967296 + e ∧ valZ ps / valZ ys ≤ (a * 18446744073709551616 + (b * 4294967296 + c)) / (d * 4294967296 + e) ∧ (a * 18446744073709551616 + (b * 4294967296 + c)) / (d * 4294967296 + e) ≤ 4294967295) := by
  have ra := hp.at (t + 2)
  have rb := hp.at (t + 1)
  have rc := hp.at t
  have rd := hy.at (t + 1)
  have re := hy.at t
  rw [ha] at ra
  rw [hb] at rb
  rw [hc] at rc
  rw [hd] at rd
  rw [he] at re
  have eP := valZ_parts ps t
  rw [valZ_drop ps t, valZ_drop ps (t + 1), valZ_drop ps (t + 1 + 1), show ps.drop (t + 1 + 1 + 1) = [] from List.drop_of_length_le (by omega), valZ, Int.mul_zero, Int.add_zero, hc, hb, show t + 1 + 1 = t + 2 from rfl, ha] at eP
  have eM := valZ_parts ys t
  rw [valZ_drop ys t, valZ_drop ys (t + 1), show ys.drop (t + 1 + 1) = [] from List.drop_of_length_le (by omega), valZ, Int.mul_zero, Int.add_zero, he, hd] at eM
  have tP := take_lt hp t
  have tM := take_lt hy t
  have p := pow_pos32 t
  have P0 := valZ_nonneg hp
  generalize valZ (ps.take t) = pl at *
  generalize valZ (ys.take t) = ml at *
  generalize (4294967296 : Int) ^ t = B at *
  generalize valZ ps = P at *
  generalize valZ ys = M at *
  obtain ⟨D, hD⟩ : ∃ D, d * 4294967296 + e = D := ⟨_, rfl⟩
  obtain ⟨T, hT⟩ : ∃ T, a * 18446744073709551616 + (b * 4294967296 + c) = T := ⟨_, rfl⟩
  rw [show c + 4294967296 * (b + 4294967296 * a) = T by omega] at eP
  rw [show e + 4294967296 * d = D by omega] at eM
  rw [hD, hT]
  have D0 : 4294967296 ≤ D := by omega
  have BD : B * 4294967296 ≤ B * D := Int.mul_le_mul_of_nonneg_left D0 (Int.le_of_lt p)
  have M0 : 0 < M := by omega
  have TD : T < (D + 1) * 4294967296 := by
    refine Int.lt_of_mul_lt_mul_left (a := B) ?_ (Int.le_of_lt p)
    rw [← Int.mul_assoc, Int.mul_add, Int.mul_one]
    omega
  have q0 : 0 ≤ P / M := Int.ediv_nonneg P0 (Int.le_of_lt M0)
  have q1 : P / M < 4294967296 := Int.ediv_lt_of_lt_mul M0 (by rw [Int.mul_comm]; exact hlt)
  refine ⟨q0, by omega, fun hne => ⟨by omega, ?_, ?_⟩⟩
  · refine Int.le_ediv_of_mul_le (by omega) ?_
    have e1 := Int.mul_ediv_add_emod P M
    have e2 := Int.emod_nonneg P (show M ≠ 0 by omega)
    generalize P / M = q at *
    have e3 : M * q = ml * q + B * (q * D) := by rw [eM, Int.add_mul, Int.mul_assoc, Int.mul_comm D q]
    have e4 : 0 ≤ ml * q := Int.mul_nonneg tM.1 q0
    have : q * D < T + 1 := by
      refine Int.lt_of_mul_lt_mul_left (a := B) ?_ (Int.le_of_lt p)
      rw [Int.mul_add, Int.mul_one]
      omega
    omega
  · have : T / D < 4294967296 := Int.ediv_lt_of_lt_mul (by omega) (by
      have : a * 4294967296 + b < D := by omega
      omega)
    omega

/-- A limb more of what is taken away. -/
theorem subm_step {L ys : List Int} {i j : Nat} {V x c o r q : Int} (hi : i + j < L.length) (h : valZ (L.drop i) = V - x * valZ (ys.take j) + 4294967296 ^ j * (c + o)) (hr : r + -1 * (4294967296 * q) = L[i + j]?.getD 0 + -1 * ((c + x * ys[j]?.getD 0) % 4294967296 + o)) :
    valZ ((L.set (i + j) r).drop i) = V - x * valZ (ys.take (j + 1)) + 4294967296 ^ (j + 1) * ((c + x * ys[j]?.getD 0) / 4294967296 + q) := by
  rw [drop_set32 r hi, h, valZ_take, Int.pow_succ]
  generalize (4294967296 : Int) ^ j = B at *
  generalize ys[j]?.getD 0 = y at *
  generalize L[i + j]?.getD 0 = z at *
  generalize valZ (ys.take j) = Y at *
  have e := Int.mul_ediv_add_emod (c + x * y) 4294967296
  have e2 : x * (Y + B * y) = x * Y + B * (x * y) := by rw [Int.mul_add, Int.mul_left_comm]
  rw [e2, Int.mul_assoc B]
  generalize (c + x * y) / 4294967296 = u at *
  generalize (c + x * y) % 4294967296 = v at *
  generalize x * y = T at *
  generalize x * Y = W at *
  have : B * (r - z) = B * (4294967296 * (u + q)) - B * T - B * (c + o) := by rw [← Int.mul_sub, ← Int.mul_sub]; congr 1; omega
  omega
theorem subm_end {L : List Int} {i k : Nat} {V x Y c o r q : Int} (hi : i + k < L.length) (h : valZ (L.drop i) = V - x * Y + 4294967296 ^ k * (c + o)) (hr : r + -1 * (4294967296 * q) = L[i + k]?.getD 0 + -1 * (c + o)) :
    valZ ((L.set (i + k) r).drop i) = V - x * Y + 4294967296 ^ (k + 1) * q := by
  rw [drop_set32 r hi, h, Int.pow_succ, Int.mul_assoc]
  generalize (4294967296 : Int) ^ k = B at *
  generalize L[i + k]?.getD 0 = z at *
  have : B * (r - z) = B * (4294967296 * q) - B * (c + o) := by rw [← Int.mul_sub]; congr 1; omega
  omega
theorem addm_step {L ys : List Int} {i j : Nat} {V c r q : Int} (hi : i + j < L.length) (h : valZ (L.drop i) = V + valZ (ys.take j) - 4294967296 ^ j * c) (hr : r + 1 * (4294967296 * q) = L[i + j]?.getD 0 + 1 * (ys[j]?.getD 0 + c)) :
    valZ ((L.set (i + j) r).drop i) = V + valZ (ys.take (j + 1)) - 4294967296 ^ (j + 1) * q := by
  rw [drop_set32 r hi, h, valZ_take, Int.pow_succ, Int.mul_assoc]
  generalize (4294967296 : Int) ^ j = B at *
  generalize ys[j]?.getD 0 = y at *
  generalize L[i + j]?.getD 0 = z at *
  have : B * (r - z) = B * y + B * c - B * (4294967296 * q) := by rw [← Int.mul_add, ← Int.mul_sub]; congr 1; omega
  omega
theorem addm_end {L : List Int} {i k : Nat} {V Y c r q : Int} (hi : i + k < L.length) (h : valZ (L.drop i) = V + Y - 4294967296 ^ k * c) (hr : r + 1 * (4294967296 * q) = L[i + k]?.getD 0 + 1 * (0 + c)) :
    valZ ((L.set (i + k) r).drop i) = V + Y - 4294967296 ^ (k + 1) * q := by
  rw [drop_set32 r hi, h, Int.pow_succ, Int.mul_assoc]
  generalize (4294967296 : Int) ^ k = B at *
  generalize L[i + k]?.getD 0 = z at *
  have : B * (r - z) = B * c - B * (4294967296 * q) := by rw [← Int.mul_sub]; congr 1; omega
  omega

/-- A digit on its way down: what is left of P, a power Z more where it is owed. -/
def Digit (P M Z d o D : Int) : Prop := D = P - d * M + Z * o ∧ P / M ≤ d ∧ 0 ≤ D ∧ D < Z ∧ 0 < M ∧ 0 ≤ P
theorem Digit.done {P M Z d D : Int} (h : Digit P M Z d 0 D) : d = P / M ∧ D = P % M := by
  obtain ⟨e, hq, D0, D1, M0, P0⟩ := h
  have e1 := Int.mul_ediv_add_emod P M
  have le : d ≤ P / M := Int.le_ediv_of_mul_le M0 (by omega)
  obtain rfl : d = P / M := by omega
  refine ⟨rfl, ?_⟩
  rw [Int.mul_comm] at e1
  omega
theorem Digit.less {P M Z d D : Int} (h : Digit P M Z d 1 D) : P / M ≤ d - 1 ∧ 1 ≤ d := by
  obtain ⟨e, hq, D0, D1, M0, P0⟩ := h
  have e1 := Int.mul_ediv_add_emod P M
  have e2 := Int.emod_nonneg P (show M ≠ 0 by omega)
  have e3 : 0 ≤ P / M := Int.ediv_nonneg P0 (Int.le_of_lt M0)
  have : P / M ≠ d := by
    intro hd
    rw [hd, Int.mul_comm] at e1
    omega
  omega
theorem Digit.next {P M Z d D D' c : Int} (h : Digit P M Z d 1 D) (e : D' = D + M - Z * c) (d0 : 0 ≤ D') (d1 : D' < Z) : Digit P M Z (d - 1) (1 - c) D' := by
  have l := h.less
  obtain ⟨e0, hq, D0, D1, M0, P0⟩ := h
  refine ⟨?_, l.1, d0, d1, M0, P0⟩
  rw [Int.sub_mul, Int.mul_sub]
  omega

theorem div_stepM {L : List Int} {i k : Nat} {M : Int} (hL : Limbs L) (h : valZ (L.drop (i + 1)) < M) (hM : M < 4294967296 ^ k) : 0 ≤ valZ (L.drop i) ∧ valZ (L.drop i) < M * 4294967296 ∧ (∀ j, i + k + 1 ≤ j → L[j]?.getD 0 = 0) := by
  have z := high_zero hL (s := i + 1) (k := k) (by omega)
  have r := hL.at i
  rw [valZ_drop L i]
  have n := valZ_nonneg (hL.drop (i + 1))
  exact ⟨by omega, by omega, fun j hj => z j (by omega)⟩
theorem div_round {L L' Q : List Int} {i : Nat} {A M P : Int} (ht : L'.take i = L.take i) (hP : valZ (L.drop i) = P) (hQ : Q[i]?.getD 0 = 0) (hi : i < Q.length) (h : A = valZ L + M * valZ Q) (h' : valZ (L'.drop i) = P % M) : A = valZ L' + M * valZ (Q.set i (P / M)) := by
  rw [valZ_set _ _ _ hi, hQ, Int.sub_zero, valZ_parts L' i, h', ht]
  rw [valZ_parts L i, hP] at h
  have e := Int.mul_ediv_add_emod P M
  generalize P / M = q at *
  generalize P % M = r at *
  rw [Int.mul_add, Int.mul_left_comm, h, ← e, Int.mul_add]
  omega
theorem div_top {L : List Int} {n k q : Nat} {M : Int} (hL : Limbs L) (hl : L.length = n + 1) (h0 : L[n]?.getD 0 = 0) (hq : (q : Int) = max ((n : Int) + 1 - k) 0) (hk : 1 ≤ k) (hM : 4294967296 ^ (k - 1) ≤ M) : valZ (L.drop q) < M := by
  have : q + k ≥ n + 1 := by omega
  refine Int.lt_of_lt_of_le ?_ hM
  refine (drop_lt hL (i := q) (n := k - 1) (fun j hj => ?_)).2.1
  rcases Nat.lt_or_ge j (n + 1) with hj2 | hj2
  · rw [show j = n by omega]
    exact h0
  · rw [List.getElem?_eq_none (by omega)]
    rfl
theorem div_end {L Q : List Int} {A M : Int} (hL : Limbs L) (h : A = valZ L + M * valZ Q) (hM : 0 < M) (hr : valZ (L.drop 0) < M) : valZ Q = A / M ∧ valZ L = A % M := by
  rw [List.drop_zero] at hr
  have := ediv_is hM (a := A) (q := valZ Q) (r := valZ L) (by rw [h, Int.mul_comm M, Int.add_comm]) (valZ_nonneg hL) hr
  exact ⟨this.1.symm, this.2.symm⟩
/-- By one limb. -/
theorem one_round {xs Q : List Int} {i : Nat} {m r : Int} (h : valZ (xs.drop (i + 1)) = m * valZ (Q.drop (i + 1)) + r) (hi : i < Q.length) (hm : 0 < m) (r1 : r < m) (r0 : 0 ≤ r) (hx : Limbs xs) (m1 : m ≤ 4294967295) :
    valZ (xs.drop i) = m * valZ ((Q.set i ((r * 4294967296 + xs[i]?.getD 0) / m)).drop i) + (r * 4294967296 + xs[i]?.getD 0) % m ∧ 0 ≤ (r * 4294967296 + xs[i]?.getD 0) % m ∧ (r * 4294967296 + xs[i]?.getD 0) % m < m ∧ 0 ≤ (r * 4294967296 + xs[i]?.getD 0) / m ∧ (r * 4294967296 + xs[i]?.getD 0) / m ≤ 4294967295 := by
  have xr := hx.at i
  have e := Int.mul_ediv_add_emod (r * 4294967296 + xs[i]?.getD 0) m
  have e0 := Int.emod_nonneg (r * 4294967296 + xs[i]?.getD 0) (show m ≠ 0 by omega)
  have e1 := Int.emod_lt_of_pos (r * 4294967296 + xs[i]?.getD 0) hm
  have q0 : 0 ≤ (r * 4294967296 + xs[i]?.getD 0) / m := Int.ediv_nonneg (by omega) (by omega)
  have q1 : (r * 4294967296 + xs[i]?.getD 0) / m < 4294967296 := Int.ediv_lt_of_lt_mul hm (by omega)
  refine ⟨?_, e0, e1, q0, by omega⟩
  rw [valZ_drop xs i, h, valZ_drop (Q.set i _) i, List.getElem?_set_self hi, List.drop_set, if_pos (by omega)]
  generalize (r * 4294967296 + xs[i]?.getD 0) / m = q at *
  show _ = m * (q + _) + _
  have e3 : m * (q + 4294967296 * valZ (Q.drop (i + 1))) = m * q + 4294967296 * (m * valZ (Q.drop (i + 1))) := by rw [Int.mul_add, Int.mul_left_comm m]
  rw [e3]
  generalize m * valZ (Q.drop (i + 1)) = T at *
  omega

theorem later32 {base b o : Nat} {w : World} {v : Value} (h : w.cell? ⟨b, o, none⟩ = some v) (hb : b < base) : ∀ W, Below base w.drew W → W.cell? ⟨b, o, none⟩ = some v := by
  intro W hW
  have h1 : W.cell? ⟨b, o, none⟩ = w.drew.cell? ⟨b, o, none⟩ := hW.cell (p := ⟨b, o, none⟩) hb
  exact h1.trans h
theorem both32 {B : Nat} {a b : World} (h : Below B a b) : Below B a.drew b.drew := ⟨h.os, h.tape, h.output, h.size, h.block⟩
theorem of_both32 {B : Nat} {a b : World} (h : Below B a.drew b) : Below B a b := ⟨h.os, h.tape, h.output, h.size, h.block⟩

/-- Every block but one is as it was. -/
def Only (g : Nat) (w w' : World) : Prop := w.heap.size ≤ w'.heap.size ∧ ∀ b, b < w.heap.size → b ≠ g → w'.heap[b]? = w.heap[b]?
theorem Only.refl (g : Nat) (w : World) : Only g w w := ⟨Nat.le_refl _, fun _ _ _ => rfl⟩
theorem Only.trans {g : Nat} {a b c : World} (h : Only g a b) (h2 : Only g b c) : Only g a c := ⟨Nat.le_trans h.1 h2.1, fun k hk hn => (h2.2 k (Nat.lt_of_lt_of_le hk h.1) hn).trans (h.2 k hk hn)⟩
theorem Only.set {g : Nat} {a b : World} (h : Only g a b) (j : Nat) (v : Value) : Only g a (b.setCell ⟨g, j, none⟩ v) := ⟨by simpa using h.1, fun k hk hn => (heap_setCell_other b ⟨g, j, none⟩ k v hn).trans (h.2 k hk hn)⟩
theorem Only.of_below {g : Nat} {a b : World} (h : Below a.heap.size a b) : Only g a b := ⟨h.size, fun k hk _ => h.block k hk⟩
theorem Out32.only {W0 w w' : World} {g g' n cap : Nat} {L : List Int} (h : Out32 W0 w (.slice (some ⟨g', 0, none⟩) n cap) L) (ho : Only g w w') (hne : g' ≠ g) (hb : Below W0.heap.size W0 w') : Out32 W0 w' (.slice (some ⟨g', 0, none⟩) n cap) L := by
  refine ⟨⟨h.1.1, ?_⟩, hb⟩
  rcases h.1.2 with ⟨e, _⟩ | ⟨b, cap, cur, e, h1, h2, h3⟩
  · cases e
  · injection e with e1 e2 e3
    injection e1 with e1
    injection e1 with e1
    subst e1
    subst e2 e3
    exact .inr ⟨g', _, cur, rfl, h1, (ho.2 g' (Array.getElem?_eq_some_iff.1 h2).1 hne).trans h2, h3⟩

end Go.Proofs.YtdhablbfblkagaaDoor

namespace Go.Proofs.YtdhablbfblkagaaDoor
open Go.RowKit
set_option linter.unusedVariables false

theorem yields_arr {P : Program} {o : Oper} {a : Act} {W : World} (ty : TypeId) (x : Operand) (ho : o.op = .load ty x) (g : Nat) (t : TypeId) (cs : Array Value) (d : TypeDesc) (hx : a.eval x = .pointer (some ⟨g, 0, none⟩)) (hg : Blk W g t cs)
    (hu : P.underlying ty = some d) (hd : (match d with | .struct _ | .array _ _ => true | _ => false) = true) (hi : (P.info? ty).map (·.size) = some cs.size) : (execOp a.eval o).run P W = .ok (.value (.agg cs)) W := by
  unfold execOp
  simp only [ho, hx, Instr.loadAt, Instr.sureAddr, Sem.run_bind, Sem.run_pure, Result.andThen_ok, run_loadVar_row W g t ty cs (0, 0) d hg hu hd hi]
/-- Two numbers in an array. -/
def two (a b : Int) : Array Value := #[.int .u32 a, .int .u32 b]
theorem two_one (a b : Int) : (two a b).all (·.oneCell') = true := by
  unfold two
  simp [Value.oneCell']
theorem Tryd.size2 : (Tryd.prog.info? 100).map (·.size) = some 2 := by kernel_rfl
theorem Tryd.info35s : (Tryd.prog.info? 23).isSome = true := by kernel_rfl
theorem Tryd.cells35 : Tryd.prog.cellsOf 23 = 1 := by kernel_rfl
theorem eq_two (a b c d : Int) (w : World) : (Op.equalIn 10000 100 (.agg (two a b)) (.agg (two c d))).run Tryd.prog w = .ok (a == c && b == d) w := by
  obtain ⟨i0, hi⟩ := Option.isSome_iff_exists.1 Tryd.info35s
  rw [run_equalIn_array w 9999 _ _ Tryd.underlying100 hi, Tryd.cells35]
  have q : ∀ (a b : Int) (w : World), (Op.equalIn 9999 23 (.int .u32 a) (.int .u32 b)).run Tryd.prog w = .ok (a == b) w := fun a b w => run_equalIn_int w 9998 23 .u32 .u32 a b Tryd.underlying23
  have p : ∀ (xs : Array Value) (j : Nat) (v : Int) (h : xs[j]? = some (.int .u32 v)) (w : World), (part 23 xs j).run Tryd.prog w = .ok (.int .u32 v) w := by
    intro xs j v h w
    simp [part, h, go_sem]
  show (Op.eqItems 9999 23 1 (two a b) (two c d) [0, 1]).run Tryd.prog w = _
  by_cases h1 : a = c
  · subst h1
    by_cases h2 : b = d
    · subst h2
      simp [Op.eqItems, Sem.run_bind, p (two a b) 0 a rfl, p (two a b) 1 b rfl, q]
    · simp [Op.eqItems, Sem.run_bind, p (two a b) 0 a rfl, p (two a b) 1 b rfl, p (two a d) 0 a rfl, p (two a d) 1 d rfl, q, h2]
  · simp [Op.eqItems, Sem.run_bind, p (two a b) 0 a rfl, p (two c d) 0 c rfl, q, h1]

set_option maxHeartbeats 2000000 in
set_option maxRecDepth 100000 in
theorem estimate_any (a b : Option Addr) (r n ca cb : Nat) (ps ys : List Int) (w : World) (hr : Row32 w a r ps) (hs : Row32 w b n ys) (hrn : r = n + 1) (h2 : 2 ≤ n) (hn : n ≤ 100000) (htop : ys[n - 1]?.getD 0 ≠ 0) (hlt : valZ ps < valZ ys * 4294967296) :
    Calls Tryd.prog 78 #[.slice a r ca, .slice b n cb] w fun e w' => ∃ d, e = .returned (.int .u32 d) ∧ valZ ps / valZ ys ≤ d ∧ 0 ≤ d ∧ d ≤ 4294967295 ∧ Below w.heap.size w w' := by
  obtain ⟨t, ht⟩ : ∃ t, n = t + 2 := ⟨n - 2, by omega⟩
  obtain ⟨p, hp⟩ : ∃ p, n = p + 1 := ⟨n - 1, by omega⟩
  rw [show n - 1 = t + 1 by omega] at htop
  obtain ⟨b1, o1, rfl, hb1, hc1⟩ := hr.2.2 (by omega)
  obtain ⟨b2, o2, rfl, hb2, hc2⟩ := hs.2.2 (by omega)
  have EO := est_over (t := t) hr.2.1 hs.2.1 (by rw [hr.1]; omega) (by rw [hs.1]; omega) rfl rfl rfl rfl rfl htop hlt
  have cA := later32 (hc1 n (by omega)) hb1
  have cB := later32 (hc1 p (by omega)) hb1
  have cC := later32 (hc1 t (by omega)) hb1
  have cD := hc2 p (by omega)
  have cE := hc2 t (by omega)
  have C0 := Lib.hid (hc1 t (by omega))
  have rA := hr.num n
  have rB := hr.num p
  have rC := hr.num t
  have rD := hs.num p
  have rE := hs.num t
  rw [show t + 2 = n by omega, show t + 1 = p by omega] at EO
  generalize ps[n]?.getD 0 = xa at *
  generalize ps[p]?.getD 0 = xb at *
  generalize ps[t]?.getD 0 = xc at *
  generalize ys[p]?.getD 0 = xd at *
  generalize ys[t]?.getD 0 = xe at *
  obtain ⟨q0, q1, EN⟩ := EO
  have HEN := Lib.hid EN
  have HD := Lib.hid cD
  have HE := Lib.hid cE
  have w1 : IntKind.i64.wrap ((n : Int) - 1) = (p : Int) := by rw [show (n : Int) - 1 = (p : Int) by omega]; exact IntWalk.i64_in _ (by omega)
  have w2 : IntKind.i64.wrap ((p : Int) + 1) = (n : Int) := by rw [show (p : Int) + 1 = (n : Int) by omega]; exact IntWalk.i64_in _ (by omega)
  have w3 : IntKind.i64.wrap ((p : Int) - 1) = (t : Int) := by rw [show (p : Int) - 1 = (t : Int) by omega]; exact IntWalk.i64_in _ (by omega)
  have i1 : (n : Int) < (r : Int) := by omega
  have i2 : (p : Int) < (r : Int) := by omega
  have i3 : (t : Int) < (r : Int) := by omega
  have i4 : (p : Int) < (n : Int) := by omega
  have i5 : (t : Int) < (n : Int) := by omega
  generalize valZ ps / valZ ys = Q at *
  clear hr hs hc1 hc2 hlt EN cD cE hrn ht hp
  go_enter Tryd.func78, Tryd.ntmps78
  go_wp2_with fail
  refine wp_region_ord (Below w.heap.size) (Below.refl _) (fun _ _ _ => Below.trans) [(0, false), (1, false), (2, false), (3, false), (4, false), (5, false), (6, false), (7, false), (8, false), (9, false), (10, true), (11, true)] (by kernel_rfl) (by kernel_rfl) rfl (by kernel_rfl) (fun _ _ _ _ _ h => h) ?_
  repeat (refine ord_take _ rfl (by rfl) (fun W hW => by go_simp; first | done | rfl) ?_; simp only [Act.put, List.setIfInBounds_toArray, List.set_cons_zero, List.set_cons_succ])
  refine ord_sole rfl (by rfl) (fun K1 hK1 => ?_)
  unfold Oper.wp
  go_simp
  refine hK1 _ _ (both32 ((Below.refl _ _).alloc (Nat.le_refl _) _)) ?_
  clear hK1 K1
  have S1 := Lib.hid (Blk.new w 100 #[.int .u32 0, .int .u32 0])
  have B1 := Lib.hid (below_setRow (both32 ((Below.refl w.heap.size w).alloc (Nat.le_refl _) (.cells #[.int .u32 0, .int .u32 0] 100))) (Nat.le_refl _) (two xa xb))
  have K1 : Hid (Blk (((w.alloc (.cells #[.int .u32 0, .int .u32 0] 100)).drew).setRow w.heap.size (two xa xb)) w.heap.size 100 (two xa xb)) := Lib.hid (setRow_heap _ _ _ _ _ _ S1.out)
  refine ord_sole rfl (by rfl) (fun K2 hK2 => ?_)
  refine wp_store_row 100 (.tmp 6) (.tmp 22) rfl w.heap.size (two xa xb) rfl rfl 100 #[.int .u32 0, .int .u32 0] S1.out Tryd.size2 rfl (two_one _ _) ?_
  refine hK2 _ _ (below_setRow (Below.refl _ _) (Nat.le_refl _) _) ?_
  clear hK2 K2
  refine ord_end ?_
  generalize ((w.alloc (.cells #[.int .u32 0, .int .u32 0] 100)).drew).setRow w.heap.size (two xa xb) = w2 at *
  have hS := K1.out.lt
  have B1' := of_both32 B1.out
  have hsz := B1'.size
  generalize hSe : w.heap.size = S at *
  have HSZ := Lib.hid hSe
  clear hSe
  -- the second array
  have cD := later32 ((B1'.cell (p := ⟨b2, o2 + p, none⟩) hb2).trans HD.out) (base := w2.heap.size) (by omega)
  have cE := later32 ((B1'.cell (p := ⟨b2, o2 + t, none⟩) hb2).trans HE.out) (base := w2.heap.size) (by omega)
  clear S1 cA cB HD HE
  go_wp2_with fail
  refine wp_region_ord (Below w2.heap.size) (Below.refl _) (fun _ _ _ => Below.trans) [(0, false), (1, false), (2, false), (3, false), (4, false), (5, false), (6, false), (7, false), (8, false), (9, false), (10, true), (11, true)] (by kernel_rfl) (by kernel_rfl) rfl (by kernel_rfl) (fun _ _ _ _ _ h => h) ?_
  repeat (refine ord_take _ rfl (by rfl) (fun W hW => by go_simp; first | done | rfl) ?_; simp only [Act.put, List.setIfInBounds_toArray, List.set_cons_zero, List.set_cons_succ])
  refine ord_sole rfl (by rfl) (fun K3 hK3 => ?_)
  unfold Oper.wp
  go_simp
  refine hK3 _ _ (both32 ((Below.refl _ _).alloc (Nat.le_refl _) _)) ?_
  clear hK3 K3
  have S2 := Lib.hid (Blk.new w2 100 #[.int .u32 0, .int .u32 0])
  have B2 := Lib.hid (below_setRow (both32 ((Below.refl w2.heap.size w2).alloc (Nat.le_refl _) (.cells #[.int .u32 0, .int .u32 0] 100))) (Nat.le_refl _) (two xd xe))
  have K2 : Hid (Blk (((w2.alloc (.cells #[.int .u32 0, .int .u32 0] 100)).drew).setRow w2.heap.size (two xd xe)) w2.heap.size 100 (two xd xe)) := Lib.hid (setRow_heap _ _ _ _ _ _ S2.out)
  refine ord_sole rfl (by rfl) (fun K4 hK4 => ?_)
  refine wp_store_row 100 (.tmp 7) (.tmp 32) rfl w2.heap.size (two xd xe) rfl rfl 100 #[.int .u32 0, .int .u32 0] S2.out Tryd.size2 rfl (two_one _ _) ?_
  refine hK4 _ _ (below_setRow (Below.refl _ _) (Nat.le_refl _) _) ?_
  clear hK4 K4
  refine ord_end ?_
  generalize ((w2.alloc (.cells #[.int .u32 0, .int .u32 0] 100)).drew).setRow w2.heap.size (two xd xe) = w3 at *
  have B2' := of_both32 B2.out
  have KA := Lib.hid (K1.out.below B2' hS)
  have hT := K2.out.lt
  have hS2 := KA.out.lt
  have B3 := Lib.hid (B1'.trans (B2'.mono hsz))
  have cC3 := (B3.out.cell (p := ⟨b1, o1 + t, none⟩) hb1).trans C0.out
  clear S2 cC cD cE C0 K1
  generalize w2.heap.size = T at *
  by_cases hEq : xa = xd ∧ xb = xe
  · obtain ⟨rfl, rfl⟩ := hEq
    have EQ : ∀ W : World, (Op.equalIn 10000 100 (.agg (two xa xb)) (.agg (two xa xb))).run Tryd.prog W = .ok true W := fun W => by rw [eq_two]; simp
    go_wp2_with (first
      | (refine wpList_load_row rfl 100 (.tmp 6) rfl S rfl 100 (two xa xb) (0, 0) (.array 2 23) KA.out Tryd.underlying100 rfl Tryd.size2 ?_)
      | (refine wpList_load_row rfl 100 (.tmp 7) rfl T rfl 100 (two xa xb) (0, 0) (.array 2 23) K2.out Tryd.underlying100 rfl Tryd.size2 ?_))
    go_ret
    exact ⟨_, rfl, by omega, by omega, by omega, by rw [HSZ.out]; exact B3.out⟩
  · have EQ : ∀ W : World, (Op.equalIn 10000 100 (.agg (two xa xb)) (.agg (two xd xe))).run Tryd.prog W = .ok false W := fun W => by
      rw [eq_two]
      have : (xa == xd && xb == xe) = false := by
        by_cases h1 : xa = xd
        · have h2 : xb ≠ xe := fun h2 => hEq ⟨h1, h2⟩
          simp [h2]
        · simp [h1]
      rw [this]
    obtain ⟨E1, E2, E3⟩ := HEN.out hEq
    go_wp2_with (first
      | (refine wpList_load_row rfl 100 (.tmp 6) rfl S rfl 100 (two xa xb) (0, 0) (.array 2 23) KA.out Tryd.underlying100 rfl Tryd.size2 ?_)
      | (refine wpList_load_row rfl 100 (.tmp 7) rfl T rfl 100 (two xd xe) (0, 0) (.array 2 23) K2.out Tryd.underlying100 rfl Tryd.size2 ?_))
    have e0 := later32 ((KA.out.cell 0).trans rfl) (base := w3.heap.size) hS2 (v := .int .u32 xa)
    have e1 := later32 ((KA.out.cell 1).trans rfl) (base := w3.heap.size) hS2 (v := .int .u32 xb)
    have f0 := later32 ((K2.out.cell 0).trans rfl) (base := w3.heap.size) hT (v := .int .u32 xd)
    have f1 := later32 ((K2.out.cell 1).trans rfl) (base := w3.heap.size) hT (v := .int .u32 xe)
    have e2 := later32 cC3 (base := w3.heap.size) (by have := B3.out.size; have := HSZ.out; omega)
    clear EQ hEq HEN KA K2 cC3
    have DV := Lib.hid (div64_all xa (xb * 4294967296 + xc) (xd * 4294967296 + xe) w3.drew rA.1 E1 (by omega) (by omega) (by omega))
    have k1 : IntKind.u64.wrap xa = xa := IntWalk.u64_in _ (by omega)
    generalize (xa * 18446744073709551616 + (xb * 4294967296 + xc)) / (xd * 4294967296 + xe) = D at *
    have D0 : 0 ≤ D := by omega
    have k2 : IntKind.u32.wrap D = D := IntWalk.u32_in _ (by omega)
    refine wp_region_ord (Below w3.heap.size) (Below.refl _) (fun _ _ _ => Below.trans) [(0, false), (1, false), (2, false), (3, false), (4, false), (5, false), (6, false), (7, false), (8, false), (9, false), (11, false), (12, false), (13, false), (14, false), (10, true), (15, true), (16, true), (17, false), (18, false), (19, false), (20, false), (21, false)] (by kernel_rfl) (by kernel_rfl) rfl (by kernel_rfl) (fun _ _ _ _ _ h => h) ?_
    repeat (refine ord_take _ rfl (by rfl) (fun W hW => by go_simp; first | done | rfl) ?_; simp only [Act.put, List.setIfInBounds_toArray, List.set_cons_zero, List.set_cons_succ])
    refine ord_sole rfl (by rfl) (fun K3 hK3 => ?_)
    go_simp
    refine (joined_any _ _ _ rB.1 rB.2 rC.1 rC.2).mono ?_
    rintro e w4 ⟨rfl, rfl⟩
    refine hK3 _ _ (Below.refl _ _) ?_
    clear hK3 K3
    refine ord_sole rfl (by rfl) (fun K3 hK3 => ?_)
    go_simp
    refine (joined_any _ _ _ rD.1 rD.2 rE.1 rE.2).mono ?_
    rintro e w4 ⟨rfl, rfl⟩
    refine hK3 _ _ (Below.refl _ _) ?_
    clear hK3 K3
    refine ord_sole rfl (by rfl) (fun K3 hK3 => ?_)
    go_simp
    refine DV.out.mono ?_
    rintro e w4 ⟨⟨r64, rfl⟩, hb⟩
    refine hK3 _ _ hb ?_
    clear hK3 K3
    repeat (refine ord_take _ rfl (by rfl) (fun W hW => by go_simp; first | done | rfl) ?_; simp only [Act.put, List.setIfInBounds_toArray, List.set_cons_zero, List.set_cons_succ])
    refine ord_end ?_
    have B4 := Lib.hid (B3.out.trans ((of_both32 hb).mono (by have := B3.out.size; have := HSZ.out; show S ≤ w3.heap.size; omega)))
    clear e0 e1 f0 f1 e2 hb
    go_wp2_with fail
    go_ret
    exact ⟨_, rfl, by omega, by omega, by omega, by rw [HSZ.out]; exact B4.out⟩
end Go.Proofs.YtdhablbfblkagaaDoor

namespace Go.Proofs.YtdhablbfblkagaaDoor
open Go.RowKit
set_option linter.unusedVariables false

/-- What is left in a part of a row, of which x times ys is taken away; what is owed. -/
def Subbed (W0 w : World) (g M cap i k : Nat) (L ys : List Int) (x : Int) (e : Ending) (w' : World) : Prop :=
  ∃ (L' : List Int) (o : Int), e = .returned (.int .u32 o) ∧ 0 ≤ o ∧ o ≤ 1 ∧ Out32 W0 w' (.slice (some ⟨g, 0, none⟩) M cap) L' ∧ Around L L' i k ∧ valZ (L'.drop i) = valZ (L.drop i) - x * valZ ys + 4294967296 ^ (k + 1) * o ∧ Only g w w'
/-- What is in a part of a row after ys is added; what goes over. -/
def Addeds (W0 w : World) (g M cap i k : Nat) (L ys : List Int) (e : Ending) (w' : World) : Prop :=
  ∃ (L' : List Int) (o : Int), e = .returned (.int .u32 o) ∧ 0 ≤ o ∧ o ≤ 1 ∧ Out32 W0 w' (.slice (some ⟨g, 0, none⟩) M cap) L' ∧ Around L L' i k ∧ valZ (L'.drop i) = valZ (L.drop i) + valZ ys - 4294967296 ^ (k + 1) * o ∧ Only g w w'

theorem Around.at {L L' : List Int} {i k : Nat} (h : Around L L' i k) (j : Nat) : 0 ≤ L'[j]?.getD 0 ∧ L'[j]?.getD 0 ≤ 4294967295 := h.2.1.at j

set_option maxHeartbeats 1000000 in
set_option maxRecDepth 10000 in
theorem subtract_any (W0 w : World) (g M cap i k cP cb : Nat) (b : Option Addr) (L ys : List Int) (x : Int) (ho : Out32 W0 w (.slice (some ⟨g, 0, none⟩) M cap) L) (hln : L.length = M) (hg : W0.heap.size ≤ g) (hL : Limbs L) (hi : i + k + 1 ≤ M) (hM : M ≤ 100000) (hr : Row32 W0 b k ys) (x0 : 0 ≤ x) (x1 : x ≤ 4294967295) :
    Calls Tryd.prog 79 #[.slice (some ⟨g, i, none⟩) (k + 1) cP, .slice b k cb, .int .u32 x] w (Subbed W0 w g M cap i k L ys x) := by
  have HO := Lib.hid ho
  have HLN := Lib.hid hln
  have HLL := Lib.hid hL
  have HR := Lib.hid hr
  have k1 : IntKind.u64.wrap x = x := IntWalk.u64_in _ (by omega)
  clear ho hln hL hr
  go_enter Tryd.func79, Tryd.ntmps79
  go_wp2_with fail
  go_loopw [7, 8, 12] (fun cV oV jV wr => ∃ (j : Nat) (c o : Int) (L1 : List Int), cV = .int .u64 c ∧ oV = .int .u32 o ∧ jV = .int .i64 (j : Int) ∧ j ≤ k ∧ 0 ≤ c ∧ c ≤ 4294967295 ∧ 0 ≤ o ∧ o ≤ 1 ∧ Out32 W0 wr (.slice (some ⟨g, 0, none⟩) M cap) L1 ∧ Around L L1 i k ∧ valZ (L1.drop i) = valZ (L.drop i) - x * valZ (ys.take j) + 4294967296 ^ j * (c + o) ∧ Only g w wr) (fun _ _ jV _ => (1000001 - intOf jV).toNat)
  case atStart => exact ⟨0, 0, 0, L, rfl, rfl, rfl, by omega, by omega, by omega, by omega, by omega, HO.out, .refl HLL.out _ _, by simp [valZ], .refl _ _⟩
  case round =>
    obtain ⟨j, c, o, L1, rfl, rfl, rfl, hj, c0, c1, o0, o1, ho, hA, hval, hon⟩ := hrel
    have HO1 := Lib.hid ho
    have HA1 := Lib.hid hA
    have HV1 := Lib.hid hval
    have ON1 := Lib.hid hon
    have HN1 : Hid (L1.length = M) := Lib.hid (hA.1.trans HLN.out)
    have RB := Lib.hid (HR.out.below ho.2)
    clear ho hA hval hon HO
    by_cases hmore : j < k
    · have t1 : decide ((j : Int) < (k : Int)) = true := decide_eq_true (by omega)
      have hjM : j ≤ 1000000 := by omega
      have jI : (j : Int) < (k : Int) := by omega
      have jI2 : (j : Int) < (k : Int) + 1 := by omega
      have jN : (0 : Int) ≤ (j : Int) := by omega
      obtain ⟨b1, o1', rfl, hb1, hc1⟩ := RB.out.2.2 (by omega)
      have cy := hc1 j hmore
      obtain ⟨cx, fx⟩ := HO1.out.cell (i + j) (by rw [HN1.out]; omega)
      have zr := HA1.out.at (i + j)
      have yr := RB.out.num j
      have hS := Lib.hid (fun (r q : Int) (h : r + -1 * (4294967296 * q) = L1[i + j]?.getD 0 + -1 * ((c + x * ys[j]?.getD 0) % 4294967296 + o)) => subm_step (by rw [HN1.out]; omega) HV1.out h)
      have HSET := Lib.hid (fun v => HO1.out.set hg (i + j) v)
      generalize L1[i + j]?.getD 0 = z at *
      generalize ys[j]?.getD 0 = y at *
      have MR := mul_range c0 c1 (show (0 : Int) ≤ 0 by omega) (by omega) x0 x1 yr.1 yr.2
      rw [Int.add_zero] at MR
      have k2 : IntKind.u64.wrap y = y := IntWalk.u64_in _ (by omega)
      have k3 : IntKind.u64.wrap (x * y) = x * y := IntWalk.u64_in _ (by omega)
      have k6 : IntKind.u64.wrap (c + x * y) = c + x * y := IntWalk.u64_in _ (by omega)
      clear hc1 HV1
      obtain ⟨T, hT⟩ : ∃ T, c + x * y = T := ⟨_, rfl⟩
      rw [hT] at k6 MR hS
      have HT := Lib.hid hT
      have k7 : IntKind.u32.wrap T = T % 4294967296 := rfl
      have k8 : IntKind.u64.wrap (T / 4294967296) = T / 4294967296 := IntWalk.u64_in _ (by omega)
      have d0 := MR.2.2.1
      have d1 := MR.2.2.2.1
      have e0 : 0 ≤ T % 4294967296 := by omega
      have e1 : T % 4294967296 ≤ 4294967295 := by omega
      clear MR
      go_wp2_with (go_at_call 83; go_must (refine (sub32_steps z (T % 4294967296) o wr zr.1 zr.2 e0 e1 o0 o1).mono ?_; rintro e w' ⟨rfl, r, q', rfl, r0, r1, q0', q1', hrq⟩; have HRQ := Lib.hid (hS.out r q' hrq); have r0h := Lib.hid r0; have r1h := Lib.hid r1; have q0h := Lib.hid q0'; have q1h := Lib.hid q1'; clear hrq r0 r1 q0' q1'))
      go_roundw
      case rel => exact ⟨j + 1, _, _, _, rfl, rfl, by go_num, by omega, d0, d1, q0h.out, q1h.out, HSET.out _, HA1.out.set (by omega) r0h.out r1h.out, HRQ.out, ON1.out.set _ _⟩
      case measure => simp only [intOf]; exact meas_lt hjM
    · obtain rfl : j = k := by omega
      have t1 : decide ((j : Int) < (j : Int)) = false := decide_eq_false (by omega)
      have jI2 : (j : Int) < (j : Int) + 1 := by omega
      have jN : (0 : Int) ≤ (j : Int) := by omega
      have k2 : IntKind.u32.wrap c = c := IntWalk.u32_in _ (by omega)
      have E := HV1.out
      rw [List.take_of_length_le (by rw [HR.out.1]; omega)] at E
      obtain ⟨cx, fx⟩ := HO1.out.cell (i + j) (by rw [HN1.out]; omega)
      have zr := HA1.out.at (i + j)
      have hS := Lib.hid (fun (r q : Int) (h : r + -1 * (4294967296 * q) = L1[i + j]?.getD 0 + -1 * (c + o)) => subm_end (by rw [HN1.out]; omega) E h)
      have HSET := Lib.hid (fun v => HO1.out.set hg (i + j) v)
      generalize L1[i + j]?.getD 0 = z at *
      clear E HV1
      go_wp2_with (go_at_call 83; go_must (refine (sub32_steps z c o wr zr.1 zr.2 c0 c1 o0 o1).mono ?_; rintro e w' ⟨rfl, r, q', rfl, r0, r1, q0', q1', hrq⟩; have HRQ := Lib.hid (hS.out r q' hrq); have r0h := Lib.hid r0; have r1h := Lib.hid r1; have q0h := Lib.hid q0'; have q1h := Lib.hid q1'; clear hrq r0 r1 q0' q1'))
      go_ret
      exact ⟨_, _, rfl, q0h.out, q1h.out, HSET.out _, HA1.out.set (by omega) r0h.out r1h.out, HRQ.out, ON1.out.set _ _⟩

set_option maxHeartbeats 1000000 in
set_option maxRecDepth 10000 in
theorem addTo_any (W0 w : World) (g M cap i k cP cb : Nat) (b : Option Addr) (L ys : List Int) (ho : Out32 W0 w (.slice (some ⟨g, 0, none⟩) M cap) L) (hln : L.length = M) (hg : W0.heap.size ≤ g) (hL : Limbs L) (hi : i + k + 1 ≤ M) (hM : M ≤ 100000) (hr : Row32 W0 b k ys) :
    Calls Tryd.prog 80 #[.slice (some ⟨g, i, none⟩) (k + 1) cP, .slice b k cb] w (Addeds W0 w g M cap i k L ys) := by
  have HO := Lib.hid ho
  have HLN := Lib.hid hln
  have HLL := Lib.hid hL
  have HR := Lib.hid hr
  clear ho hln hL hr
  go_enter Tryd.func80, Tryd.ntmps80
  go_wp2_with fail
  go_loopw [5, 9] (fun oV jV wr => ∃ (j : Nat) (o : Int) (L1 : List Int), oV = .int .u32 o ∧ jV = .int .i64 (j : Int) ∧ j ≤ k ∧ 0 ≤ o ∧ o ≤ 1 ∧ Out32 W0 wr (.slice (some ⟨g, 0, none⟩) M cap) L1 ∧ Around L L1 i k ∧ valZ (L1.drop i) = valZ (L.drop i) + valZ (ys.take j) - 4294967296 ^ j * o ∧ Only g w wr) (fun _ jV _ => (1000001 - intOf jV).toNat)
  case atStart => exact ⟨0, 0, L, rfl, rfl, by omega, by omega, by omega, HO.out, .refl HLL.out _ _, by simp [valZ], .refl _ _⟩
  case round =>
    obtain ⟨j, o, L1, rfl, rfl, hj, o0, o1, ho, hA, hval, hon⟩ := hrel
    have HO1 := Lib.hid ho
    have HA1 := Lib.hid hA
    have HV1 := Lib.hid hval
    have ON1 := Lib.hid hon
    have HN1 : Hid (L1.length = M) := Lib.hid (hA.1.trans HLN.out)
    have RB := Lib.hid (HR.out.below ho.2)
    clear ho hA hval hon HO
    by_cases hmore : j < k
    · have t1 : decide ((j : Int) < (k : Int)) = true := decide_eq_true (by omega)
      have hjM : j ≤ 1000000 := by omega
      have jI : (j : Int) < (k : Int) := by omega
      have jI2 : (j : Int) < (k : Int) + 1 := by omega
      have jN : (0 : Int) ≤ (j : Int) := by omega
      obtain ⟨b1, o1', rfl, hb1, hc1⟩ := HR.out.2.2 (by omega)
      have cy := later32 (base := W0.heap.size) ((HO1.out.2.cell (p := ⟨b1, o1' + j, none⟩) hb1).trans (hc1 j hmore)) hb1
      obtain ⟨cx0, fx0⟩ := HO1.out.cell (i + j) (by rw [HN1.out]; omega)
      have cx2 : wr.drew.cell? ⟨g, i + j, none⟩ = some (.int .u32 (L1[i + j]?.getD 0)) := cx0
      have fx : wr.drew.frozen? ⟨g, i + j, none⟩ = false := fx0
      have zr := HA1.out.at (i + j)
      have yr := RB.out.num j
      have hS := Lib.hid (fun (r q : Int) (h : r + 1 * (4294967296 * q) = L1[i + j]?.getD 0 + 1 * (ys[j]?.getD 0 + o)) => addm_step (by rw [HN1.out]; omega) HV1.out h)
      have HSET := Lib.hid (fun v => (HO1.out.set hg (i + j) v).drew)
      generalize L1[i + j]?.getD 0 = z at *
      generalize ys[j]?.getD 0 = y at *
      clear hc1 HV1 cx0 fx0
      go_wp2_with fail
      refine wp_region_ord (Below W0.heap.size) (Below.refl _) (fun _ _ _ => Below.trans) [(0, false), (1, false), (2, false), (3, false), (4, false), (6, false), (7, false), (8, false), (9, false), (10, false), (5, true), (11, true), (12, false), (13, false), (14, false), (15, false), (16, true), (17, false)] (by kernel_rfl) (by kernel_rfl) rfl (by kernel_rfl) (fun _ _ _ _ _ h => h) ?_
      repeat (refine ord_take _ rfl (by rfl) (fun W hW => by go_simp; first | done | rfl) ?_; simp only [Act.put, List.setIfInBounds_toArray, List.set_cons_zero, List.set_cons_succ])
      refine ord_sole rfl (by rfl) (fun K1 hK1 => ?_)
      unfold Oper.wp
      go_simp
      refine hK1 _ _ (Below.refl _ _) ?_
      clear hK1 K1 cy
      try simp only [Act.put, List.setIfInBounds_toArray, List.set_cons_zero, List.set_cons_succ]
      refine ord_sole rfl (by rfl) (fun K1 hK1 => ?_)
      go_simp
      refine (add32_steps z y o wr.drew zr.1 zr.2 yr.1 yr.2 o0 o1).mono ?_
      rintro e w' ⟨rfl, r, q', rfl, r0, r1, q0', q1', hrq⟩
      have HRQ := Lib.hid (hS.out r q' hrq)
      refine hK1 _ _ (Below.refl _ _) ?_
      clear hK1 K1
      try simp only [Act.put, List.setIfInBounds_toArray, List.set_cons_zero, List.set_cons_succ]
      repeat (refine ord_take _ rfl (by rfl) (fun W hW => by go_simp; first | done | rfl) ?_; try simp only [Act.put, List.setIfInBounds_toArray, List.set_cons_zero, List.set_cons_succ])
      refine ord_sole rfl (by rfl) (fun K1 hK1 => ?_)
      unfold Oper.wp
      go_simp
      refine hK1 _ _ ((Below.refl _ _).setCell (p := ⟨g, i + j, none⟩) hg _) ?_
      clear hK1 K1 cx2 fx
      try simp only [Act.put, List.setIfInBounds_toArray, List.set_cons_zero, List.set_cons_succ]
      refine ord_take _ rfl (by rfl) (fun W hW => by go_simp; first | done | rfl) ?_
      try simp only [Act.put, List.setIfInBounds_toArray, List.set_cons_zero, List.set_cons_succ]
      refine ord_end ?_
      have O5 := Lib.hid (HSET.out r)
      have N5 : Hid (Only g w (wr.setCell ⟨g, i + j, none⟩ (.int .u32 r)).drew) := Lib.hid (ON1.out.set (i + j) (.int .u32 r))
      clear HSET
      generalize (wr.setCell ⟨g, i + j, none⟩ (.int .u32 r)).drew = w5 at *
      go_wp2_with fail
      go_roundw
      case rel => exact ⟨j + 1, _, _, rfl, by go_num, by omega, q0', q1', O5.out, HA1.out.set (by omega) r0 r1, HRQ.out, N5.out⟩
      case measure => simp only [intOf]; exact meas_lt hjM
    · obtain rfl : j = k := by omega
      have t1 : decide ((j : Int) < (j : Int)) = false := decide_eq_false (by omega)
      have jI2 : (j : Int) < (j : Int) + 1 := by omega
      have jN : (0 : Int) ≤ (j : Int) := by omega
      have E := HV1.out
      rw [List.take_of_length_le (by rw [HR.out.1]; omega)] at E
      obtain ⟨cx, fx⟩ := HO1.out.cell (i + j) (by rw [HN1.out]; omega)
      have zr := HA1.out.at (i + j)
      have hS := Lib.hid (fun (r q : Int) (h : r + 1 * (4294967296 * q) = L1[i + j]?.getD 0 + 1 * (0 + o)) => addm_end (by rw [HN1.out]; omega) E h)
      have HSET := Lib.hid (fun v => HO1.out.set hg (i + j) v)
      generalize L1[i + j]?.getD 0 = z at *
      clear E HV1
      go_wp2_with (go_at_call 84; go_must (refine (add32_steps z 0 o wr zr.1 zr.2 (by omega) (by omega) o0 o1).mono ?_; rintro e w' ⟨rfl, r, q', rfl, r0, r1, q0', q1', hrq⟩; have HRQ := Lib.hid (hS.out r q' hrq); have r0h := Lib.hid r0; have r1h := Lib.hid r1; have q0h := Lib.hid q0'; have q1h := Lib.hid q1'; clear hrq r0 r1 q0' q1'))
      go_ret
      exact ⟨_, _, rfl, q0h.out, q1h.out, HSET.out _, HA1.out.set (by omega) r0h.out r1h.out, HRQ.out, ON1.out.set _ _⟩

end Go.Proofs.YtdhablbfblkagaaDoor

namespace Go.Proofs.YtdhablbfblkagaaDoor
open Go.RowKit
set_option linter.unusedVariables false

theorem Out32.part {W0 wr : World} {g cap n : Nat} {L : List Int} (h : Out32 W0 wr (.slice (some ⟨g, 0, none⟩) n cap) L) (hL : Limbs L) {i m : Nat} (hi : i + m ≤ L.length) : Row32 wr (some ⟨g, i, none⟩) m ((L.drop i).take m) := by
  refine ⟨by rw [List.length_take, List.length_drop]; omega, (hL.drop i).take m, fun h0 => ⟨g, i, rfl, ?_, fun j hj => ?_⟩⟩
  · exact cell_block (h.cell i (by omega)).1
  · rw [(h.cell (i + j) (by omega)).1, List.getElem?_take, if_pos hj, List.getElem?_drop]

set_option maxHeartbeats 1000000 in
set_option maxRecDepth 10000 in
theorem digit_any (W0 w : World) (g M cap i k cP cb : Nat) (b : Option Addr) (L ys : List Int) (ho : Out32 W0 w (.slice (some ⟨g, 0, none⟩) M cap) L) (hln : L.length = M) (hg : W0.heap.size ≤ g) (hL : Limbs L) (hi : i + k + 1 ≤ M) (hM : M ≤ 100000) (hr : Row32 W0 b k ys) (h2 : 2 ≤ k) (htop : ys[k - 1]?.getD 0 ≠ 0) (hlt : valZ (L.drop i) < valZ ys * 4294967296) (hz : ∀ j, i + k + 1 ≤ j → L[j]?.getD 0 = 0) :
    Calls Tryd.prog 74 #[.slice (some ⟨g, i, none⟩) (k + 1) cP, .slice b k cb] w fun e w' => ∃ L', e = .returned (.int .u32 (valZ (L.drop i) / valZ ys)) ∧ Out32 W0 w' (.slice (some ⟨g, 0, none⟩) M cap) L' ∧ Around L L' i k ∧ valZ (L'.drop i) = valZ (L.drop i) % valZ ys ∧ Only g w w' := by
  have dl := drop_lt hL (i := i) (n := k + 1) (by intro j hj; exact hz j (by omega))
  have M0 : 0 < valZ ys := by omega
  have ER := Lib.hid (estimate_any (some ⟨g, i, none⟩) b (k + 1) k cP cb ((L.drop i).take (k + 1)) ys w (ho.part hL (by omega)) (hr.below ho.2) rfl h2 (by omega) htop (by rw [dl.2.2]; exact hlt))
  rw [dl.2.2] at ER
  have DL : Hid (∀ L', Around L L' i k → 0 ≤ valZ (L'.drop i) ∧ valZ (L'.drop i) < 4294967296 ^ (k + 1)) := Lib.hid (fun L' hA => by
    have := drop_lt hA.2.1 (i := i) (n := k + 1) (by intro j hj; rw [hA.2.2.2 j (by omega)]; exact hz j (by omega))
    exact ⟨this.1, this.2.1⟩)
  have HO := Lib.hid ho
  have HLN := Lib.hid hln
  have HLL := Lib.hid hL
  have HR := Lib.hid hr
  have P0 := dl.1
  clear ho hln hL hr hz hlt htop dl
  go_enter Tryd.func74, Tryd.ntmps74
  go_wp2_with fail
  refine wp_scope_jumps 0 (fun a' w' => ∃ (d o : Int) (L1 : List Int) (u7 u8 u9 u10 u11 u12 u13 u14 u15 u16 u17 u18 u19 u20 u21 u22 u23 : Value), a' = { tmps := #[.slice (some ⟨g, i, none⟩) (k + 1) cP, .slice b k cb, undef, undef, .int .u32 0, .int .u32 d, .int .u32 o, u7, u8, u9, u10, u11, u12, u13, u14, u15, u16, u17, u18, u19, u20, u21, u22, u23], defers := [] } ∧ 0 ≤ d ∧ d ≤ 4294967295 ∧ 0 ≤ o ∧ o ≤ 1 ∧ Digit (valZ (L.drop i)) (valZ ys) (4294967296 ^ (k + 1)) d o (valZ (L1.drop i)) ∧ Out32 W0 w' (.slice (some ⟨g, 0, none⟩) M cap) L1 ∧ Around L L1 i k ∧ Only g w w') (fun a' _ => (intOf (a'.tmps.getD 5 undef)).toNat) rfl ?_ ?_
  · go_wp2_with fail
    refine ER.out.mono ?_
    rintro e w2 ⟨d, rfl, d0, d1, d2, hb2⟩
    have O2 := Lib.hid (HO.out.below hb2)
    have N2 : Hid (Only g w w2) := Lib.hid (.of_below hb2)
    have SM := Lib.hid (subtract_any W0 w2 g M cap i k cP cb b L ys d O2.out HLN.out hg HLL.out hi hM HR.out (by omega) d2)
    clear hb2 ER
    go_wp2_with fail
    refine SM.out.mono ?_
    rintro e w3 ⟨L1, o, rfl, o0, o1, ho3, hA3, hv3, hon3⟩
    have DG : Hid (Digit (valZ (L.drop i)) (valZ ys) (4294967296 ^ (k + 1)) d o (valZ (L1.drop i))) := Lib.hid ⟨hv3, d0, (DL.out L1 hA3).1, (DL.out L1 hA3).2, M0, P0⟩
    have O3 := Lib.hid ho3
    have A3 := Lib.hid hA3
    have N3 := Lib.hid (N2.out.trans hon3)
    clear SM ho3 hA3 hv3 hon3 O2
    go_wp2_with fail
    go_step3
    by_cases hq : o = 0
    · subst hq
      have t0 : ((0 : Int) == 0) = true := rfl
      have F := Lib.hid DG.out.done
      rw [F.out.1]
      go_wp2_with fail
      go_big_unhide
      simp only [Exit.jump]
      go_ret
      exact ⟨L1, rfl, O3.out, A3.out, F.out.2, N3.out⟩
    · obtain rfl : o = 1 := by omega
      have t0 : ((1 : Int) == 0) = false := rfl
      have ls := DG.out.less
      have k1 : IntKind.u32.wrap (d - 1) = d - 1 := IntWalk.u32_in _ (by omega)
      have AT := Lib.hid (addTo_any W0 w3 g M cap i k cP cb b L1 ys O3.out (A3.out.1.trans HLN.out) hg A3.out.2.1 hi hM HR.out)
      go_wp2_with fail
      refine AT.out.mono ?_
      rintro e w4 ⟨L2, c, rfl, c0, c1, ho4, hA4, hv4, hon4⟩
      have A4 := A3.out.trans hA4
      have DG4 : Hid (Digit (valZ (L.drop i)) (valZ ys) (4294967296 ^ (k + 1)) (d - 1) (1 - c) (valZ (L2.drop i))) := Lib.hid (DG.out.next hv4 (DL.out L2 A4).1 (DL.out L2 A4).2)
      have k2 : IntKind.u32.wrap (1 - c) = 1 - c := IntWalk.u32_in _ (by omega)
      have O4 := Lib.hid ho4
      have AA4 := Lib.hid A4
      have N4 := Lib.hid (N3.out.trans hon4)
      clear AT ho4 hA4 hv4 hon4 A4
      go_wp2_with fail
      go_step3
      exact ⟨rfl, ⟨d - 1, 1 - c, L2, _, _, _, _, _, _, _, _, _, _, _, _, _, _, _, _, _, rfl, by omega, by omega, by omega, by omega, DG4.out, O4.out, AA4.out, N4.out⟩⟩
  · rintro a' w3 ⟨d, o, L1, u7, u8, u9, u10, u11, u12, u13, u14, u15, u16, u17, u18, u19, u20, u21, u22, u23, rfl, d0', d2, o0, o1, hd, ho3, hA3, hon3⟩
    have DG := Lib.hid hd
    have O3 := Lib.hid ho3
    have A3 := Lib.hid hA3
    have N3 := Lib.hid hon3
    clear hd ho3 hA3 hon3 ER HO
    by_cases hq : o = 0
    · subst hq
      have t0 : ((0 : Int) == 0) = true := rfl
      have F := Lib.hid DG.out.done
      rw [F.out.1]
      go_wp2_with fail
      go_big_unhide
      simp only [Exit.jump]
      go_ret
      exact ⟨L1, rfl, O3.out, A3.out, F.out.2, N3.out⟩
    · obtain rfl : o = 1 := by omega
      have t0 : ((1 : Int) == 0) = false := rfl
      have ls := DG.out.less
      have k1 : IntKind.u32.wrap (d - 1) = d - 1 := IntWalk.u32_in _ (by omega)
      have AT := Lib.hid (addTo_any W0 w3 g M cap i k cP cb b L1 ys O3.out (A3.out.1.trans HLN.out) hg A3.out.2.1 hi hM HR.out)
      go_wp2_with fail
      refine AT.out.mono ?_
      rintro e w4 ⟨L2, c, rfl, c0, c1, ho4, hA4, hv4, hon4⟩
      have A4 := A3.out.trans hA4
      have DG4 : Hid (Digit (valZ (L.drop i)) (valZ ys) (4294967296 ^ (k + 1)) (d - 1) (1 - c) (valZ (L2.drop i))) := Lib.hid (DG.out.next hv4 (DL.out L2 A4).1 (DL.out L2 A4).2)
      have k2 : IntKind.u32.wrap (1 - c) = 1 - c := IntWalk.u32_in _ (by omega)
      have O4 := Lib.hid ho4
      have AA4 := Lib.hid A4
      have N4 := Lib.hid (N3.out.trans hon4)
      clear AT ho4 hA4 hv4 hon4 A4
      go_wp2_with fail
      go_step3
      refine ⟨rfl, ⟨d - 1, 1 - c, L2, _, _, _, _, _, _, _, _, _, _, _, _, _, _, _, _, _, rfl, by omega, by omega, by omega, by omega, DG4.out, O4.out, AA4.out, N4.out⟩, ?_⟩
      show (d - 1).toNat < d.toNat
      omega

end Go.Proofs.YtdhablbfblkagaaDoor

namespace Go.Proofs.YtdhablbfblkagaaDoor
open Go.RowKit
set_option linter.unusedVariables false

theorem Out32.lt {W0 w : World} {g n cap : Nat} {L : List Int} (h : Out32 W0 w (.slice (some ⟨g, 0, none⟩) n cap) L) : g < w.heap.size := by
  rcases h.1.2 with ⟨e, _⟩ | ⟨b, cap, cur, e, h1, h2, h3⟩
  · cases e
  · injection e with e1 e2 e3
    injection e1 with e1
    injection e1 with e1
    subst e1
    exact (Array.getElem?_eq_some_iff.1 h2).1
/-- Limbs are appended to a row that is full: a new row. -/
theorem full_append32 {ops : Array Oper} {rest : List Oper} {o : Oper} {a : Act} {Q : Exit → Act → World → Prop} {w : World} {zs ns : List Int} {A : Option Addr} {ad : Addr} {n m c : Nat} (hgd : o.guard = none) (s x : Operand)
    (hop : o.op = .call { callee := .builtin .append, args := #[s, x], argTypes := #[41, 41] }) (hs : a.eval s = .slice A n n) (hr : Row32 w A n zs) (hx : a.eval x = .slice (some ad) m c) (hrx : Row32 w (some ad) m ns) (hm : 1 ≤ m) (hl : n + m ≤ 1000000)
    (h : ∀ g cap w', w.heap.size ≤ g → Out32 w w' (.slice (some ⟨g, 0, none⟩) (n + m) cap) (zs ++ ns) → wpList Tryd.prog ops Q rest (a.put o.dst (.slice (some ⟨g, 0, none⟩) (n + m) cap)) w') : wpList Tryd.prog ops Q (o :: rest) a w := by
  obtain ⟨i0, hi5, hz0, hz1, hz2⟩ := info_parts Tryd.info32
  refine wpList_append_grows w hgd s x 41 hop 23 i0 (.int .u32 0) 1 4 Tryd.underlying41 hi5 hz0 hz1 hz2 rfl (by decide) A n n (zs.map (Value.int .u32)) hs (fun e => by subst e; have := (row32_none hr).1; omega) (by rw [List.length_map, hr.1, Nat.mul_one]) (fun b hb => by subst hb; exact hr.cells) ad m c (ns.map (Value.int .u32)) hx (by rw [List.length_map, hrx.1, Nat.mul_one]) hrx.cells ?_ (by omega) (by unfold maxLen; omega) (by omega) ?_
  · intro u hu
    obtain ⟨_, _, rfl⟩ := List.mem_map.1 hu
    rfl
  · intro V' w' hown hg
    have ho : Out32 w w' V' (zs ++ ns) := by
      refine ⟨?_, (Below.refl _ _).grown hg (Nat.le_refl _) (fun k hk => by cases hk)⟩
      rw [List.length_append, hr.1, hrx.1, List.map_append]
      exact hown
    have hlen : (zs ++ ns).length = n + m := by rw [List.length_append, hr.1, hrx.1]
    obtain ⟨g, cap, rfl, hgg⟩ := ho.form (by omega)
    rw [hlen] at ho ⊢
    exact h g cap w' hgg ho

theorem top_le {ys : List Int} {k : Nat} (hy : Limbs ys) (hl : ys.length = k) (hk : 1 ≤ k) (ht : ys[k - 1]?.getD 0 ≠ 0) : 4294967296 ^ (k - 1) ≤ valZ ys := by
  obtain ⟨j, rfl⟩ : ∃ j, k = j + 1 := ⟨k - 1, by omega⟩
  rw [show j + 1 - 1 = j by omega] at ht ⊢
  have e := valZ_parts ys j
  rw [valZ_drop ys j, show ys.drop (j + 1) = [] from List.drop_of_length_le (by omega), valZ, Int.mul_zero, Int.add_zero] at e
  have t := take_lt hy j
  have r := hy.at j
  have p := pow_pos32 j
  have := Int.mul_le_mul_of_nonneg_left (show (1 : Int) ≤ ys[j]?.getD 0 by omega) (Int.le_of_lt p)
  rw [Int.mul_one] at this
  omega

/-- A quotient and what is left, in two rows. -/
def Parted (q r : Int) (N : Nat) (w : World) (e : Ending) (w' : World) : Prop :=
  ∃ (a b : Option Addr) (n c k d : Nat) (zs us : List Int), e = .returned (.tuple #[.slice a n c, .slice b k d]) ∧ Row32 w' a n zs ∧ Row32 w' b k us ∧ valZ zs = q ∧ valZ us = r ∧ n ≤ N ∧ k ≤ N ∧ (a = none → c = 0) ∧ (b = none → d = 0) ∧ n ≤ c ∧ k ≤ d ∧ Below w.heap.size w w'

set_option maxHeartbeats 1000000 in
set_option maxRecDepth 10000 in
theorem divide_any (a b : Option Addr) (n ca k cb : Nat) (xs ys : List Int) (w : World) (hr : Row32 w a n xs) (hn : n ≤ 40000) (hnil : a = none → ca = 0) (hs : Row32 w b k ys) (h2 : 2 ≤ k) (hk : k ≤ 40000) (htop : ys[k - 1]?.getD 0 ≠ 0) :
    Calls Tryd.prog 61 #[.slice a n ca, .slice b k cb] w (Parted (valZ xs / valZ ys) (valZ xs % valZ ys) (n + 1) w) := by
  obtain ⟨i0, hi, hz0, hz1, hz2⟩ := info_parts Tryd.info32
  have LX := row32_limbs hr
  have LY := row32_limbs hs
  have BO := Lib.hid (bare_own a n ca xs w hr (by omega) hnil)
  have HS := Lib.hid hs
  have TP := Lib.hid htop
  have hNn : (limZ (valZ xs)).length ≤ n := by have := (norm_take LX).1; have := hr.1; omega
  have M1 := Lib.hid (top_le LY hs.1 (by omega) htop)
  have M2 : Hid (valZ ys < 4294967296 ^ k) := Lib.hid (by have := valZ_lt LY; rwa [hs.1] at this)
  have M0 : Hid (0 < valZ ys) := Lib.hid (by have := top_le LY hs.1 (by omega) htop; have := pow_pos32 (k - 1); omega)
  have NV : Hid (valZ (limZ (valZ xs)) = valZ xs) := Lib.hid (limZ_val (valZ_nonneg LX))
  have NL := Lib.hid (limZ_limbs (valZ xs))
  have NT := Lib.hid (norm_take LX)
  have HLX := Lib.hid LX
  obtain ⟨N, hN⟩ : ∃ N, (limZ (valZ xs)).length = N := ⟨_, rfl⟩
  rw [hN] at BO hNn NT
  have HN := Lib.hid hN
  clear hr hs htop LX LY hN
  obtain ⟨q, hq⟩ : ∃ q : Nat, (q : Int) = max ((N : Int) + 1 - k) 0 := ⟨(N + 1 - k : Nat), by omega⟩
  obtain ⟨D, hD⟩ : ∃ D : Int, (N : Int) + 1 - k = D := ⟨_, rfl⟩
  have hmax : max D 0 = (q : Int) := by omega
  have w1 : IntKind.i64.wrap ((N : Int) + 1 - k) = D := by rw [hD]; exact IntWalk.i64_in _ (by omega)
  have w2 : IntKind.i64.wrap ((q : Int) - 1) = (q : Int) - 1 := IntWalk.i64_in _ (by omega)
  have HQ := Lib.hid hq
  have HD := Lib.hid hD
  have qN : q ≤ n + 1 := by omega
  clear hq hD
  go_enter Tryd.func61, Tryd.ntmps61
  go_wp2_with fail
  refine BO.out.mono ?_
  rintro e w2 ⟨a', c, rfl, ho⟩
  have hnm := ho.normed HLX.out
  have R2 := Lib.hid (hnm.1.norm)
  rw [HN.out] at R2
  have B2 := Lib.hid ho.2
  clear ho hnm BO
  have Z3 : Hid (Row32 (w2.alloc (.cells #[.int .u32 0] 23)) (some ⟨w2.heap.size, 0, none⟩) 1 [0]) := Lib.hid (row32_const w2 [0] (by intro x hx; simp at hx; omega))
  have R3 : Hid (Row32 (w2.alloc (.cells #[.int .u32 0] 23)) a' N (limZ (valZ xs))) := Lib.hid (R2.out.below ((Below.refl _ _).alloc (Nat.le_refl _) _))
  have B3 : Hid (Below w.heap.size w (w2.alloc (.cells #[.int .u32 0] 23))) := Lib.hid (Below.step B2.out ((Below.refl _ _).alloc (Nat.le_refl _) _))
  have hN1 : N + 1 ≤ 1000000 := by omega
  have HZ := Lib.hid hz2
  clear hz2
  go_wp2_with (first
    | (at_builtin; go_must (refine full_append32 rfl _ _ rfl rfl R3.out rfl Z3.out (by decide) hN1 ?_; intro g cap w4 hg4 ho4; have O4 := Lib.hid (ho4.wider B3.out); have G4 := Lib.hid hg4; clear ho4 hg4))
    | (at_make; refine wpList_make_full _ rfl _ _ 41 rfl w4.heap.size 23 i0 (.int .u32 0) 1 Tryd.underlying41 hi hz0 hz1 _ _ _ _ q rfl rfl ?b0 ?b00 ?b1 ?b2 ?b3 ?_))
  case b0 => first | rfl | omega
  case b00 => first | rfl | omega
  case b1 => rw [HZ.out]; omega
  case b2 => unfold maxLen; omega
  case b3 => exact Nat.le_refl _
  intro w5 hown0 hgrow
  have hgw : w.heap.size ≤ g := Nat.le_trans (Nat.le_trans B2.out.size (by simp)) G4.out
  have hgq := O4.out.lt
  have O5 := Lib.hid (O4.out.below (out_made32 hown0 hgrow).2)
  have Q5 := Lib.hid ((out_made32 hown0 hgrow).wider O4.out.2)
  clear hown0 hgrow HZ hz1 hz0 hi R2 R3 Z3 B3 G4
  have hwq : w.heap.size ≤ w4.heap.size := O4.out.2.size
  clear O4
  generalize w4.heap.size = gq at *
  have hne : gq ≠ g := by omega
  have LN1 : Hid ((limZ (valZ xs) ++ [0]).length = N + 1) := Lib.hid (by rw [List.length_append, HN.out]; rfl)
  have VN1 : Hid (valZ (limZ (valZ xs) ++ [0]) = valZ xs) := Lib.hid (by rw [valZ_append, NV.out]; simp [valZ])
  have LL1 : Hid (Limbs (limZ (valZ xs) ++ [0])) := Lib.hid (limbs_snoc NL.out (by omega) (by omega))
  have TOP : Hid (valZ ((limZ (valZ xs) ++ [0]).drop q) < valZ ys) := Lib.hid (div_top LL1.out LN1.out (by rw [List.getElem?_append_right (by rw [HN.out]; omega), HN.out]; simp) HQ.out (by omega) M1.out)
  go_wp2_with fail
  go_loopw [6] (fun iV wr => ∃ (i : Nat) (L Q : List Int), iV = .int .i64 ((i : Int) - 1) ∧ i ≤ q ∧ Out32 w wr (.slice (some ⟨g, 0, none⟩) (N + 1) cap) L ∧ Limbs L ∧ L.length = N + 1 ∧ Out32 w wr (.slice (some ⟨gq, 0, none⟩) q q) Q ∧ Limbs Q ∧ Q.length = q ∧ (∀ j, j < i → Q[j]?.getD 0 = 0) ∧ valZ xs = valZ L + valZ ys * valZ Q ∧ valZ (L.drop i) < valZ ys) (fun iV _ => (intOf iV + 1).toNat)
  case atStart => exact ⟨q, _, _, rfl, Nat.le_refl _, O5.out, LL1.out, LN1.out, Q5.out, limbs_zeros _, by simp, fun j _ => by rw [List.getElem?_replicate]; split <;> rfl, by rw [valZ_zeros, VN1.out]; omega, TOP.out⟩
  case round =>
    obtain ⟨i, L, Q, rfl, hi, ho, hL, hlen, hoq, hLQ, hlq, hzq, hval, hlt⟩ := hrel
    have HO := Lib.hid ho
    have HL := Lib.hid hL
    have HLN := Lib.hid hlen
    have HOQ := Lib.hid hoq
    have HLQ := Lib.hid hLQ
    have HQN := Lib.hid hlq
    have HZQ := Lib.hid hzq
    have HV := Lib.hid hval
    have HLT := Lib.hid hlt
    clear ho hL hlen hoq hLQ hlq hzq hval hlt O5 Q5 TOP
    rcases Nat.eq_zero_or_pos i with h0 | h0
    · subst h0
      rw [show ((0 : Nat) : Int) - 1 = -1 by rfl]
      have t0 : decide ((0 : Int) ≤ -1) = false := by decide
      have E := Lib.hid (div_end HL.out HV.out M0.out HLT.out)
      have RQ := Lib.hid (HOQ.out.normed HLQ.out)
      have RR := Lib.hid (HO.out.normed HL.out)
      go_wp2_with fail
      go_ret2
      exact ⟨_, _, _, _, _, _, _, _, rfl, RQ.out.1, RR.out.1, E.out.1, E.out.2, qN, by omega, RQ.out.2.2, RR.out.2.2, RQ.out.2.1, RR.out.2.1, HO.out.2⟩
    · obtain ⟨j, rfl⟩ : ∃ j, i = j + 1 := ⟨i - 1, by omega⟩
      rw [show ((j + 1 : Nat) : Int) - 1 = (j : Int) by omega]
      have t0 : decide ((0 : Int) ≤ (j : Int)) = true := decide_eq_true (by omega)
      have DS := div_stepM HL.out HLT.out M2.out
      have hcap := own_cap32 HO.out.1
      have hNk : j + k + 1 ≤ N + 1 := by have := HQ.out; omega
      have DC := Lib.hid (digit_any w wr g (N + 1) cap j k (cap - j) cb b L ys HO.out HLN.out hgw HL.out hNk (by omega) HS.out h2 TP.out DS.2.1 DS.2.2)
      have PQ : 0 ≤ valZ (L.drop j) / valZ ys ∧ valZ (L.drop j) / valZ ys ≤ 4294967295 := by
        have a1 : 0 ≤ valZ (L.drop j) / valZ ys := Int.ediv_nonneg DS.1 (Int.le_of_lt M0.out)
        have a2 : valZ (L.drop j) / valZ ys < 4294967296 := Int.ediv_lt_of_lt_mul M0.out (by rw [Int.mul_comm]; exact DS.2.1)
        exact ⟨a1, by omega⟩
      have RMD : valZ (L.drop j) % valZ ys < valZ ys := Int.emod_lt_of_pos _ M0.out
      have RD := Lib.hid (fun (L' : List Int) (ht : L'.take j = L.take j) h' => div_round (Q := Q) ht rfl (HZQ.out j (by omega)) (by rw [HQN.out]; omega) HV.out h')
      generalize valZ (L.drop j) / valZ ys = d at *
      generalize valZ (L.drop j) % valZ ys = rm at *
      have i1 : IntKind.i64.wrap ((j : Int) + (k : Int)) = (j : Int) + (k : Int) := IntWalk.i64_in _ (by omega)
      have i2 : IntKind.i64.wrap ((j : Int) + (k : Int) + 1) = (j : Int) + (k : Int) + 1 := IntWalk.i64_in _ (by omega)
      have i3 : IntKind.i64.wrap ((j : Int) - 1) = (j : Int) - 1 := IntWalk.i64_in _ (by omega)
      have i4 : (j : Int) ≤ (j : Int) + (k : Int) + 1 := by omega
      have i5 : (j : Int) + (k : Int) + 1 ≤ (cap : Int) := by omega
      have i6 : 0 ≤ (j : Int) + (k : Int) + 1 := by omega
      have i7 : ((j : Int) + (k : Int) + 1).toNat = j + k + 1 := by omega
      have i8 : j + k + 1 - j = k + 1 := by omega
      have i9 : ¬ cap = j := by omega
      have iq : (j : Int) < (q : Int) := by omega
      clear DS
      go_wp2_with fail
      refine DC.out.mono ?_
      rintro e w6 ⟨L', rfl, ho6, hA6, hv6, hon6⟩
      have OQ6 := HOQ.out.only hon6 hne ho6.2
      obtain ⟨cx, fx⟩ := OQ6.cell j (by rw [HQN.out]; omega)
      have V6 := Lib.hid (RD.out L' hA6.2.2.1 hv6)
      have S6 : Hid (valZ (L'.drop j) < valZ ys) := Lib.hid (by rw [hv6]; exact RMD)
      have L6 := Lib.hid hA6.2.1
      have N6 : Hid (L'.length = N + 1) := Lib.hid (hA6.1.trans HLN.out)
      have O7 := Lib.hid (ho6.only (Only.set (.refl gq w6) j (.int .u32 d)) hne.symm (ho6.2.setCell (p := ⟨gq, j, none⟩) hwq _))
      have Q7 := Lib.hid (OQ6.set hwq j d)
      clear OQ6 ho6 hA6 hv6 hon6 RD DC HO HOQ HV HLT
      go_wp2_with fail
      go_roundw
      case rel => exact ⟨j, L', _, rfl, by omega, O7.out, L6.out, N6.out, Q7.out, limbs_set HLQ.out j PQ.1 PQ.2, by rw [List.length_set]; exact HQN.out, fun m hm => by rw [List.getElem?_set_ne (by omega)]; exact HZQ.out m (by omega), V6.out, S6.out⟩
      case measure => simp only [intOf]; omega

end Go.Proofs.YtdhablbfblkagaaDoor

namespace Go.Proofs.YtdhablbfblkagaaDoor
open Go.RowKit
set_option linter.unusedVariables false

theorem Tryd.info32s : (Tryd.prog.info? 23).map (fun i => (i.zero, i.size, i.bytes)) = some (some (.int .u32 0), 1, 4) := by kernel_rfl

theorem out_alloc32 (w : World) (n : Nat) (hn : n ≤ 1000000) : Out32 w (w.alloc (.cells (madeCells #[.int .u32 0] n) 23)) (.slice (some ⟨w.heap.size, 0, none⟩) n n) (List.replicate n 0) := by
  refine ⟨⟨by simp, .inr ⟨w.heap.size, n, _, by simp, Nat.le_refl _, heap_alloc_new w _, by simp, by unfold maxLen; omega, by rw [size_madeCells]; simp, ?_⟩⟩, (Below.refl _ _).alloc (Nat.le_refl _) _⟩
  rw [toList_madeCells_one]
  simp

set_option maxHeartbeats 1000000 in
set_option maxRecDepth 10000 in
theorem bylimb_any (a : Option Addr) (n ca : Nat) (xs : List Int) (m : Int) (w : World) (hr : Row32 w a n xs) (hn : n ≤ 40000) (m0 : 0 < m) (m1 : m ≤ 4294967295) :
    Calls Tryd.prog 60 #[.slice a n ca, .int .u32 m] w (Parted (valZ xs / m) (valZ xs % m) (n + 1) w) := by
  have HR := Lib.hid hr
  have w2 : IntKind.i64.wrap ((n : Int) - 1) = (n : Int) - 1 := IntWalk.i64_in _ (by omega)
  have hm1 := run_make_row' (P := Tryd.prog) 41 23 (.int .u32 0) 4 Tryd.underlying41 Tryd.info32s rfl .i64 .i64 n (by omega) (by omega)
  have hm2 : ∀ W : World, (Instr.makeSlice 41 (.int .i64 1) (.int .i64 1)).run Tryd.prog W = .ok (.slice (some ⟨W.heap.size, 0, none⟩) 1 1) (W.alloc (.cells (madeCells #[.int .u32 0] 1) 23)) := run_make_row' (P := Tryd.prog) 41 23 (.int .u32 0) 4 Tryd.underlying41 Tryd.info32s rfl .i64 .i64 1 (by omega) (by omega)
  clear hr
  go_enter Tryd.func60, Tryd.ntmps60
  go_wp2_with fail
  go_region
  · obtain ⟨gq, h0⟩ : ∃ gq, gq = w.heap.size := ⟨_, rfl⟩
    obtain ⟨gr, h1⟩ : ∃ gr, gr = w.heap.size + 1 := ⟨_, rfl⟩
    have FA : Out32 w (((w.alloc (.cells (madeCells #[.int .u32 0] n) 23)).alloc (.cells (madeCells #[.int .u32 0] 1) 23)).drew) (.slice (some ⟨gq, 0, none⟩) n n) (List.replicate n 0) := by rw [h0]; exact ((out_alloc32 w n (by omega)).alloc _).drew
    have FB : Out32 w (((w.alloc (.cells (madeCells #[.int .u32 0] n) 23)).alloc (.cells (madeCells #[.int .u32 0] 1) 23)).drew) (.slice (some ⟨gr, 0, none⟩) 1 1) (List.replicate 1 0) := by
      have := (out_alloc32 (w.alloc (.cells (madeCells #[.int .u32 0] n) 23)) 1 (by omega)).wider ((Below.refl _ _).alloc (Nat.le_refl _) _)
      simp only [World.size_alloc] at this
      rw [h1]
      exact this.drew
    have HQ0 := Lib.hid FA
    have HR0 := Lib.hid FB
    have hgq : w.heap.size ≤ gq := by omega
    have hgr : w.heap.size ≤ gr := by omega
    have hne : gq ≠ gr := by omega
    rw [← h1, ← h0]
    clear FA FB h0 h1 hm1 hm2
    generalize ((w.alloc (.cells (madeCells #[.int .u32 0] n) 23)).alloc (.cells (madeCells #[.int .u32 0] 1) 23)).drew = w5 at *
    go_wp2_with fail
    go_loopw [6] (fun iV wr => ∃ (i : Nat) (Q : List Int) (r : Int), iV = .int .i64 ((i : Int) - 1) ∧ i ≤ n ∧ Out32 w wr (.slice (some ⟨gq, 0, none⟩) n n) Q ∧ Limbs Q ∧ Q.length = n ∧ Out32 w wr (.slice (some ⟨gr, 0, none⟩) 1 1) [r] ∧ 0 ≤ r ∧ r < m ∧ valZ (xs.drop i) = m * valZ (Q.drop i) + r) (fun iV _ => (intOf iV + 1).toNat)
    case atStart => exact ⟨n, _, 0, rfl, Nat.le_refl _, HQ0.out, limbs_zeros _, by simp, HR0.out, by omega, m0, by rw [List.drop_of_length_le (by rw [HR.out.1]; omega), List.drop_of_length_le (by simp)]; simp [valZ]⟩
    case round =>
      obtain ⟨i, Q, r, rfl, hi, hoq, hLQ, hlq, hor, r0, r1, hval⟩ := hrel
      have HOQ := Lib.hid hoq
      have HLQ := Lib.hid hLQ
      have HQN := Lib.hid hlq
      have HOR := Lib.hid hor
      have HV := Lib.hid hval
      have hszr := hoq.2.size
      clear hoq hLQ hlq hor hval HQ0 HR0
      rcases Nat.eq_zero_or_pos i with h0 | h0
      · subst h0
        rw [show ((0 : Nat) : Int) - 1 = -1 by rfl]
        have t0 : decide ((0 : Int) ≤ -1) = false := by decide
        have E := HV.out
        rw [List.drop_zero, List.drop_zero] at E
        have EE := Lib.hid (ediv_is m0 (a := valZ xs) (q := valZ Q) (r := r) (by rw [E, Int.mul_comm m]) r0 r1)
        have RQ := Lib.hid (HOQ.out.normed HLQ.out)
        have RR := Lib.hid (HOR.out.normed (a := some ⟨gr, 0, none⟩) (n := 1) (c := 1) (by intro y hy; simp at hy; omega))
        clear E
        go_wp2_with fail
        go_ret2
        exact ⟨_, _, _, _, _, _, _, _, rfl, RQ.out.1, RR.out.1, EE.out.1.symm, by simp [valZ, EE.out.2], by omega, by omega, RQ.out.2.2, RR.out.2.2, RQ.out.2.1, RR.out.2.1, HOQ.out.2⟩
      · obtain ⟨j, rfl⟩ : ∃ j, i = j + 1 := ⟨i - 1, by omega⟩
        rw [show ((j + 1 : Nat) : Int) - 1 = (j : Int) by omega]
        have t0 : decide ((0 : Int) ≤ (j : Int)) = true := decide_eq_true (by omega)
        have i3 : IntKind.i64.wrap ((j : Int) - 1) = (j : Int) - 1 := IntWalk.i64_in _ (by omega)
        have iN : (j : Int) < (n : Int) := by omega
        have i1 : (0 : Int) < 1 := by omega
        obtain ⟨b1, o1, rfl, hb1, hc1⟩ := HR.out.2.2 (by omega)
        have cx := later32 (base := w.heap.size) ((HOQ.out.2.cell (p := ⟨b1, o1 + j, none⟩) hb1).trans (hc1 j (by omega))) hb1
        have cr : wr.drew.cell? ⟨gr, 0, none⟩ = some (.int .u32 r) := (HOR.out.cell 0 (by simp)).1
        have xr := HR.out.num j
        have OR := one_round HV.out (by rw [HQN.out]; omega) m0 r1 r0 HR.out.2.1 m1
        generalize xs[j]?.getD 0 = x at *
        have DV := Lib.hid (div32_any r x m wr.drew r0 r1 xr.1 xr.2 m1)
        generalize (r * 4294967296 + x) / m = d at *
        generalize (r * 4294967296 + x) % m = rm at *
        have V6 := Lib.hid OR.1
        have d2 := OR.2
        clear hc1 HV OR
        go_wp2_with fail
        refine wp_region_ord (Below w.heap.size) (Below.refl _) (fun _ _ _ => Below.trans) [(0, false), (1, false), (2, false), (3, false), (4, false), (6, false), (7, false), (8, false), (9, false), (10, false), (5, true), (11, true), (12, false), (13, false), (14, false), (15, false), (16, true), (17, false), (18, true)] (by kernel_rfl) (by kernel_rfl) rfl (by kernel_rfl) (fun _ _ _ _ _ h => h) ?_
        repeat (refine ord_take _ rfl (by rfl) (fun W hW => by go_simp; first | done | rfl) ?_; simp only [Act.put, List.setIfInBounds_toArray, List.set_cons_zero, List.set_cons_succ])
        refine ord_sole rfl (by rfl) (fun K1 hK1 => ?_)
        unfold Oper.wp
        go_simp
        refine hK1 _ _ (Below.refl _ _) ?_
        clear hK1 K1 cx cr
        try simp only [Act.put, List.setIfInBounds_toArray, List.set_cons_zero, List.set_cons_succ]
        refine ord_sole rfl (by rfl) (fun K1 hK1 => ?_)
        go_simp
        refine DV.out.mono ?_
        rintro e w6 ⟨rfl, hb6⟩
        have OQ6 := HOQ.out.drew.below hb6
        have OR6 := HOR.out.drew.below hb6
        refine hK1 _ _ (hb6.mono (show w.heap.size ≤ wr.drew.heap.size from hszr)) ?_
        clear hK1 K1 hb6 HOQ HOR DV
        obtain ⟨c1, f1⟩ := OQ6.cell j (by rw [HQN.out]; omega)
        try simp only [Act.put, List.setIfInBounds_toArray, List.set_cons_zero, List.set_cons_succ]
        repeat (refine ord_take _ rfl (by rfl) (fun W hW => by go_simp; first | done | rfl) ?_; try simp only [Act.put, List.setIfInBounds_toArray, List.set_cons_zero, List.set_cons_succ])
        refine ord_sole rfl (by rfl) (fun K1 hK1 => ?_)
        unfold Oper.wp
        go_simp
        refine hK1 _ _ ((Below.refl _ _).setCell (p := ⟨gq, j, none⟩) hgq _) ?_
        have OR7 := OR6.only (Only.set (.refl gq w6) j (.int .u32 d)) (Ne.symm hne) (OR6.2.setCell (p := ⟨gq, j, none⟩) hgq _)
        have OQ7 := OQ6.set hgq j d
        clear hK1 K1 c1 f1 OQ6 OR6
        generalize w6.setCell ⟨gq, j, none⟩ (.int .u32 d) = w7 at *
        obtain ⟨c2, f2⟩ := OR7.cell 0 (by simp)
        try simp only [Act.put, List.setIfInBounds_toArray, List.set_cons_zero, List.set_cons_succ]
        refine ord_take _ rfl (by rfl) (fun W hW => by go_simp; first | done | rfl) ?_
        try simp only [Act.put, List.setIfInBounds_toArray, List.set_cons_zero, List.set_cons_succ]
        refine ord_sole rfl (by rfl) (fun K1 hK1 => ?_)
        unfold Oper.wp
        go_simp
        refine hK1 _ _ ((Below.refl _ _).setCell (p := ⟨gr, 0, none⟩) hgr _) ?_
        clear hK1 K1 c2 f2
        refine ord_end ?_
        have O8 := Lib.hid (OQ7.only (Only.set (.refl gr w7) 0 (.int .u32 rm)) hne (OQ7.2.setCell (p := ⟨gr, 0, none⟩) hgr _))
        have R8 := Lib.hid (OR7.set hgr 0 rm)
        clear OR7 OQ7
        generalize w7.setCell ⟨gr, 0, none⟩ (.int .u32 rm) = w8 at *
        go_wp2_with fail
        go_roundw
        case rel => exact ⟨j, _, rm, rfl, by omega, O8.out, limbs_set HLQ.out j d2.2.2.1 d2.2.2.2, by rw [List.length_set]; exact HQN.out, R8.out, d2.1, d2.2.1, V6.out⟩
        case measure => simp only [intOf]; omega
  · obtain ⟨gr, h0⟩ : ∃ gr, gr = w.heap.size := ⟨_, rfl⟩
    obtain ⟨gq, h1⟩ : ∃ gq, gq = w.heap.size + 1 := ⟨_, rfl⟩
    have FA : Out32 w (((w.alloc (.cells (madeCells #[.int .u32 0] 1) 23)).alloc (.cells (madeCells #[.int .u32 0] n) 23)).drew) (.slice (some ⟨gr, 0, none⟩) 1 1) (List.replicate 1 0) := by rw [h0]; exact ((out_alloc32 w 1 (by omega)).alloc _).drew
    have FB : Out32 w (((w.alloc (.cells (madeCells #[.int .u32 0] 1) 23)).alloc (.cells (madeCells #[.int .u32 0] n) 23)).drew) (.slice (some ⟨gq, 0, none⟩) n n) (List.replicate n 0) := by
      have := (out_alloc32 (w.alloc (.cells (madeCells #[.int .u32 0] 1) 23)) n (by omega)).wider ((Below.refl _ _).alloc (Nat.le_refl _) _)
      simp only [World.size_alloc] at this
      rw [h1]
      exact this.drew
    have HR0 := Lib.hid FA
    have HQ0 := Lib.hid FB
    have hgr : w.heap.size ≤ gr := by omega
    have hgq : w.heap.size ≤ gq := by omega
    have hne : gq ≠ gr := by omega
    rw [← h1, ← h0]
    clear FA FB h0 h1 hm1 hm2
    generalize ((w.alloc (.cells (madeCells #[.int .u32 0] 1) 23)).alloc (.cells (madeCells #[.int .u32 0] n) 23)).drew = w5 at *
    go_wp2_with fail
    go_loopw [6] (fun iV wr => ∃ (i : Nat) (Q : List Int) (r : Int), iV = .int .i64 ((i : Int) - 1) ∧ i ≤ n ∧ Out32 w wr (.slice (some ⟨gq, 0, none⟩) n n) Q ∧ Limbs Q ∧ Q.length = n ∧ Out32 w wr (.slice (some ⟨gr, 0, none⟩) 1 1) [r] ∧ 0 ≤ r ∧ r < m ∧ valZ (xs.drop i) = m * valZ (Q.drop i) + r) (fun iV _ => (intOf iV + 1).toNat)
    case atStart => exact ⟨n, _, 0, rfl, Nat.le_refl _, HQ0.out, limbs_zeros _, by simp, HR0.out, by omega, m0, by rw [List.drop_of_length_le (by rw [HR.out.1]; omega), List.drop_of_length_le (by simp)]; simp [valZ]⟩
    case round =>
      obtain ⟨i, Q, r, rfl, hi, hoq, hLQ, hlq, hor, r0, r1, hval⟩ := hrel
      have HOQ := Lib.hid hoq
      have HLQ := Lib.hid hLQ
      have HQN := Lib.hid hlq
      have HOR := Lib.hid hor
      have HV := Lib.hid hval
      have hszr := hoq.2.size
      clear hoq hLQ hlq hor hval HQ0 HR0
      rcases Nat.eq_zero_or_pos i with h0 | h0
      · subst h0
        rw [show ((0 : Nat) : Int) - 1 = -1 by rfl]
        have t0 : decide ((0 : Int) ≤ -1) = false := by decide
        have E := HV.out
        rw [List.drop_zero, List.drop_zero] at E
        have EE := Lib.hid (ediv_is m0 (a := valZ xs) (q := valZ Q) (r := r) (by rw [E, Int.mul_comm m]) r0 r1)
        have RQ := Lib.hid (HOQ.out.normed HLQ.out)
        have RR := Lib.hid (HOR.out.normed (a := some ⟨gr, 0, none⟩) (n := 1) (c := 1) (by intro y hy; simp at hy; omega))
        clear E
        go_wp2_with fail
        go_ret2
        exact ⟨_, _, _, _, _, _, _, _, rfl, RQ.out.1, RR.out.1, EE.out.1.symm, by simp [valZ, EE.out.2], by omega, by omega, RQ.out.2.2, RR.out.2.2, RQ.out.2.1, RR.out.2.1, HOQ.out.2⟩
      · obtain ⟨j, rfl⟩ : ∃ j, i = j + 1 := ⟨i - 1, by omega⟩
        rw [show ((j + 1 : Nat) : Int) - 1 = (j : Int) by omega]
        have t0 : decide ((0 : Int) ≤ (j : Int)) = true := decide_eq_true (by omega)
        have i3 : IntKind.i64.wrap ((j : Int) - 1) = (j : Int) - 1 := IntWalk.i64_in _ (by omega)
        have iN : (j : Int) < (n : Int) := by omega
        have i1 : (0 : Int) < 1 := by omega
        obtain ⟨b1, o1, rfl, hb1, hc1⟩ := HR.out.2.2 (by omega)
        have cx := later32 (base := w.heap.size) ((HOQ.out.2.cell (p := ⟨b1, o1 + j, none⟩) hb1).trans (hc1 j (by omega))) hb1
        have cr : wr.drew.cell? ⟨gr, 0, none⟩ = some (.int .u32 r) := (HOR.out.cell 0 (by simp)).1
        have xr := HR.out.num j
        have OR := one_round HV.out (by rw [HQN.out]; omega) m0 r1 r0 HR.out.2.1 m1
        generalize xs[j]?.getD 0 = x at *
        have DV := Lib.hid (div32_any r x m wr.drew r0 r1 xr.1 xr.2 m1)
        generalize (r * 4294967296 + x) / m = d at *
        generalize (r * 4294967296 + x) % m = rm at *
        have V6 := Lib.hid OR.1
        have d2 := OR.2
        clear hc1 HV OR
        go_wp2_with fail
        refine wp_region_ord (Below w.heap.size) (Below.refl _) (fun _ _ _ => Below.trans) [(0, false), (1, false), (2, false), (3, false), (4, false), (6, false), (7, false), (8, false), (9, false), (10, false), (5, true), (11, true), (12, false), (13, false), (14, false), (15, false), (16, true), (17, false), (18, true)] (by kernel_rfl) (by kernel_rfl) rfl (by kernel_rfl) (fun _ _ _ _ _ h => h) ?_
        repeat (refine ord_take _ rfl (by rfl) (fun W hW => by go_simp; first | done | rfl) ?_; simp only [Act.put, List.setIfInBounds_toArray, List.set_cons_zero, List.set_cons_succ])
        refine ord_sole rfl (by rfl) (fun K1 hK1 => ?_)
        unfold Oper.wp
        go_simp
        refine hK1 _ _ (Below.refl _ _) ?_
        clear hK1 K1 cx cr
        try simp only [Act.put, List.setIfInBounds_toArray, List.set_cons_zero, List.set_cons_succ]
        refine ord_sole rfl (by rfl) (fun K1 hK1 => ?_)
        go_simp
        refine DV.out.mono ?_
        rintro e w6 ⟨rfl, hb6⟩
        have OQ6 := HOQ.out.drew.below hb6
        have OR6 := HOR.out.drew.below hb6
        refine hK1 _ _ (hb6.mono (show w.heap.size ≤ wr.drew.heap.size from hszr)) ?_
        clear hK1 K1 hb6 HOQ HOR DV
        obtain ⟨c1, f1⟩ := OQ6.cell j (by rw [HQN.out]; omega)
        try simp only [Act.put, List.setIfInBounds_toArray, List.set_cons_zero, List.set_cons_succ]
        repeat (refine ord_take _ rfl (by rfl) (fun W hW => by go_simp; first | done | rfl) ?_; try simp only [Act.put, List.setIfInBounds_toArray, List.set_cons_zero, List.set_cons_succ])
        refine ord_sole rfl (by rfl) (fun K1 hK1 => ?_)
        unfold Oper.wp
        go_simp
        refine hK1 _ _ ((Below.refl _ _).setCell (p := ⟨gq, j, none⟩) hgq _) ?_
        have OR7 := OR6.only (Only.set (.refl gq w6) j (.int .u32 d)) (Ne.symm hne) (OR6.2.setCell (p := ⟨gq, j, none⟩) hgq _)
        have OQ7 := OQ6.set hgq j d
        clear hK1 K1 c1 f1 OQ6 OR6
        generalize w6.setCell ⟨gq, j, none⟩ (.int .u32 d) = w7 at *
        obtain ⟨c2, f2⟩ := OR7.cell 0 (by simp)
        try simp only [Act.put, List.setIfInBounds_toArray, List.set_cons_zero, List.set_cons_succ]
        refine ord_take _ rfl (by rfl) (fun W hW => by go_simp; first | done | rfl) ?_
        try simp only [Act.put, List.setIfInBounds_toArray, List.set_cons_zero, List.set_cons_succ]
        refine ord_sole rfl (by rfl) (fun K1 hK1 => ?_)
        unfold Oper.wp
        go_simp
        refine hK1 _ _ ((Below.refl _ _).setCell (p := ⟨gr, 0, none⟩) hgr _) ?_
        clear hK1 K1 c2 f2
        refine ord_end ?_
        have O8 := Lib.hid (OQ7.only (Only.set (.refl gr w7) 0 (.int .u32 rm)) hne (OQ7.2.setCell (p := ⟨gr, 0, none⟩) hgr _))
        have R8 := Lib.hid (OR7.set hgr 0 rm)
        clear OR7 OQ7
        generalize w7.setCell ⟨gr, 0, none⟩ (.int .u32 rm) = w8 at *
        go_wp2_with fail
        go_roundw
        case rel => exact ⟨j, _, rm, rfl, by omega, O8.out, limbs_set HLQ.out j d2.2.2.1 d2.2.2.2, by rw [List.length_set]; exact HQN.out, R8.out, d2.1, d2.2.1, V6.out⟩
        case measure => simp only [intOf]; omega

end Go.Proofs.YtdhablbfblkagaaDoor

namespace Go.Proofs.YtdhablbfblkagaaDoor
open Go.RowKit
set_option linter.unusedVariables false

/-- What is left of x, divided by m; 0 where m is 0. -/
def remZ (x m : Int) : Int := if m = 0 then 0 else x % m
theorem remZ_pos {x m : Int} (h : 0 < m) : remZ x m = x % m := if_neg (by omega)
theorem remZ_nonneg {x m : Int} (h : 0 ≤ m) : 0 ≤ remZ x m := by
  unfold remZ
  split
  · omega
  · exact Int.emod_nonneg _ (by omega)
theorem remZ_lt {x m : Int} (h : 0 < m) : remZ x m < m := by rw [remZ_pos h]; exact Int.emod_lt_of_pos _ h
/-- A quotient, what is left, and whether there are such. -/
def ResQ (x m : Int) (n k : Nat) (w : World) (e : Ending) (w' : World) : Prop :=
  ∃ (a : Option Addr) (n1 c : Nat) (b : Option Addr) (n2 d : Nat), e = .returned (.tuple #[.slice a n1 c, .slice b n2 d, .bool (!decide (m = 0))]) ∧ Norm w' (x / m) a n1 c ∧ Norm w' (remZ x m) b n2 d ∧ n1 ≤ n ∧ n2 ≤ k ∧ Below w.heap.size w w'
/-- What is left, and whether there is such. -/
def ResR (v m : Int) (k : Nat) (w : World) (e : Ending) (w' : World) : Prop :=
  ∃ (a : Option Addr) (n c : Nat), e = .returned (.tuple #[.slice a n c, .bool (!decide (m = 0))]) ∧ Norm w' v a n c ∧ n ≤ k ∧ Below w.heap.size w w'
theorem norm_nil (w : World) : Norm w 0 none 0 0 := ⟨by rw [limZ_zero]; rfl, by rw [limZ_zero]; exact Row32.nil _ _, Nat.le_refl _, fun _ => rfl⟩
theorem quo_len {x m : Int} {n : Nat} (hx : 0 ≤ x ∧ x < 4294967296 ^ n) (hm : 0 ≤ m) : (limZ (x / m)).length ≤ n := by
  refine limZ_le (Int.ediv_nonneg hx.1 hm) ?_
  rcases (show m = 0 ∨ 0 < m by omega) with rfl | h
  · rw [Int.ediv_zero]; exact pow_pos32 n
  · have := Int.ediv_le_self m hx.1
    omega
theorem rem_len {x m : Int} {k : Nat} (hm : 0 ≤ m ∧ m < 4294967296 ^ k) : (limZ (remZ x m)).length ≤ k := by
  refine limZ_le (remZ_nonneg hm.1) ?_
  rcases (show m = 0 ∨ 0 < m by omega) with rfl | h
  · exact pow_pos32 k
  · have := remZ_lt (x := x) h
    omega

set_option maxHeartbeats 1000000 in
set_option maxRecDepth 10000 in
theorem divmod_call {w : World} {x m : Int} {a b : Option Addr} {n k ca cb : Nat} (hx : Num w x a n ca) (hm : Num w m b k cb) (hn : n ≤ 30000) (hk : k ≤ 30000) :
    Calls Tryd.prog 43 #[.slice a n ca, .slice b k cb] w (ResQ x m n k w) := by
  have m0 := hm.nonneg.1
  have QL := Lib.hid (quo_len hx.nonneg m0)
  have RL := Lib.hid (rem_len (x := x) hm.nonneg)
  have BC := Lib.hid (bare_call hm (by omega))
  have HX := Lib.hid hx
  clear hx hm
  go_enter Tryd.func43, Tryd.ntmps43
  go_wp2_with fail
  refine BC.out.mono ?_
  rintro e w2 ⟨b', k', c', rfl, hN, hk', hb2⟩
  have X2 := Lib.hid (HX.out.below hb2)
  have B2 := Lib.hid hb2
  obtain ⟨hkl, hrow, hkc, hnil⟩ := hN
  clear BC HX hb2
  have HK := Lib.hid hkl
  have HW := Lib.hid hrow
  obtain ⟨xs, hxr, hxv, hxc, hxn⟩ := X2.out
  have HXR := Lib.hid hxr
  have HXV := Lib.hid hxv
  have HXN := Lib.hid hxn
  have VM := limZ_val m0
  have HVM := Lib.hid VM
  clear hkl hrow hxr hxv hxc hxn VM
  by_cases h0 : k' = 0
  · have hz := limZ_nil m0 (by rw [← HK.out]; exact h0)
    subst h0
    subst hz
    clear HVM HW HK
    go_wp2_with fail
    go_ret3
    exact ⟨none, 0, 0, none, 0, 0, by simp, by rw [Int.ediv_zero]; exact norm_nil _, norm_nil _, Nat.zero_le _, Nat.zero_le _, B2.out⟩
  · have mp : 0 < m := by
      rcases (show m = 0 ∨ 0 < m by omega) with h | h
      · subst h
        have := HK.out
        rw [limZ_zero] at this
        exact absurd this h0
      · exact h
    by_cases h1 : k' = 1
    · subst h1
      obtain ⟨bb, off, rfl, hbb, hcc⟩ := HW.out.2.2 (by omega)
      have c0 := hcc 0 (by omega)
      have e1 : (limZ m)[0]?.getD 0 = m := by
        have l1 := HK.out
        have v := HVM.out
        generalize limZ m = l at *
        match l, l1 with
        | [y], _ => simp [valZ] at v; simpa using v
      have mr := (limZ_limbs m).at 0
      rw [e1, Nat.add_zero] at c0
      rw [e1] at mr
      have t0 : (((1 : Nat) : Int) == 0) = false := rfl
      have i1 : (0 : Int) < ((1 : Nat) : Int) := by omega
      have PC := Lib.hid (bylimb_any a n ca xs m w2 HXR.out (by omega) mp mr.2)
      rw [HXV.out] at PC
      clear hcc HW HVM HXV HXR HXN
      go_wp2_with fail
      refine PC.out.mono ?_
      rintro e w3 ⟨qa, ra, nq, cq, nr, cr, zs, us, rfl, hrq, hrr, vq, vr, hnq, hnr, nlq, nlr, hcq, hcr, hb3⟩
      have B3 := Below.step B2.out hb3
      have NQ : Num w3 (x / m) qa nq cq := ⟨zs, hrq, vq, hcq, nlq⟩
      have NR : Num w3 (remZ x m) ra nr cr := ⟨us, hrr, by rw [vr, remZ_pos mp], hcr, nlr⟩
      have C1 := Lib.hid (bare_call NQ (by omega))
      have H1 := Lib.hid NR
      have HB3 := Lib.hid B3
      clear hrq hrr vq vr hcq nlq hcr nlr hb3 B3 NQ NR PC X2
      go_wp2_with fail
      refine C1.out.mono ?_
      rintro e w4 ⟨q1, l1, c1, rfl, hN1, hl1, hb4⟩
      have C2 := Lib.hid (bare_call (H1.out.below hb4) (by omega))
      have HN1 := Lib.hid hN1
      have HB4 := Lib.hid hb4
      clear hN1 hb4 C1 H1
      go_wp2_with fail
      refine C2.out.mono ?_
      rintro e w5 ⟨q2, l2, c2, rfl, hN2, hl2, hb5⟩
      have HN2 := Lib.hid hN2
      have HB5 := Lib.hid hb5
      clear hN2 hb5 C2
      go_wp2_with fail
      go_ret3
      exact ⟨q1, l1, c1, q2, l2, c2, by rw [show decide (m = 0) = false from decide_eq_false (by omega)]; rfl, HN1.out.below HB5.out, HN2.out, by rw [HN1.out.1]; exact QL.out, by rw [HN2.out.1]; exact RL.out, Below.step (Below.step HB3.out HB4.out) HB5.out⟩
    · have t0 : ((k' : Int) == 0) = false := by simp; omega
      have t1 : ((k' : Int) == 1) = false := by simp; omega
      have HTOP : (limZ m)[k' - 1]?.getD 0 ≠ 0 := by
        have := limZ_last (n := m) (k := k' - 1) (by rw [← HK.out]; omega)
        exact this
      have PC := Lib.hid (divide_any a b' n ca k' c' xs (limZ m) w2 HXR.out (by omega) HXN.out HW.out (by omega) (by omega) HTOP)
      rw [HXV.out, HVM.out] at PC
      clear HTOP HW HVM HXV HXR HXN
      go_wp2_with fail
      refine PC.out.mono ?_
      rintro e w3 ⟨qa, ra, nq, cq, nr, cr, zs, us, rfl, hrq, hrr, vq, vr, hnq, hnr, nlq, nlr, hcq, hcr, hb3⟩
      have B3 := Below.step B2.out hb3
      have NQ : Num w3 (x / m) qa nq cq := ⟨zs, hrq, vq, hcq, nlq⟩
      have NR : Num w3 (remZ x m) ra nr cr := ⟨us, hrr, by rw [vr, remZ_pos mp], hcr, nlr⟩
      have C1 := Lib.hid (bare_call NQ (by omega))
      have H1 := Lib.hid NR
      have HB3 := Lib.hid B3
      clear hrq hrr vq vr hcq nlq hcr nlr hb3 B3 NQ NR PC X2
      go_wp2_with fail
      refine C1.out.mono ?_
      rintro e w4 ⟨q1, l1, c1, rfl, hN1, hl1, hb4⟩
      have C2 := Lib.hid (bare_call (H1.out.below hb4) (by omega))
      have HN1 := Lib.hid hN1
      have HB4 := Lib.hid hb4
      clear hN1 hb4 C1 H1
      go_wp2_with fail
      refine C2.out.mono ?_
      rintro e w5 ⟨q2, l2, c2, rfl, hN2, hl2, hb5⟩
      have HN2 := Lib.hid hN2
      have HB5 := Lib.hid hb5
      clear hN2 hb5 C2
      go_wp2_with fail
      go_ret3
      exact ⟨q1, l1, c1, q2, l2, c2, by rw [show decide (m = 0) = false from decide_eq_false (by omega)]; rfl, HN1.out.below HB5.out, HN2.out, by rw [HN1.out.1]; exact QL.out, by rw [HN2.out.1]; exact RL.out, Below.step (Below.step HB3.out HB4.out) HB5.out⟩

end Go.Proofs.YtdhablbfblkagaaDoor
