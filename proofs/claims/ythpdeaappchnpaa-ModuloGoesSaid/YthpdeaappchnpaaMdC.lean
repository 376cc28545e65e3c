/-
  Plain facts of the package's long division by limbs, for stage 8 (modulo). Nothing of the program is named here.
-/
import Derived.Test.YthpdeaappchnpaaMdA
import Derived.Test.YthpdeaappchnpaaLimV
import Derived.Test.YthpdeaappchnpaaLimQ
namespace Go.Proofs.Ythpdeaappchnpaa
open Go.RowKit
set_option linter.unusedVariables false

/-- The row L' differs from L at most in the limbs i to i + k. -/
def Around (L L' : List Int) (i k : Nat) : Prop := L'.length = L.length ∧ Limbs L' ∧ L'.take i = L.take i ∧ ∀ j, i + k + 1 ≤ j → L'[j]?.getD 0 = L[j]?.getD 0
theorem Around.refl {L : List Int} (h : Limbs L) (i k : Nat) : Around L L i k := ⟨rfl, h, rfl, fun _ _ => rfl⟩
theorem Around.set {L L' : List Int} {i k j : Nat} {v : Int} (h : Around L L' i k) (hj : j ≤ k) (v0 : 0 ≤ v) (v1 : v ≤ 4294967295) : Around L (L'.set (i + j) v) i k := by
  refine ⟨by rw [List.length_set]; exact h.1, limbs_set h.2.1 _ v0 v1, ?_, fun m hm => ?_⟩
  · rw [List.take_set_of_le (by omega)]
    exact h.2.2.1
  · rw [List.getElem?_set_ne (by omega)]
    exact h.2.2.2 m hm
theorem Around.trans {L L' L'' : List Int} {i k : Nat} (h : Around L L' i k) (h2 : Around L' L'' i k) : Around L L'' i k :=
  ⟨h2.1.trans h.1, h2.2.1, h2.2.2.1.trans h.2.2.1, fun j hj => (h2.2.2.2 j hj).trans (h.2.2.2 j hj)⟩
theorem drop_set32 {L : List Int} {i j : Nat} (v : Int) (h : i + j < L.length) : valZ ((L.set (i + j) v).drop i) = valZ (L.drop i) + 4294967296 ^ j * (v - L[i + j]?.getD 0) := by
  rw [List.drop_set, if_neg (by omega), show i + j - i = j by omega, valZ_set _ _ _ (by rw [List.length_drop]; omega), List.getElem?_drop]
/-- Where nothing lies above, a part's number is that of all from there on. -/
theorem drop_lt {L : List Int} (hL : Limbs L) {i n : Nat} (hz : ∀ j, i + n ≤ j → L[j]?.getD 0 = 0) : 0 ≤ valZ (L.drop i) ∧ valZ (L.drop i) < 4294967296 ^ n ∧ valZ ((L.drop i).take n) = valZ (L.drop i) := by
  have e := valZ_parts (L.drop i) n
  have z : ∀ l : List Int, (∀ j : Nat, l[j]?.getD 0 = 0) → valZ l = 0 := by
    intro l
    induction l with
    | nil => intro _; rfl
    | cons x xs ih =>
      intro h
      have h0 := h 0
      rw [valZ, ih (fun j => by have := h (j + 1); rwa [List.getElem?_cons_succ] at this)]
      simp at h0
      omega
  have e2 : valZ ((L.drop i).drop n) = 0 := z _ (fun j => by rw [List.drop_drop, List.getElem?_drop]; exact hz _ (by omega))
  rw [e2, Int.mul_zero, Int.add_zero] at e
  have t := take_lt (hL.drop i) n
  rw [← e] at t
  exact ⟨t.1, t.2, e.symm⟩
theorem high_zero {L : List Int} (hL : Limbs L) {s k : Nat} (h : valZ (L.drop s) < 4294967296 ^ k) : ∀ j, s + k ≤ j → L[j]?.getD 0 = 0 := by
  intro j hj
  have e := valZ_parts (L.drop s) (j - s)
  rw [List.drop_drop, show s + (j - s) = j by omega, valZ_drop L j] at e
  have t := take_lt (hL.drop s) (j - s)
  have r := hL.at j
  have n := valZ_nonneg (hL.drop (j + 1))
  have p := pow_mono32 (show k ≤ j - s by omega)
  have p2 := pow_pos32 (j - s)
  generalize (4294967296 : Int) ^ (j - s) = P at *
  generalize valZ (L.drop (j + 1)) = V at *
  rcases (show L[j]?.getD 0 + 4294967296 * V = 0 ∨ 1 ≤ L[j]?.getD 0 + 4294967296 * V by omega) with h1 | h1
  · omega
  · have := Int.mul_le_mul_of_nonneg_left h1 (Int.le_of_lt p2)
    rw [Int.mul_one] at this
    omega

/-- The digit that the top limbs make is not too small. -/
theorem est_over {ps ys : List Int} {t : Nat} {a b c d e : Int} (hp : Limbs ps) (hy : Limbs ys) (lp : ps.length = t + 3) (ly : ys.length = t + 2) (ha : ps[t + 2]?.getD 0 = a) (hb : ps[t + 1]?.getD 0 = b) (hc : ps[t]?.getD 0 = c) (hd : ys[t + 1]?.getD 0 = d) (he : ys[t]?.getD 0 = e)
    (hn : d ≠ 0) (hlt : valZ ps < valZ ys * 4294967296) :
    0 ≤ valZ ps / valZ ys ∧ valZ ps / valZ ys ≤ 4294967295 ∧ (¬ (a = d ∧ b = e) → a < d * 4294967296 + e ∧ valZ ps / valZ ys ≤ (a * 18446744073709551616 + (b * 4294967296 + c)) / (d * 4294967296 + e) ∧ (a * 18446744073709551616 + (b * 4294967296 + c)) / (d * 4294967296 + e) ≤ 4294967295) := by
  have ra := hp.at (t + 2)
  have rb := hp.at (t + 1)
  have rc := hp.at t
  have rd := hy.at (t + 1)
  have re := hy.at t
  rw [ha] at ra
  rw [hb] at rb
  rw [hc] at rc
  rw [hd] at rd
  rw [he] at re
  have eP := valZ_parts ps t
  rw [valZ_drop ps t, valZ_drop ps (t + 1), valZ_drop ps (t + 1 + 1), show ps.drop (t + 1 + 1 + 1) = [] from List.drop_of_length_le (by omega), valZ, Int.mul_zero, Int.add_zero, hc, hb, show t + 1 + 1 = t + 2 from rfl, ha] at eP
  have eM := valZ_parts ys t
  rw [valZ_drop ys t, valZ_drop ys (t + 1), show ys.drop (t + 1 + 1) = [] from List.drop_of_length_le (by omega), valZ, Int.mul_zero, Int.add_zero, he, hd] at eM
  have tP := take_lt hp t
  have tM := take_lt hy t
  have p := pow_pos32 t
  have P0 := valZ_nonneg hp
  generalize valZ (ps.take t) = pl at *
  generalize valZ (ys.take t) = ml at *
  generalize (4294967296 : Int) ^ t = B at *
  generalize valZ ps = P at *
  generalize valZ ys = M at *
  obtain ⟨D, hD⟩ : ∃ D, d * 4294967296 + e = D := ⟨_, rfl⟩
  obtain ⟨T, hT⟩ : ∃ T, a * 18446744073709551616 + (b * 4294967296 + c) = T := ⟨_, rfl⟩
  rw [show c + 4294967296 * (b + 4294967296 * a) = T by omega] at eP
  rw [show e + 4294967296 * d = D by omega] at eM
  rw [hD, hT]
  have D0 : 4294967296 ≤ D := by omega
  have BD : B * 4294967296 ≤ B * D := Int.mul_le_mul_of_nonneg_left D0 (Int.le_of_lt p)
  have M0 : 0 < M := by omega
  have TD : T < (D + 1) * 4294967296 := by
    refine Int.lt_of_mul_lt_mul_left (a := B) ?_ (Int.le_of_lt p)
    rw [← Int.mul_assoc, Int.mul_add, Int.mul_one]
    omega
  have q0 : 0 ≤ P / M := Int.ediv_nonneg P0 (Int.le_of_lt M0)
  have q1 : P / M < 4294967296 := Int.ediv_lt_of_lt_mul M0 (by rw [Int.mul_comm]; exact hlt)
  refine ⟨q0, by omega, fun hne => ⟨by omega, ?_, ?_⟩⟩
  · refine Int.le_ediv_of_mul_le (by omega) ?_
    have e1 := Int.mul_ediv_add_emod P M
    have e2 := Int.emod_nonneg P (show M ≠ 0 by omega)
    generalize P / M = q at *
    have e3 : M * q = ml * q + B * (q * D) := by rw [eM, Int.add_mul, Int.mul_assoc, Int.mul_comm D q]
    have e4 : 0 ≤ ml * q := Int.mul_nonneg tM.1 q0
    have : q * D < T + 1 := by
      refine Int.lt_of_mul_lt_mul_left (a := B) ?_ (Int.le_of_lt p)
      rw [Int.mul_add, Int.mul_one]
      omega
    omega
  · have : T / D < 4294967296 := Int.ediv_lt_of_lt_mul (by omega) (by
      have : a * 4294967296 + b < D := by omega
      omega)
    omega

/-- A limb more of what is taken away. -/
theorem subm_step {L ys : List Int} {i j : Nat} {V x c o r q : Int} (hi : i + j < L.length) (h : valZ (L.drop i) = V - x * valZ (ys.take j) + 4294967296 ^ j * (c + o)) (hr : r + -1 * (4294967296 * q) = L[i + j]?.getD 0 + -1 * ((c + x * ys[j]?.getD 0) % 4294967296 + o)) :
    valZ ((L.set (i + j) r).drop i) = V - x * valZ (ys.take (j + 1)) + 4294967296 ^ (j + 1) * ((c + x * ys[j]?.getD 0) / 4294967296 + q) := by
  rw [drop_set32 r hi, h, valZ_take, Int.pow_succ]
  generalize (4294967296 : Int) ^ j = B at *
  generalize ys[j]?.getD 0 = y at *
  generalize L[i + j]?.getD 0 = z at *
  generalize valZ (ys.take j) = Y at *
  have e := Int.mul_ediv_add_emod (c + x * y) 4294967296
  have e2 : x * (Y + B * y) = x * Y + B * (x * y) := by rw [Int.mul_add, Int.mul_left_comm]
  rw [e2, Int.mul_assoc B]
  generalize (c + x * y) / 4294967296 = u at *
  generalize (c + x * y) % 4294967296 = v at *
  generalize x * y = T at *
  generalize x * Y = W at *
  have : B * (r - z) = B * (4294967296 * (u + q)) - B * T - B * (c + o) := by rw [← Int.mul_sub, ← Int.mul_sub]; congr 1; omega
  omega
theorem subm_end {L : List Int} {i k : Nat} {V x Y c o r q : Int} (hi : i + k < L.length) (h : valZ (L.drop i) = V - x * Y + 4294967296 ^ k * (c + o)) (hr : r + -1 * (4294967296 * q) = L[i + k]?.getD 0 + -1 * (c + o)) :
    valZ ((L.set (i + k) r).drop i) = V - x * Y + 4294967296 ^ (k + 1) * q := by
  rw [drop_set32 r hi, h, Int.pow_succ, Int.mul_assoc]
  generalize (4294967296 : Int) ^ k = B at *
  generalize L[i + k]?.getD 0 = z at *
  have : B * (r - z) = B * (4294967296 * q) - B * (c + o) := by rw [← Int.mul_sub]; congr 1; omega
  omega
theorem addm_step {L ys : List Int} {i j : Nat} {V c r q : Int} (hi : i + j < L.length) (h : valZ (L.drop i) = V + valZ (ys.take j) - 4294967296 ^ j * c) (hr : r + 1 * (4294967296 * q) = L[i + j]?.getD 0 + 1 * (ys[j]?.getD 0 + c)) :
    valZ ((L.set (i + j) r).drop i) = V + valZ (ys.take (j + 1)) - 4294967296 ^ (j + 1) * q := by
  rw [drop_set32 r hi, h, valZ_take, Int.pow_succ, Int.mul_assoc]
  generalize (4294967296 : Int) ^ j = B at *
  generalize ys[j]?.getD 0 = y at *
  generalize L[i + j]?.getD 0 = z at *
  have : B * (r - z) = B * y + B * c - B * (4294967296 * q) := by rw [← Int.mul_add, ← Int.mul_sub]; congr 1; omega
  omega
theorem addm_end {L : List Int} {i k : Nat} {V Y c r q : Int} (hi : i + k < L.length) (h : valZ (L.drop i) = V + Y - 4294967296 ^ k * c) (hr : r + 1 * (4294967296 * q) = L[i + k]?.getD 0 + 1 * (0 + c)) :
    valZ ((L.set (i + k) r).drop i) = V + Y - 4294967296 ^ (k + 1) * q := by
  rw [drop_set32 r hi, h, Int.pow_succ, Int.mul_assoc]
  generalize (4294967296 : Int) ^ k = B at *
  generalize L[i + k]?.getD 0 = z at *
  have : B * (r - z) = B * c - B * (4294967296 * q) := by rw [← Int.mul_sub]; congr 1; omega
  omega

/-- A digit on its way down: what is left of P, a power Z more where it is owed. -/
def Digit (P M Z d o D : Int) : Prop := D = P - d * M + Z * o ∧ P / M ≤ d ∧ 0 ≤ D ∧ D < Z ∧ 0 < M ∧ 0 ≤ P
theorem Digit.done {P M Z d D : Int} (h : Digit P M Z d 0 D) : d = P / M ∧ D = P % M := by
  obtain ⟨e, hq, D0, D1, M0, P0⟩ := h
  have e1 := Int.mul_ediv_add_emod P M
  have le : d ≤ P / M := Int.le_ediv_of_mul_le M0 (by omega)
  obtain rfl : d = P / M := by omega
  refine ⟨rfl, ?_⟩
  rw [Int.mul_comm] at e1
  omega
theorem Digit.less {P M Z d D : Int} (h : Digit P M Z d 1 D) : P / M ≤ d - 1 ∧ 1 ≤ d := by
  obtain ⟨e, hq, D0, D1, M0, P0⟩ := h
  have e1 := Int.mul_ediv_add_emod P M
  have e2 := Int.emod_nonneg P (show M ≠ 0 by omega)
  have e3 : 0 ≤ P / M := Int.ediv_nonneg P0 (Int.le_of_lt M0)
  have : P / M ≠ d := by
    intro hd
    rw [hd, Int.mul_comm] at e1
    omega
  omega
theorem Digit.next {P M Z d D D' c : Int} (h : Digit P M Z d 1 D) (e : D' = D + M - Z * c) (d0 : 0 ≤ D') (d1 : D' < Z) : Digit P M Z (d - 1) (1 - c) D' := by
  have l := h.less
  obtain ⟨e0, hq, D0, D1, M0, P0⟩ := h
  refine ⟨?_, l.1, d0, d1, M0, P0⟩
  rw [Int.sub_mul, Int.mul_sub]
  omega

theorem div_step {L : List Int} {i k : Nat} {M : Int} (hL : Limbs L) (h : valZ (L.drop (i + 1)) < M) (hM : M < 4294967296 ^ k) : 0 ≤ valZ (L.drop i) ∧ valZ (L.drop i) < M * 4294967296 ∧ (∀ j, i + k + 1 ≤ j → L[j]?.getD 0 = 0) := by
  have z := high_zero hL (s := i + 1) (k := k) (by omega)
  have r := hL.at i
  rw [valZ_drop L i]
  have n := valZ_nonneg (hL.drop (i + 1))
  exact ⟨by omega, by omega, fun j hj => z j (by omega)⟩
theorem div_round {L L' Q : List Int} {i : Nat} {A M P : Int} (ht : L'.take i = L.take i) (hP : valZ (L.drop i) = P) (hQ : Q[i]?.getD 0 = 0) (hi : i < Q.length) (h : A = valZ L + M * valZ Q) (h' : valZ (L'.drop i) = P % M) : A = valZ L' + M * valZ (Q.set i (P / M)) := by
  rw [valZ_set _ _ _ hi, hQ, Int.sub_zero, valZ_parts L' i, h', ht]
  rw [valZ_parts L i, hP] at h
  have e := Int.mul_ediv_add_emod P M
  generalize P / M = q at *
  generalize P % M = r at *
  rw [Int.mul_add, Int.mul_left_comm, h, ← e, Int.mul_add]
  omega
theorem div_top {L : List Int} {n k q : Nat} {M : Int} (hL : Limbs L) (hl : L.length = n + 1) (h0 : L[n]?.getD 0 = 0) (hq : (q : Int) = max ((n : Int) + 1 - k) 0) (hk : 1 ≤ k) (hM : 4294967296 ^ (k - 1) ≤ M) : valZ (L.drop q) < M := by
  have : q + k ≥ n + 1 := by omega
  refine Int.lt_of_lt_of_le ?_ hM
  refine (drop_lt hL (i := q) (n := k - 1) (fun j hj => ?_)).2.1
  rcases Nat.lt_or_ge j (n + 1) with hj2 | hj2
  · rw [show j = n by omega]
    exact h0
  · rw [List.getElem?_eq_none (by omega)]
    rfl
theorem div_end {L Q : List Int} {A M : Int} (hL : Limbs L) (h : A = valZ L + M * valZ Q) (hM : 0 < M) (hr : valZ (L.drop 0) < M) : valZ Q = A / M ∧ valZ L = A % M := by
  rw [List.drop_zero] at hr
  have := ediv_is hM (a := A) (q := valZ Q) (r := valZ L) (by rw [h, Int.mul_comm M, Int.add_comm]) (valZ_nonneg hL) hr
  exact ⟨this.1.symm, this.2.symm⟩
/-- By one limb. -/
theorem one_round {xs Q : List Int} {i : Nat} {m r : Int} (h : valZ (xs.drop (i + 1)) = m * valZ (Q.drop (i + 1)) + r) (hi : i < Q.length) (hm : 0 < m) (r1 : r < m) (r0 : 0 ≤ r) (hx : Limbs xs) (m1 : m ≤ 4294967295) :
    valZ (xs.drop i) = m * valZ ((Q.set i ((r * 4294967296 + xs[i]?.getD 0) / m)).drop i) + (r * 4294967296 + xs[i]?.getD 0) % m ∧ 0 ≤ (r * 4294967296 + xs[i]?.getD 0) % m ∧ (r * 4294967296 + xs[i]?.getD 0) % m < m ∧ 0 ≤ (r * 4294967296 + xs[i]?.getD 0) / m ∧ (r * 4294967296 + xs[i]?.getD 0) / m ≤ 4294967295 := by
  have xr := hx.at i
  have e := Int.mul_ediv_add_emod (r * 4294967296 + xs[i]?.getD 0) m
  have e0 := Int.emod_nonneg (r * 4294967296 + xs[i]?.getD 0) (show m ≠ 0 by omega)
  have e1 := Int.emod_lt_of_pos (r * 4294967296 + xs[i]?.getD 0) hm
  have q0 : 0 ≤ (r * 4294967296 + xs[i]?.getD 0) / m := Int.ediv_nonneg (by omega) (by omega)
  have q1 : (r * 4294967296 + xs[i]?.getD 0) / m < 4294967296 := Int.ediv_lt_of_lt_mul hm (by omega)
  refine ⟨?_, e0, e1, q0, by omega⟩
  rw [valZ_drop xs i, h, valZ_drop (Q.set i _) i, List.getElem?_set_self hi, List.drop_set, if_pos (by omega)]
  generalize (r * 4294967296 + xs[i]?.getD 0) / m = q at *
  show _ = m * (q + _) + _
  have e3 : m * (q + 4294967296 * valZ (Q.drop (i + 1))) = m * q + 4294967296 * (m * valZ (Q.drop (i + 1))) := by rw [Int.mul_add, Int.mul_left_comm m]
  rw [e3]
  generalize m * valZ (Q.drop (i + 1)) = T at *
  omega

theorem later32 {base b o : Nat} {w : World} {v : Value} (h : w.cell? ⟨b, o, none⟩ = some v) (hb : b < base) : ∀ W, Below base w.drew W → W.cell? ⟨b, o, none⟩ = some v := by
  intro W hW
  have h1 : W.cell? ⟨b, o, none⟩ = w.drew.cell? ⟨b, o, none⟩ := hW.cell (p := ⟨b, o, none⟩) hb
  exact h1.trans h
theorem both32 {B : Nat} {a b : World} (h : Below B a b) : Below B a.drew b.drew := ⟨h.os, h.tape, h.output, h.size, h.block⟩
theorem of_both32 {B : Nat} {a b : World} (h : Below B a.drew b) : Below B a b := ⟨h.os, h.tape, h.output, h.size, h.block⟩

/-- Every block but one is as it was. -/
def Only (g : Nat) (w w' : World) : Prop := w.heap.size ≤ w'.heap.size ∧ ∀ b, b < w.heap.size → b ≠ g → w'.heap[b]? = w.heap[b]?
theorem Only.refl (g : Nat) (w : World) : Only g w w := ⟨Nat.le_refl _, fun _ _ _ => rfl⟩
theorem Only.trans {g : Nat} {a b c : World} (h : Only g a b) (h2 : Only g b c) : Only g a c := ⟨Nat.le_trans h.1 h2.1, fun k hk hn => (h2.2 k (Nat.lt_of_lt_of_le hk h.1) hn).trans (h.2 k hk hn)⟩
theorem Only.set {g : Nat} {a b : World} (h : Only g a b) (j : Nat) (v : Value) : Only g a (b.setCell ⟨g, j, none⟩ v) := ⟨by simpa using h.1, fun k hk hn => (heap_setCell_other b ⟨g, j, none⟩ k v hn).trans (h.2 k hk hn)⟩
theorem Only.of_below {g : Nat} {a b : World} (h : Below a.heap.size a b) : Only g a b := ⟨h.size, fun k hk _ => h.block k hk⟩
theorem Out32.only {W0 w w' : World} {g g' n cap : Nat} {L : List Int} (h : Out32 W0 w (.slice (some ⟨g', 0, none⟩) n cap) L) (ho : Only g w w') (hne : g' ≠ g) (hb : Below W0.heap.size W0 w') : Out32 W0 w' (.slice (some ⟨g', 0, none⟩) n cap) L := by
  refine ⟨⟨h.1.1, ?_⟩, hb⟩
  rcases h.1.2 with ⟨e, _⟩ | ⟨b, cap, cur, e, h1, h2, h3⟩
  · cases e
  · injection e with e1 e2 e3
    injection e1 with e1
    injection e1 with e1
    subst e1
    subst e2 e3
    exact .inr ⟨g', _, cur, rfl, h1, (ho.2 g' (Array.getElem?_eq_some_iff.1 h2).1 hne).trans h2, h3⟩

end Go.Proofs.Ythpdeaappchnpaa
