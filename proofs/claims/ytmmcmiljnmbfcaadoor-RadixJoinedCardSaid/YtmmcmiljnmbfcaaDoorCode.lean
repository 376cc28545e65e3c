/-
  Texts and bytes undo one another, for stage 2 (radix): plain facts on lists.
-/
import Derived.Test.YtmmcmiljnmbfcaaDoorDecWalk
namespace Go.Proofs.YtmmcmiljnmbfcaaDoor
open Go.RowKit

theorem sgZ_not (v : Int) (h0 : 0 ≤ v) (h1 : v < 64) : sgZ v ≠ 61 := by
  unfold sgZ sg
  repeat' split
  all_goals omega
theorem vlZ_sgZ {v : Int} (h0 : 0 ≤ v) (h1 : v < 64) : vlZ (sgZ v) = v := by
  unfold vlZ sgZ
  rw [Int.toNat_natCast, vl_sg _ (by omega)]
  omega
theorem sgZ_vlZ {c : Int} (h0 : 0 ≤ c) (h1 : vlZ c < 64) : sgZ (vlZ c) = c := by
  unfold vlZ at h1 ⊢
  unfold sgZ
  rw [Int.toNat_natCast, sg_vl _ (by omega)]
  omega

/-- A text's letters without padding. -/
def encB : List Int → List Int
  | [] => []
  | [x] => (enc3 [x]).take 2
  | [x, y] => (enc3 [x, y]).take 3
  | x :: y :: z :: r => enc3 [x, y, z] ++ encB r
def padN (n : Nat) : Nat := (3 - n % 3) % 3

theorem encZ_encB : ∀ (k : Nat) (zs : List Int), zs.length ≤ k → encZ zs = encB zs ++ List.replicate (padN zs.length) 61
  | _, [], _ => by simp [encZ, encB, padN]
  | _, [x], _ => by simp [encZ, encB, padN, enc3, grp]
  | _, [x, y], _ => by simp [encZ, encB, padN, enc3, grp]
  | 0, x :: y :: z :: r, h => by simp at h
  | k + 1, x :: y :: z :: r, h => by
    have := encZ_encB k r (by simp at h; omega)
    have e : padN (x :: y :: z :: r).length = padN r.length := by unfold padN; simp only [List.length_cons]; omega
    rw [encZ, encB, this, e, List.append_assoc]

theorem encB_length : ∀ (k : Nat) (zs : List Int), zs.length ≤ k → (encB zs).length = zs.length + (zs.length + 2) / 3
  | _, [], _ => rfl
  | _, [x], _ => by simp [encB, enc3]
  | _, [x, y], _ => by simp [encB, enc3]
  | 0, x :: y :: z :: r, h => by simp at h
  | k + 1, x :: y :: z :: r, h => by
    have := encB_length k r (by simp at h; omega)
    simp [encB, enc3, this]
    omega

theorem encB_letter : ∀ (k : Nat) (zs : List Int), zs.length ≤ k → ∀ c ∈ encB zs, c ≠ 61
  | _, [], _ => by simp [encB]
  | _, [x], _ => by
    intro c hc
    simp [encB, enc3, grp] at hc
    rcases hc with rfl | rfl <;> exact sgZ_not _ (by omega) (by omega)
  | _, [x, y], _ => by
    intro c hc
    simp [encB, enc3, grp] at hc
    rcases hc with rfl | rfl | rfl <;> exact sgZ_not _ (by omega) (by omega)
  | 0, x :: y :: z :: r, h => by simp at h
  | k + 1, x :: y :: z :: r, h => by
    intro c hc
    rw [encB, List.mem_append] at hc
    rcases hc with hc | hc
    · simp [enc3, grp] at hc
      rcases hc with rfl | rfl | rfl | rfl <;> exact sgZ_not _ (by omega) (by omega)
    · exact encB_letter k r (by simp at h; omega) c hc

/-- The signs of padding that end letters of a text. -/
theorem pads_of {T : List Int} (p : Nat) (hp : p ≤ 2) (h : ∀ c ∈ T, c ≠ 61) : pads (T ++ List.replicate p 61) = p := by
  have hT : ∀ i, i < T.length → T[i]?.getD 0 ≠ 61 := fun i hi => by
    rw [List.getElem?_eq_getElem hi]
    exact h _ (List.getElem_mem hi)
  unfold pads
  rcases (show p = 0 ∨ p = 1 ∨ p = 2 by omega) with rfl | rfl | rfl
  · simp only [List.replicate_zero, List.append_nil]
    by_cases h0 : 0 < T.length
    · rw [if_neg (fun hh => hT _ (by omega) hh.2)]
    · rw [if_neg (fun hh => h0 hh.1)]
  · simp only [List.length_append, List.length_replicate]
    rw [if_pos ⟨by omega, by rw [List.getElem?_append_right (by omega)]; simp⟩]
    by_cases h0 : 0 < T.length
    · rw [if_neg (fun hh => hT (T.length + 1 - 2) (by omega) (by rw [← hh.2, List.getElem?_append_left (by omega)]))]
    · rw [if_neg (fun hh => h0 (by omega))]
  · simp only [List.length_append, List.length_replicate]
    rw [if_pos ⟨by omega, by rw [List.getElem?_append_right (by omega)]; simp⟩, if_pos ⟨by omega, by rw [List.getElem?_append_right (by omega)]; simp⟩]

theorem take_pads (l : List Int) : pads l ≤ l.length ∧ pads l ≤ 2 ∧ l = l.take (l.length - pads l) ++ List.replicate (pads l) 61 := by
  have key : pads l ≤ l.length ∧ pads l ≤ 2 ∧ ∀ d, d < pads l → l[l.length - 1 - d]?.getD 0 = 61 := by
    unfold pads
    split
    · rename_i h1
      split
      · rename_i h2
        refine ⟨by omega, by omega, fun d hd => ?_⟩
        rcases (show d = 0 ∨ d = 1 by omega) with rfl | rfl
        · exact h1.2
        · rw [show l.length - 1 - 1 = l.length - 2 by omega]; exact h2.2
      · refine ⟨by omega, by omega, fun d hd => ?_⟩
        obtain rfl : d = 0 := by omega
        exact h1.2
    · exact ⟨by omega, by omega, fun d hd => by omega⟩
  refine ⟨key.1, key.2.1, ?_⟩
  apply List.ext_getElem?
  intro i
  rcases Nat.lt_or_ge i (l.length - pads l) with h | h
  · rw [List.getElem?_append_left (by rw [List.length_take]; omega), List.getElem?_take, if_pos h]
  · rw [List.getElem?_append_right (by rw [List.length_take]; omega), List.length_take, List.getElem?_replicate]
    rcases Nat.lt_or_ge i l.length with hl | hl
    · have := key.2.2 (l.length - 1 - i) (by omega)
      rw [show l.length - 1 - (l.length - 1 - i) = i by omega, List.getElem?_eq_getElem hl] at this
      rw [if_pos (by omega), List.getElem?_eq_getElem hl]
      simpa using this
    · rw [if_neg (by omega), List.getElem?_eq_none hl]

theorem badT_nil : badT [] = false := rfl
theorem badT_sg {v : Int} {r : List Int} (h0 : 0 ≤ v) (h1 : v < 64) : badT (sgZ v :: r) = badT r := by
  have : (vlZ (sgZ v) == 64) = false := by rw [vlZ_sgZ h0 h1]; simp; omega
  simp [badT, this]

theorem grpD2 {a b : Int} (a0 : 0 ≤ a) (a1 : a < 64) (b0 : 0 ≤ b) (b1 : b < 64) :
    grpD [sgZ a, sgZ b] = if (a * 262144 + b * 4096) * 256 % 16777216 = 0 then some [(a * 262144 + b * 4096) / 65536 % 256] else none := by
  have e : acc [sgZ a, sgZ b] 2 = a * 262144 + b * 4096 := by simp [acc, vlZ_sgZ a0 a1, vlZ_sgZ b0 b1]
  rw [grpD, badT_sg a0 a1, badT_sg b0 b1, if_neg (by rw [badT_nil]; simp)]
  simp only [List.length_cons, List.length_nil, Nat.zero_add, Nat.reduceAdd, e, grpBytes, Nat.reduceSub, Int.pow_one]
  rfl
theorem grpD3 {a b c : Int} (a0 : 0 ≤ a) (a1 : a < 64) (b0 : 0 ≤ b) (b1 : b < 64) (c0 : 0 ≤ c) (c1 : c < 64) :
    grpD [sgZ a, sgZ b, sgZ c] = if (a * 262144 + b * 4096 + c * 64) * 65536 % 16777216 = 0 then some [(a * 262144 + b * 4096 + c * 64) / 65536 % 256, (a * 262144 + b * 4096 + c * 64) / 256 % 256] else none := by
  have e : acc [sgZ a, sgZ b, sgZ c] 3 = a * 262144 + b * 4096 + c * 64 := by simp [acc, vlZ_sgZ a0 a1, vlZ_sgZ b0 b1, vlZ_sgZ c0 c1]
  rw [grpD, badT_sg a0 a1, badT_sg b0 b1, badT_sg c0 c1, if_neg (by rw [badT_nil]; simp)]
  simp only [List.length_cons, List.length_nil, Nat.zero_add, Nat.reduceAdd, e, grpBytes, Nat.reduceSub]
  rfl
theorem grpD4 {a b c d : Int} (a0 : 0 ≤ a) (a1 : a < 64) (b0 : 0 ≤ b) (b1 : b < 64) (c0 : 0 ≤ c) (c1 : c < 64) (d0 : 0 ≤ d) (d1 : d < 64) :
    grpD [sgZ a, sgZ b, sgZ c, sgZ d] = some [(a * 262144 + b * 4096 + c * 64 + d) / 65536 % 256, (a * 262144 + b * 4096 + c * 64 + d) / 256 % 256, (a * 262144 + b * 4096 + c * 64 + d) % 256] := by
  have e : acc [sgZ a, sgZ b, sgZ c, sgZ d] 4 = a * 262144 + b * 4096 + c * 64 + d := by simp [acc, vlZ_sgZ a0 a1, vlZ_sgZ b0 b1, vlZ_sgZ c0 c1, vlZ_sgZ d0 d1]
  rw [grpD, badT_sg a0 a1, badT_sg b0 b1, badT_sg c0 c1, badT_sg d0 d1, if_neg (by rw [badT_nil]; simp)]
  simp only [List.length_cons, List.length_nil, Nat.zero_add, Nat.reduceAdd, e, grpBytes, Nat.reduceSub]
  rw [if_pos (by omega)]
  simp [byteOf, List.range_succ]

theorem enc1 (x : Int) : encB [x] = [sgZ (x * 65536 / 262144 % 64), sgZ (x * 65536 / 4096 % 64)] := by
  simp [encB, enc3, grp, bitsN]
theorem enc2 (x y : Int) : encB [x, y] = [sgZ ((x * 65536 + y * 256) / 262144 % 64), sgZ ((x * 65536 + y * 256) / 4096 % 64), sgZ ((x * 65536 + y * 256) / 64 % 64)] := by
  simp [encB, enc3, grp, bitsN]
theorem enc3' (x y z : Int) : enc3 [x, y, z] = [sgZ ((x * 65536 + y * 256 + z) / 262144 % 64), sgZ ((x * 65536 + y * 256 + z) / 4096 % 64), sgZ ((x * 65536 + y * 256 + z) / 64 % 64), sgZ ((x * 65536 + y * 256 + z) % 64)] := by
  simp [enc3, grp, bitsN]

/-- Bytes are read from their letters. -/
theorem dec_enc : ∀ (k : Nat) (zs : List Int), zs.length ≤ k → (∀ x ∈ zs, 0 ≤ x ∧ x ≤ 255) → decT (encB zs) = some zs
  | _, [], _, _ => by simp [encB, decT]
  | _, [x], _, h => by
    have hx := h x (by simp)
    rw [enc1, decT, List.take_of_length_le (by simp), grpD2 (by omega) (by omega) (by omega) (by omega), if_pos (by omega)]
    simp [decT]
    omega
  | _, [x, y], _, h => by
    have hx := h x (by simp)
    have hy := h y (by simp)
    rw [enc2, decT, List.take_of_length_le (by simp), grpD3 (by omega) (by omega) (by omega) (by omega) (by omega) (by omega), if_pos (by omega)]
    simp [decT]
    omega
  | 0, x :: y :: z :: r, h, _ => by simp at h
  | k + 1, x :: y :: z :: r, h, hb => by
    have hx := hb x (by simp)
    have hy := hb y (by simp)
    have hz := hb z (by simp)
    have ih := dec_enc k r (by simp at h; omega) (fun x hx => hb x (by simp [hx]))
    rw [encB, enc3']
    simp only [List.cons_append, List.nil_append]
    rw [decT]
    simp only [List.take_succ_cons, List.take_zero, List.drop_succ_cons, List.drop_zero]
    rw [grpD4 (by omega) (by omega) (by omega) (by omega) (by omega) (by omega) (by omega) (by omega), ih]
    simp
    omega

/-- What is read has just these letters. -/
theorem enc_dec : ∀ (k : Nat) (T zs : List Int), T.length ≤ k → T.length % 4 ≠ 1 → (∀ x ∈ T, 0 ≤ x ∧ x ≤ 255) → decT T = some zs → encB zs = T ∧ (∀ x ∈ zs, 0 ≤ x ∧ x ≤ 255) ∧ padN zs.length = (4 - T.length % 4) % 4
  | _, [], zs, _, _, _, h => by
    simp [decT] at h
    subst h
    exact ⟨rfl, by simp, rfl⟩
  | _, [a], _, _, h1, _, _ => by simp at h1
  | _, [a, b], zs, _, _, hb, h => by
    rw [decT] at h
    simp only [List.take_succ_cons, List.take_nil, List.drop_succ_cons, List.drop_nil] at h
    have ha := (hb a (by simp)).1
    have hb' := (hb b (by simp)).1
    have ra := vlZ_range a
    have rb := vlZ_range b
    by_cases ba : badT [a, b] = true
    · rw [grpD, if_pos ba] at h; cases h
    · have ba' : badT [a, b] = false := by simpa using ba
      simp [badT] at ba'
      have ea := sgZ_vlZ ha (by omega)
      have eb := sgZ_vlZ hb' (by omega)
      generalize vlZ a = u at *
      generalize vlZ b = v at *
      subst ea eb
      rw [grpD2 (by omega) (by omega) (by omega) (by omega)] at h
      by_cases hc : (u * 262144 + v * 4096) * 256 % 16777216 = 0
      · rw [if_pos hc] at h
        simp [decT] at h
        subst h
        refine ⟨?_, by simp; omega, rfl⟩
        rw [enc1]
        rw [show (u * 262144 + v * 4096) / 65536 % 256 * 65536 = u * 262144 + v * 4096 by omega, show (u * 262144 + v * 4096) / 262144 % 64 = u by omega, show (u * 262144 + v * 4096) / 4096 % 64 = v by omega]
      · rw [if_neg hc] at h; cases h
  | _, [a, b, c], zs, _, _, hb, h => by
    rw [decT] at h
    simp only [List.take_succ_cons, List.take_nil, List.drop_succ_cons, List.drop_nil] at h
    have ha := (hb a (by simp)).1
    have hb' := (hb b (by simp)).1
    have hc' := (hb c (by simp)).1
    have ra := vlZ_range a
    have rb := vlZ_range b
    have rc := vlZ_range c
    by_cases ba : badT [a, b, c] = true
    · rw [grpD, if_pos ba] at h; cases h
    · have ba' : badT [a, b, c] = false := by simpa using ba
      simp [badT] at ba'
      have ea := sgZ_vlZ ha (by omega)
      have eb := sgZ_vlZ hb' (by omega)
      have ec := sgZ_vlZ hc' (by omega)
      generalize vlZ a = u at *
      generalize vlZ b = v at *
      generalize vlZ c = x at *
      subst ea eb ec
      rw [grpD3 (by omega) (by omega) (by omega) (by omega) (by omega) (by omega)] at h
      by_cases hc : (u * 262144 + v * 4096 + x * 64) * 65536 % 16777216 = 0
      · rw [if_pos hc] at h
        simp [decT] at h
        subst h
        refine ⟨?_, by simp; omega, rfl⟩
        rw [enc2]
        rw [show (u * 262144 + v * 4096 + x * 64) / 65536 % 256 * 65536 + (u * 262144 + v * 4096 + x * 64) / 256 % 256 * 256 = u * 262144 + v * 4096 + x * 64 by omega, show (u * 262144 + v * 4096 + x * 64) / 262144 % 64 = u by omega, show (u * 262144 + v * 4096 + x * 64) / 4096 % 64 = v by omega, show (u * 262144 + v * 4096 + x * 64) / 64 % 64 = x by omega]
      · rw [if_neg hc] at h; cases h
  | 0, _ :: _ :: _ :: _ :: _, _, hl, _, _, _ => by simp at hl
  | k + 1, a :: b :: c :: d :: r, zs, hl, h1, hb, h => by
    rw [decT] at h
    simp only [List.take_succ_cons, List.take_zero, List.drop_succ_cons, List.drop_zero] at h
    have ha := (hb a (by simp)).1
    have hb' := (hb b (by simp)).1
    have hc' := (hb c (by simp)).1
    have hd' := (hb d (by simp)).1
    have ra := vlZ_range a
    have rb := vlZ_range b
    have rc := vlZ_range c
    have rd := vlZ_range d
    by_cases ba : badT [a, b, c, d] = true
    · rw [grpD, if_pos ba] at h; cases h
    · have ba' : badT [a, b, c, d] = false := by simpa using ba
      simp [badT] at ba'
      cases hr : decT r with
      | none => rw [hr] at h; split at h <;> simp at h
      | some ys =>
        have ih := enc_dec k r ys (by simp at hl; omega) (by simp only [List.length_cons] at h1; omega) (fun x hx => hb x (by simp [hx])) hr
        clear hb
        have ea := sgZ_vlZ ha (by omega)
        have eb := sgZ_vlZ hb' (by omega)
        have ec := sgZ_vlZ hc' (by omega)
        have ed := sgZ_vlZ hd' (by omega)
        generalize vlZ a = u at *
        generalize vlZ b = v at *
        generalize vlZ c = x at *
        generalize vlZ d = y at *
        subst ea eb ec ed
        rw [grpD4 (by omega) (by omega) (by omega) (by omega) (by omega) (by omega) (by omega) (by omega), hr] at h
        simp only [Option.map_some, Option.some.injEq, List.cons_append, List.nil_append] at h
        subst h
        refine ⟨?_, ?_, ?_⟩
        · rw [encB, ih.1, enc3']
          rw [show (u * 262144 + v * 4096 + x * 64 + y) / 65536 % 256 * 65536 + (u * 262144 + v * 4096 + x * 64 + y) / 256 % 256 * 256 + (u * 262144 + v * 4096 + x * 64 + y) % 256 = u * 262144 + v * 4096 + x * 64 + y by omega, show (u * 262144 + v * 4096 + x * 64 + y) / 262144 % 64 = u by omega, show (u * 262144 + v * 4096 + x * 64 + y) / 4096 % 64 = v by omega, show (u * 262144 + v * 4096 + x * 64 + y) / 64 % 64 = x by omega, show (u * 262144 + v * 4096 + x * 64 + y) % 64 = y by omega]
          rfl
        · intro z hz
          simp only [List.mem_cons] at hz
          rcases hz with rfl | rfl | rfl | hz
          · omega
          · omega
          · omega
          · exact ih.2.1 z hz
        · have := ih.2.2
          unfold padN at this ⊢
          simp only [List.length_cons]
          omega

/-- Decode of an Encode. -/
theorem decS_encZ {zs : List Int} (h : ∀ x ∈ zs, 0 ≤ x ∧ x ≤ 255) : decS (encZ zs) = some zs := by
  have e := encZ_encB _ zs (Nat.le_refl _)
  have hl := encZ_length _ zs (Nat.le_refl _)
  have hB := encB_length _ zs (Nat.le_refl _)
  have hp : pads (encZ zs) = padN zs.length := by rw [e]; exact pads_of _ (by unfold padN; omega) (encB_letter _ zs (Nat.le_refl _))
  rw [decS, if_pos (by rw [hl]; omega), hp]
  have : (encZ zs).take ((encZ zs).length - padN zs.length) = encB zs := by
    rw [hl, e, List.take_append_of_le_length (by rw [hB]; unfold padN; omega), List.take_of_length_le (by rw [hB]; unfold padN; omega)]
  rw [this]
  exact dec_enc _ zs (Nat.le_refl _) h

/-- Encode of what Decode gave. -/
theorem encZ_decS {l zs : List Int} (hb : ∀ x ∈ l, 0 ≤ x ∧ x ≤ 255) (h : decS l = some zs) : encZ zs = l ∧ ∀ x ∈ zs, 0 ≤ x ∧ x ≤ 255 := by
  obtain ⟨h1, h2, h3⟩ := take_pads l
  rw [decS] at h
  by_cases h4 : l.length % 4 = 0
  · rw [if_pos h4] at h
    have hlen : (l.take (l.length - pads l)).length = l.length - pads l := by rw [List.length_take]; omega
    obtain ⟨e1, e2, e3⟩ := enc_dec _ _ zs (Nat.le_refl _) (by rw [hlen]; omega) (fun x hx => hb x (List.mem_of_mem_take hx)) h
    refine ⟨?_, e2⟩
    rw [encZ_encB _ zs (Nat.le_refl _), e1, e3, hlen, show (4 - (l.length - pads l) % 4) % 4 = pads l by omega]
    exact h3.symm
  · rw [if_neg h4] at h; cases h

end Go.Proofs.YtmmcmiljnmbfcaaDoor
