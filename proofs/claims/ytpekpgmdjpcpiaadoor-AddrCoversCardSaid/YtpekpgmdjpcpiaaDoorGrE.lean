/-
  Merged texts: AdZ, AeX, AdQ, AeP, AeB, AdM, AeC, AeY, AeZ.
-/
import Derived.Test.YtpekpgmdjpcpiaaDoorGrD
import Derived.Test.YtpekpgmdjpcpiaaDoorGrC
import Derived.Test.YtpekpgmdjpcpiaaDoorGrA
import Derived.ChangeKeysEq
import Derived.Laws.StructEq
import Derived.Deep.Cut
namespace Go.Proofs.YtpekpgmdjpcpiaaDoor
open Go.RowKit
set_option linter.unusedVariables false

theorem best_nought (A : List Int) : ∀ k, k ≤ 8 → ∀ j, j < (bestZ A k).2 → grpZ A ((bestZ A k).1 + j) = 0
  | 0, _, j, hj => by simp [bestZ] at hj
  | k + 1, hk, j, hj => by
    rw [bestZ] at hj ⊢
    split at hj
    · rename_i h
      rw [if_pos h]
      exact (runZ_is A (by omega)).2.1 j hj
    · rename_i h
      rw [if_neg h]
      exact best_nought A k (by omega) j hj
theorem row_nought (A : List Int) (j : Nat) (hj : j < (rowZ A).2) : grpZ A ((rowZ A).1 + j) = 0 := by
  unfold rowZ at hj ⊢
  split at hj
  · simp at hj
  · rename_i h
    rw [if_neg h]
    exact best_nought A 8 (by omega) j hj
theorem grp_nought {A : List Int} (hA : Sixteen A) {i : Nat} (h : grpZ A i = 0) : A[2 * i]?.getD 0 = 0 ∧ A[2 * i + 1]?.getD 0 = 0 := by
  have x0 := sixteen_at hA (2 * i)
  have x1 := sixteen_at hA (2 * i + 1)
  unfold grpZ at h
  omega
theorem zero_at (q : Nat) : zeroA[q]?.getD 0 = 0 := by
  unfold zeroA
  rcases Nat.lt_or_ge q 16 with h | h
  · rw [List.getElem?_replicate, if_pos h]
    rfl
  · rw [List.getElem?_replicate, if_neg (by omega)]
    rfl
def tailV (A : List Int) (i m : Nat) : List Int := if m = 0 then [-1] else grps A i m
theorem tail_vals {A : List Int} (hA : Sixteen A) (i m : Nat) : (tailP A i m).map valP = tailV A i m := by
  unfold tailP tailV
  split
  · rfl
  · unfold grps
    rw [List.map_map]
    apply List.map_congr_left
    intro j _
    exact val_hex hA _
theorem head_vals {A : List Int} (hA : Sixteen A) (m : Nat) : ((List.range m).map (hexG A)).map valP = grps A 0 m := by
  unfold grps
  rw [List.map_map]
  apply List.map_congr_left
  intro j _
  rw [Nat.zero_add]
  exact val_hex hA _
theorem tail_cnt {A : List Int} (hA : Sixteen A) (i m : Nat) : cntN (tailV A i m) = m := by
  unfold tailV
  split
  · rename_i h
    rw [h]
    rfl
  · exact cnt_run hA m i
theorem tail_fill {A : List Int} (hA : Sixteen A) {i m : Nat} (h : i + m ≤ 8) (B : List Int) : fillZ (tailV A i m) i true B = some (layG A i m B) := by
  unfold tailV
  split
  · rename_i h0
    rw [h0]
    rfl
  · have := fill_run hA m i true B [] h
    rw [List.append_nil] at this
    rw [this]
    rfl
theorem cnt_more (xs : List Int) : cntN ((-1) :: xs) = cntN xs := by
  rw [cntN, if_neg (by omega)]
  omega
/-- What stands in the middle is 0. -/
theorem lay_both {A : List Int} (hA : Sixteen A) {f n : Nat} (h : f + n ≤ 8) (hz : ∀ j, j < n → grpZ A (f + j) = 0) : layG A (f + n) (8 - f - n) (layG A 0 f zeroA) = A := by
  obtain ⟨l1, a1⟩ := lay_at hA f 0 zeroA zeroA_ok.1 (by omega)
  obtain ⟨l2, a2⟩ := lay_at hA (8 - f - n) (f + n) (layG A 0 f zeroA) l1 (by omega)
  apply sixteen_ext l2 hA.1
  intro q hq
  rw [a2 q hq]
  split
  · rfl
  · rename_i h2
    rw [a1 q hq]
    split
    · rfl
    · rename_i h1
      rw [zero_at]
      have hn : q / 2 - f < n := by omega
      have g := grp_nought hA (hz (q / 2 - f) hn)
      have e : q = 2 * (f + (q / 2 - f)) ∨ q = 2 * (f + (q / 2 - f)) + 1 := by omega
      rcases e with e | e
      · have g1 := g.1
        rw [← e] at g1
        exact g1.symm
      · have g1 := g.2
        rw [← e] at g1
        exact g1.symm
theorem six_groups {A : List Int} (hA : Sixteen A) : groupsZ (strsZ (strOfNums (sixZ A)) 58) = some A := by
  have hr := row_le A
  have hz := row_nought A
  unfold strsZ
  rw [bytes_nums (six_ok hA).1]
  unfold sixZ
  generalize rowZ A = p at *
  obtain ⟨f, n⟩ := p
  simp only at hr hz ⊢
  by_cases h0 : n = 0
  · rw [if_pos h0, run_parts1 A 7, groups_are hA (fun p hp => by obtain ⟨i, _, rfl⟩ := List.mem_map.1 hp; exact .inr ⟨i, rfl⟩), head_vals hA]
    have := fill_run hA 8 0 false zeroA [] (by omega)
    rw [List.append_nil] at this
    rw [this, fillZ]
    have e := lay_both hA (f := 0) (n := 0) (by omega) (fun j hj => absurd hj (by omega))
    exact congrArg some e
  · rw [if_neg h0, run_parts2]
    obtain ⟨m, hm⟩ : ∃ m, 8 - f - n = m := ⟨_, rfl⟩
    have E := lay_both hA (f := f) (n := n) hr.1 hz
    rw [hm] at E ⊢
    have ht : ∀ p ∈ tailP A (f + n) m, p = [] ∨ ∃ i, p = hexG A i := by
      intro p hp
      unfold tailP at hp
      split at hp
      · simp at hp
        exact .inl hp
      · obtain ⟨i, _, rfl⟩ := List.mem_map.1 hp
        exact .inr ⟨_, rfl⟩
    rcases f with _ | f
    · have e0 : partsZ 58 [] (runG [] A 0 0) = [[]] := rfl
      rw [e0, groups_are hA (fun p hp => by
        rcases List.mem_append.1 hp with hp | hp
        · simp at hp
          exact .inl hp
        · exact ht p hp)]
      rw [List.map_append, tail_vals hA]
      show fillZ ((-1) :: (-1) :: tailV A (0 + n) m) 0 false zeroA = some A
      rw [fillZ, if_neg (by omega), if_neg (by decide), cnt_more, cnt_more, tail_cnt hA, fillZ, if_neg (by omega), if_pos rfl, show max (8 - m) 0 = 0 + n by omega, tail_fill hA (by omega)]
      exact congrArg some E
    · rw [run_parts1 A f, groups_are hA (fun p hp => by
        rcases List.mem_append.1 hp with hp | hp
        · rcases List.mem_append.1 hp with hp | hp
          · obtain ⟨i, _, rfl⟩ := List.mem_map.1 hp
            exact .inr ⟨i, rfl⟩
          · simp at hp
            exact .inl hp
        · exact ht p hp)]
      rw [List.map_append, List.map_append, tail_vals hA, head_vals hA, List.append_assoc]
      show fillZ (grps A 0 (f + 1) ++ (-1) :: tailV A (f + 1 + n) m) 0 false zeroA = some A
      rw [fill_run hA (f + 1) 0 false zeroA _ (by omega), fillZ, if_neg (by omega), if_neg (by decide), cnt_more, tail_cnt hA, show max (8 - m) (0 + (f + 1)) = f + 1 + n by omega, tail_fill hA (by omega)]
      exact congrArg some E
/-- The letters of an IPv6 address. -/
def Colons (l : List Int) : Prop := ∀ x ∈ l, ((48 ≤ x ∧ x ≤ 57) ∨ (97 ≤ x ∧ x ≤ 102)) ∨ x = 58
theorem Colons.app {s t : List Int} (h : Colons s) (k : Colons t) : Colons (s ++ t) := by
  intro x hx
  rcases List.mem_append.1 hx with hx | hx
  · exact h x hx
  · exact k x hx
theorem colon_one : Colons [58] := fun x hx => by simp at hx; exact .inr hx
theorem colons_run (A : List Int) (i : Nat) : ∀ (m : Nat) {s : List Int}, Colons s → Colons (runG s A i m)
  | 0, s, h => h
  | m + 1, s, h => by
    have ih := colons_run A i m h
    show Colons (sepG (runG s A i m) ++ hexG A (i + m))
    refine Colons.app ?_ (fun x hx => .inl (hex_plain A _ x hx))
    unfold sepG
    split
    · exact ih.app colon_one
    · exact ih
theorem six_colons (A : List Int) : Colons (sixZ A) := by
  have h0 : Colons [] := fun x hx => by simp at hx
  unfold sixZ
  split
  · exact colons_run A 0 8 h0
  · exact colons_run A _ _ ((colons_run A 0 _ h0).app (colon_one.app colon_one))
theorem Colons.no {l : List Int} (h : Colons l) {c : Int} (hc : c = 46 ∨ c = 47) : c ∉ l := fun hm => by have := h c hm; omega
/-- An IPv6 prefix is read back. -/
theorem parse_back6 {A : List Int} {L : Int} (hA : Sixteen A) (h : rightA true A L = true) : parseZ (strOfNums (textZ true A L)) = some (true, A, L) := by
  obtain ⟨h0, h1, _⟩ := (right_is ..).1 h
  have h128 : L ≤ 128 := h1
  have e : textZ true A L = sixZ A ++ [47] ++ digZ 10 L.toNat := rfl
  have tp : strsZ (strOfNums (textZ true A L)) 47 = [strOfNums (sixZ A), strOfNums (digZ 10 L.toNat)] := by
    rw [e]
    exact text_parts (six_ok hA).1 (dig_byte (by omega) (by omega) _) ((six_colons A).no (.inr rfl)) ((dig_plain (by omega) (by omega) _).no (.inr (.inl rfl)))
  have s0 : strAt (strsZ (strOfNums (textZ true A L)) 47) 0 = strOfNums (sixZ A) := by rw [tp]; rfl
  have s4 : (strsZ (strOfNums (sixZ A)) 46).length = 1 := by
    unfold strsZ
    rw [bytes_nums (six_ok hA).1, parts_one _ [] ((six_colons A).no (.inl rfl))]
    rfl
  rw [parse_six (by rw [tp]; rfl) (by rw [s0, s4]; omega), s0, six_groups hA]
  have l1 : lenN (strsZ (strOfNums (textZ true A L)) 47) = L := by
    rw [tp]
    exact len_num h0 h128
  rw [l1]
  rfl
theorem parse_back {v : Bool} {A : List Int} {L : Int} (hA : Sixteen A) (h : rightA v A L = true) : parseZ (strOfNums (textZ v A L)) = some (v, A, L) := by
  cases v with
  | true => exact parse_back6 hA h
  | false => exact parse_back4 hA h
/-- A text is of one prefix alone. -/
theorem text_one {v u : Bool} {A B : List Int} {L M : Int} (hA : Sixteen A) (hB : Sixteen B) (h : rightA v A L = true) (k : rightA u B M = true) (e : strOfNums (textZ v A L) = strOfNums (textZ u B M)) : v = u ∧ A = B ∧ L = M := by
  have h1 := parse_back hA h
  rw [e, parse_back hB k] at h1
  injection h1 with h1
  injection h1 with e1 e2
  injection e2 with e2 e3
  exact ⟨e1.symm, e2.symm, e3.symm⟩
/-- The document's Read: what the text is of, else none. -/
theorem read_doc {s : ByteArray} {w w' : World} {e : Ending} (h : GivesRead s w e w') : Below w.heap.size w w' ∧ ((∃ v A L, Sixteen A ∧ rightA v A L = true ∧ strOfNums (textZ v A L) = s ∧ e = .returned (.tuple #[.agg (pcells v A L), .int .i64 0])) ∨ ((∀ v A L, Sixteen A → rightA v A L = true → strOfNums (textZ v A L) ≠ s) ∧ e = .returned (.tuple #[.agg ZP, .int .i64 2]))) := by
  refine ⟨h.1, ?_⟩
  rcases h.2 with ⟨v, A, L, hA, ⟨_, h2, h3⟩, rfl⟩ | ⟨hn, rfl⟩
  · exact .inl ⟨v, A, L, hA, h2, h3, rfl⟩
  · refine .inr ⟨fun v A L hA hr ht => hn v A L ⟨?_, hr, ht⟩, rfl⟩
    rw [← ht]
    exact parse_back hA hr

end Go.Proofs.YtpekpgmdjpcpiaaDoor

namespace Go.Proofs.YtpekpgmdjpcpiaaDoor
open Go.RowKit
set_option linter.unusedVariables false

/-- Rows, joined by c. -/
def joinN (c : Int) : List (List Int) → List Int
  | [] => []
  | d :: r => d ++ (r.map (c :: ·)).flatten
theorem joinN_snoc (c : Int) (d e : List Int) (r : List (List Int)) : joinN c ((d :: r) ++ [e]) = joinN c (d :: r) ++ c :: e := by
  simp [joinN]
theorem toB_app (x y : List Int) : (x ++ y).map (fun n => UInt8.ofNat n.toNat) = x.map (fun n => UInt8.ofNat n.toNat) ++ y.map (fun n => UInt8.ofNat n.toNat) := List.map_append
/-- The library's Join of these. -/
theorem join_is (c : Int) (D : List (List Int)) : (⟨(Lib.join ((SB D).map (·.data.toList)) (strOfNums [c]).data.toList).toArray⟩ : ByteArray) = strOfNums (joinN c D) := by
  have h : Lib.join ((SB D).map (·.data.toList)) (strOfNums [c]).data.toList = (joinN c D).map fun n => UInt8.ofNat n.toNat := by
    cases D with
    | nil => rfl
    | cons d r =>
      show Lib.join ((strOfNums d).data.toList :: (SB r).map (·.data.toList)) _ = _
      rw [Lib.join_cons]
      unfold joinN
      rw [toB_app]
      congr 1
      unfold Lib.joinTail SB
      simp only [List.map_map, List.map_flatten]
      congr 1
  rw [h]
  rfl
theorem join_len (c : Int) (D : List (List Int)) : (Lib.join ((SB D).map (·.data.toList)) (strOfNums [c]).data.toList).length = (joinN c D).length := by
  have h := congrArg ByteArray.size (join_is c D)
  rw [strOfNums_size] at h
  simpa [ByteArray.size] using h

theorem four_join (A : List Int) : joinN 46 (groupsT false A 4) = fourZ A := by
  show joinN 46 [decZ A 0, decZ A 1, decZ A 2, decZ A 3] = fourZ A
  simp [joinN, fourZ]
theorem run_more (u A : List Int) (i m : Nat) : runG (u ++ hexG A i) A (i + 1) (m + 1) = runG (u ++ hexG A i) A (i + 1) m ++ 58 :: hexG A (i + 1 + m) := by
  have ends : ∀ m, ∃ x, runG (u ++ hexG A i) A (i + 1) m = x ++ hexG A (i + m) := by
    intro m
    cases m with
    | zero => exact ⟨u, rfl⟩
    | succ m => exact ⟨sepG (runG (u ++ hexG A i) A (i + 1) m), by show sepG _ ++ hexG A (i + 1 + m) = _; rw [show i + 1 + m = i + (m + 1) by omega]⟩
  obtain ⟨x, hx⟩ := ends m
  show sepG (runG (u ++ hexG A i) A (i + 1) m) ++ hexG A (i + 1 + m) = _
  rw [hx, sep_yes]
  simp
theorem run_first (u A : List Int) (i : Nat) : ∀ m, runG u A i (m + 1) = runG (sepG u ++ hexG A i) A (i + 1) m
  | 0 => rfl
  | m + 1 => by
    show addG (runG u A i (m + 1)) A (i + (m + 1)) = addG (runG (sepG u ++ hexG A i) A (i + 1) m) A (i + 1 + m)
    rw [run_first u A i m, show i + (m + 1) = i + 1 + m by omega]
def grpT (A : List Int) (i m : Nat) : List (List Int) := (List.range m).map fun j => hexG A (i + j)
theorem grpT_more (A : List Int) (i m : Nat) : grpT A i (m + 1) = grpT A i m ++ [hexG A (i + m)] := by
  unfold grpT
  rw [List.range_succ, List.map_append]
  rfl
theorem grpT_cons (A : List Int) (i m : Nat) : grpT A i (m + 1) = hexG A i :: grpT A (i + 1) m := by
  unfold grpT
  rw [List.range_succ_eq_map, List.map_cons, List.map_map]
  congr 1
  apply List.map_congr_left
  intro j _
  simp only [Function.comp]
  congr 1
  omega
theorem run_join (u A : List Int) (i m : Nat) (hu : sepG u = u) : runG u A i m = u ++ joinN 58 (grpT A i m) := by
  cases m with
  | zero => simp [runG, grpT, joinN]
  | succ m =>
    rw [run_first, hu]
    induction m with
    | zero => simp [runG, grpT, joinN]
    | succ m ih =>
      rw [run_more, ih, grpT_more A i (m + 1), grpT_cons A i m, joinN_snoc, List.append_assoc, show i + 1 + m = i + (m + 1) by omega]
theorem six_join (A : List Int) : sixZ A = if (rowZ A).2 = 0 then joinN 58 (grpT A 0 8) else joinN 58 (grpT A 0 (rowZ A).1) ++ [58, 58] ++ joinN 58 (grpT A ((rowZ A).1 + (rowZ A).2) (8 - (rowZ A).1 - (rowZ A).2)) := by
  unfold sixZ
  split
  · rw [run_join [] A 0 8 rfl]
    rfl
  · rw [run_join [] A 0 _ rfl, List.nil_append, run_join _ A _ _ (by
      rw [show joinN 58 (grpT A 0 (rowZ A).1) ++ [58, 58] = (joinN 58 (grpT A 0 (rowZ A).1) ++ [58]) ++ [(58 : Int)] by simp]
      exact sep_no _)]

/-- The runs by truths alone. -/
def runB (z : Nat → Bool) : Nat → Nat
  | 0 => 0
  | j + 1 => if z (8 - (j + 1)) = true then runB z j + 1 else 0
def bestB (z : Nat → Bool) : Nat → Nat × Nat
  | 0 => (0, 0)
  | k + 1 => if (bestB z k).2 < runB z (8 - k) then (k, runB z (8 - k)) else bestB z k
def isZ (A : List Int) (i : Nat) : Bool := decide (grpZ A i = 0)
theorem runB_is (A : List Int) : ∀ j, runU A j = runB (isZ A) j
  | 0 => rfl
  | j + 1 => by
    rw [runU, runB, runB_is A j]
    unfold isZ
    simp only [decide_eq_true_eq]
theorem bestB_is (A : List Int) : ∀ k, bestZ A k = bestB (isZ A) k
  | 0 => rfl
  | k + 1 => by
    rw [bestZ, bestB, bestB_is A k]
    unfold runZ
    rw [runB_is]
def eightB (b0 b1 b2 b3 b4 b5 b6 b7 : Bool) (i : Nat) : Bool := [b0, b1, b2, b3, b4, b5, b6, b7][i]?.getD false
theorem runB_same {z y : Nat → Bool} (h : ∀ i, i < 8 → z i = y i) : ∀ j, j ≤ 8 → runB z j = runB y j
  | 0, _ => rfl
  | j + 1, hj => by rw [runB, runB, h _ (by omega), runB_same h j (by omega)]
theorem bestB_same {z y : Nat → Bool} (h : ∀ i, i < 8 → z i = y i) : ∀ k, k ≤ 8 → bestB z k = bestB y k
  | 0, _ => rfl
  | k + 1, hk => by rw [bestB, bestB, bestB_same h k (by omega), runB_same h (8 - k) (by omega)]
theorem lr_same {z y : Nat → Bool} : ∀ k, (∀ i, i < k → z i = y i) → lrZ z k = lrZ y k
  | 0, _ => rfl
  | k + 1, h => by rw [lrZ, lrZ, lr_same k (fun i hi => h i (by omega)), h k (by omega)]
theorem all_best : ∀ b0 b1 b2 b3 b4 b5 b6 b7 : Bool, (let z := eightB b0 b1 b2 b3 b4 b5 b6 b7; ((lrZ z 8).2.1 - (lrZ z 8).1 < 2) = ((bestB z 8).2 < 2) ∧ (2 ≤ (bestB z 8).2 → bestB z 8 = ((lrZ z 8).1, (lrZ z 8).2.1 - (lrZ z 8).1))) := by
  intro b0 b1 b2 b3 b4 b5 b6 b7
  cases b0 <;> cases b1 <;> cases b2 <;> cases b3 <;> cases b4 <;> cases b5 <;> cases b6 <;> cases b7 <;> exact ⟨rfl, by decide⟩

end Go.Proofs.YtpekpgmdjpcpiaaDoor

namespace Go.Proofs.YtpekpgmdjpcpiaaDoor
open Go.RowKit
set_option linter.unusedVariables false

theorem div_more {x y a b : Nat} (h : a ≤ b) (e : x / 2 ^ a = y / 2 ^ a) : x / 2 ^ b = y / 2 ^ b := by
  have p : (2 : Nat) ^ b = 2 ^ a * 2 ^ (b - a) := by
    rw [← Nat.pow_add]
    congr 1
    omega
  rw [p, ← Nat.div_div_eq_div_mul, ← Nat.div_div_eq_div_mul, e]
theorem covers_self (v : Bool) (A : List Int) (L : Int) : coversA v A L v A L = rightA v A L := by
  simp [coversA]
theorem covers_goes {v u t : Bool} {A B C : List Int} {L M K : Int} (h : coversA v A L u B M = true) (k : coversA u B M t C K = true) : coversA v A L t C K = true := by
  obtain ⟨h1, h2, rfl, h4, h5⟩ := (covers_is ..).1 h
  obtain ⟨k1, k2, rfl, k4, k5⟩ := (covers_is ..).1 k
  exact (covers_is ..).2 ⟨h1, k2, rfl, by omega, h5.trans (div_more (by omega) k5)⟩
theorem covers_both {v u : Bool} {A B : List Int} {L M : Int} (hA : Sixteen A) (hB : Sixteen B) (h : coversA v A L u B M = true) (k : coversA u B M v A L = true) : v = u ∧ A = B ∧ L = M := by
  obtain ⟨h1, h2, rfl, h4, h5⟩ := (covers_is ..).1 h
  obtain ⟨k1, k2, _, k4, k5⟩ := (covers_is ..).1 k
  have e : L = M := by omega
  subst e
  have r1 := ((right_is ..).1 h1).2.2
  have r2 := ((right_is ..).1 h2).2.2
  have d1 := Nat.div_add_mod (aN A) (2 ^ (128 - L.toNat))
  have d2 := Nat.div_add_mod (aN B) (2 ^ (128 - L.toNat))
  rw [h5, r1] at d1
  rw [r2] at d2
  exact ⟨rfl, aN_inj hA.2 hB.2 (hA.1.trans hB.1.symm) (by omega), rfl⟩
theorem covers_ahead {v u : Bool} {A B : List Int} {L M : Int} (h : coversA v A L u B M = true) : cmpA v A L u B M ≤ 0 := by
  obtain ⟨h1, h2, rfl, h4, h5⟩ := (covers_is ..).1 h
  have r1 := ((right_is ..).1 h1).2.2
  have d1 := Nat.div_add_mod (aN A) (2 ^ (128 - L.toNat))
  have d2 := Nat.div_add_mod (aN B) (2 ^ (128 - L.toNat))
  rw [h5, r1] at d1
  have le : aN A ≤ aN B := by omega
  unfold cmpA
  repeat' split
  all_goals simp_all
  all_goals omega

theorem cmp_turned (v : Bool) (A : List Int) (L : Int) (u : Bool) (B : List Int) (M : Int) : cmpA u B M v A L = - cmpA v A L u B M := by
  unfold cmpA
  generalize aN A = a
  generalize aN B = b
  cases v <;> cases u
  · simp only [ne_eq, not_true, if_false]
    repeat' split
    all_goals omega
  · simp
  · simp
  · simp only [ne_eq, not_true, if_false]
    repeat' split
    all_goals omega
theorem cmp_zero {v : Bool} {A : List Int} {L : Int} {u : Bool} {B : List Int} {M : Int} (hA : Sixteen A) (hB : Sixteen B) : cmpA v A L u B M = 0 ↔ v = u ∧ A = B ∧ L = M := by
  constructor
  · intro h
    have key : v = u ∧ aN A = aN B ∧ L = M := by
      unfold cmpA at h
      generalize aN A = a at *
      generalize aN B = b at *
      cases v <;> cases u
      · refine ⟨rfl, ?_⟩
        simp only [ne_eq, not_true, if_false] at h
        repeat' split at h
        all_goals omega
      · simp at h
      · simp at h
      · refine ⟨rfl, ?_⟩
        simp only [ne_eq, not_true, if_false] at h
        repeat' split at h
        all_goals omega
    exact ⟨key.1, aN_inj hA.2 hB.2 (hA.1.trans hB.1.symm) key.2.1, key.2.2⟩
  · rintro ⟨rfl, rfl, rfl⟩
    simp [cmpA]
theorem cmp_goes {v u t : Bool} {A B C : List Int} {L M K : Int} (h : cmpA v A L u B M = cmpA u B M t C K) : cmpA v A L t C K = cmpA v A L u B M := by
  unfold cmpA at *
  generalize aN A = a at *
  generalize aN B = b at *
  generalize aN C = c at *
  cases v <;> cases u <;> cases t
  all_goals simp only [ne_eq, not_true, if_false, if_true, reduceCtorEq, not_false_eq_true, Bool.false_eq_true] at h ⊢
  all_goals first | (repeat' split at h; all_goals first | (exfalso; omega) | (repeat' split; all_goals omega)) | skip

theorem cutL_ok (v : Bool) (L : Int) : 0 ≤ cutL v L ∧ cutL v L ≤ mostZ v := by
  have := most_le v
  unfold cutL
  omega
theorem cutA_ok (v : Bool) (A : List Int) (L : Int) : Sixteen (cutA v A L) := by16_ok _
theorem cutA_aN (v : Bool) {A : List Int} (hA : Sixteen A) (L : Int) : aN (cutA v A L) = aN A / 2 ^ (128 - (cutL v L).toNat) * 2 ^ (128 - (cutL v L).toNat) := by
  unfold cutA
  exact aN_by16 (Nat.lt_of_le_of_lt (Nat.div_mul_le_self _ _) (aN_lt16 hA))
theorem cut_right (v : Bool) {A : List Int} (hA : Sixteen A) (L : Int) : rightA v (cutA v A L) (cutL v L) = true := by
  have h := cutL_ok v L
  refine (right_is ..).2 ⟨h.1, h.2, ?_⟩
  rw [cutA_aN v hA]
  exact Nat.mul_mod_left _ _
theorem cut_same {v : Bool} {A : List Int} (hA : Sixteen A) {L : Int} (h : rightA v A L = true) : cutL v L = L ∧ cutA v A L = A := by
  obtain ⟨h1, h2, h3⟩ := (right_is ..).1 h
  have e : cutL v L = L := by
    unfold cutL
    omega
  refine ⟨e, ?_⟩
  unfold cutA
  rw [e, Nat.mul_comm]
  have d := Nat.div_add_mod (aN A) (2 ^ (128 - L.toNat))
  rw [h3, Nat.add_zero] at d
  rw [d]
  exact by16_aN hA
theorem cut_twice (v : Bool) {A : List Int} (hA : Sixteen A) (L : Int) : cutL v (cutL v L) = cutL v L ∧ cutA v (cutA v A L) (cutL v L) = cutA v A L := cut_same (cutA_ok v A L) (cut_right v hA L)
theorem cut_covers {v : Bool} {C : List Int} {L n : Int} (hC : Sixteen C) (h : rightA v C L = true) (hn : cutL v n ≤ L) : coversA v (cutA v C n) (cutL v n) v C L = true := by
  refine (covers_is ..).2 ⟨cut_right v hC n, h, rfl, hn, ?_⟩
  rw [cutA_aN v hC, Nat.mul_div_cancel _ (Nat.pow_pos (by decide))]

end Go.Proofs.YtpekpgmdjpcpiaaDoor

namespace Go.Proofs.YtpekpgmdjpcpiaaDoor
open Go.RowKit
set_option linter.unusedVariables false

/-- How many bits of byte q stand within the first c. -/
def keepK (c q : Nat) : Nat := min (c - 8 * q) 8
/-- A byte of which k bits are kept. -/
def keepB (z : Int) (k : Nat) : Int := z / 2 ^ (8 - k) * 2 ^ (8 - k)
/-- The address whose first i bytes are cut. -/
def cutTo (A : List Int) (c i : Nat) : List Int := (List.range 16).map fun q => if q < i then keepB (A[q]?.getD 0) (keepK c q) else A[q]?.getD 0
theorem keepK_le (c q : Nat) : keepK c q ≤ 8 := by unfold keepK; omega
theorem keepB_range {z : Int} (h0 : 0 ≤ z) (h1 : z ≤ 255) {k : Nat} (hk : k ≤ 8) : 0 ≤ keepB z k ∧ keepB z k ≤ 255 := by
  unfold keepB
  have : k = 0 ∨ k = 1 ∨ k = 2 ∨ k = 3 ∨ k = 4 ∨ k = 5 ∨ k = 6 ∨ k = 7 ∨ k = 8 := by omega
  rcases this with rfl | rfl | rfl | rfl | rfl | rfl | rfl | rfl | rfl
  all_goals simp only [Nat.reduceSub, Int.reducePow]
  all_goals omega
theorem cutTo_at (A : List Int) (c i : Nat) {q : Nat} (hq : q < 16) : (cutTo A c i)[q]?.getD 0 = if q < i then keepB (A[q]?.getD 0) (keepK c q) else A[q]?.getD 0 := by
  unfold cutTo
  rw [List.getElem?_map, List.getElem?_range hq]
  rfl
theorem cutTo_len (A : List Int) (c i : Nat) : (cutTo A c i).length = 16 := by simp [cutTo]
theorem cutTo_ok {A : List Int} (hA : Sixteen A) (c i : Nat) : Sixteen (cutTo A c i) := by
  refine ⟨cutTo_len A c i, fun x hx => ?_⟩
  obtain ⟨q, hq, rfl⟩ := List.mem_map.1 hx
  have hq' : q < 16 := List.mem_range.1 hq
  have hz : 0 ≤ A[q]?.getD 0 ∧ A[q]?.getD 0 ≤ 255 := by
    rw [List.getElem?_eq_getElem (by rw [hA.1]; exact hq')]
    exact hA.2 _ (List.getElem_mem _)
  split
  · exact keepB_range hz.1 hz.2 (keepK_le c q)
  · exact hz
theorem ext16 {A B : List Int} (hA : A.length = 16) (hB : B.length = 16) (h : ∀ q, q < 16 → A[q]?.getD 0 = B[q]?.getD 0) : A = B := by
  apply List.ext_getElem (hA.trans hB.symm)
  intro q q1 q2
  have := h q (by omega)
  rw [List.getElem?_eq_getElem q1, List.getElem?_eq_getElem q2] at this
  exact this
theorem cutTo_start {A : List Int} (hA : A.length = 16) (c : Nat) : cutTo A c 0 = A :=
  ext16 (cutTo_len A c 0) hA (fun q hq => by rw [cutTo_at A c 0 hq, if_neg (by omega)])
theorem cutTo_next (A : List Int) (c : Nat) {i : Nat} (hi : i < 16) : (cutTo A c i).set i (keepB (A[i]?.getD 0) (keepK c i)) = cutTo A c (i + 1) := by
  refine ext16 (by rw [List.length_set, cutTo_len]) (cutTo_len A c _) (fun q hq => ?_)
  rw [cutTo_at A c (i + 1) hq, List.getElem?_set]
  split
  · rename_i e
    subst e
    rw [if_pos (by rw [cutTo_len]; exact hi), if_pos (by omega)]
    rfl
  · rw [cutTo_at A c i hq]
    split
    · rw [if_pos (by omega)]
    · rw [if_neg (by omega)]
theorem byte_keep (x j : Nat) (h : j ≤ 8) : x / 2 ^ j * 2 ^ j % 256 = x % 256 / 2 ^ j * 2 ^ j := by
  have h' : j = 0 ∨ j = 1 ∨ j = 2 ∨ j = 3 ∨ j = 4 ∨ j = 5 ∨ j = 6 ∨ j = 7 ∨ j = 8 := by omega
  rcases h' with rfl | rfl | rfl | rfl | rfl | rfl | rfl | rfl | rfl
  all_goals simp only [Nat.reducePow]
  all_goals omega
theorem cut_byte (n c q : Nat) (hq : q < 16) (hc : c ≤ 128) : n / 2 ^ (128 - c) * 2 ^ (128 - c) / 256 ^ (15 - q) % 256 = n / 256 ^ (15 - q) % 256 / 2 ^ (8 - keepK c q) * 2 ^ (8 - keepK c q) := by
  have e2 : (256 : Nat) ^ (15 - q) = 2 ^ (8 * (15 - q)) := by rw [Nat.pow_mul]
  rw [e2]
  unfold keepK
  generalize he : 8 * (15 - q) = e
  rcases Nat.le_total (128 - c) e with h | h
  · rw [show min (c - 8 * q) 8 = 8 by omega, show 8 - 8 = 0 from rfl, Nat.pow_zero, Nat.div_one, Nat.mul_one]
    have p : (2 : Nat) ^ e = 2 ^ (128 - c) * 2 ^ (e - (128 - c)) := by
      rw [← Nat.pow_add]
      congr 1
      omega
    rw [p, ← Nat.div_div_eq_div_mul, Nat.mul_div_cancel _ (Nat.pow_pos (by decide)), Nat.div_div_eq_div_mul]
  · have pe : 0 < 2 ^ e := Nat.pow_pos (by decide)
    obtain ⟨j, hj⟩ : ∃ j, 128 - c = e + j := ⟨128 - c - e, by omega⟩
    rw [hj, Nat.pow_add]
    have s1 : n / (2 ^ e * 2 ^ j) * (2 ^ e * 2 ^ j) / 2 ^ e = n / 2 ^ e / 2 ^ j * 2 ^ j := by
      rw [Nat.mul_left_comm, Nat.mul_div_cancel_left _ pe, Nat.div_div_eq_div_mul]
    rw [s1]
    rcases Nat.le_total j 8 with h8 | h8
    · rw [show 8 - min (c - 8 * q) 8 = j by omega]
      exact byte_keep _ _ h8
    · rw [show 8 - min (c - 8 * q) 8 = 8 by omega]
      have p8 : (2 : Nat) ^ j = 2 ^ (j - 8) * 256 := by
        rw [show (256 : Nat) = 2 ^ 8 from rfl, ← Nat.pow_add]
        congr 1
        omega
      have l1 : n / 2 ^ e / 2 ^ j * 2 ^ j % 256 = 0 := by
        rw [p8, ← Nat.mul_assoc]
        exact Nat.mul_mod_left _ _
      rw [l1]
      have l2 : n / 2 ^ e % 256 / 2 ^ 8 = 0 := Nat.div_eq_of_lt (Nat.mod_lt _ (by decide))
      rw [l2]
theorem cutTo_end {v : Bool} {A : List Int} (hA : Sixteen A) {L : Int} {c : Nat} (hc : cutL v L = (c : Int)) : cutTo A c 16 = cutA v A L := by
  have h128 : c ≤ 128 := by
    have := cutL_ok v L
    have := most_le v
    omega
  refine ext16 (cutTo_len A c 16) (cutA_ok v A L).1 (fun q hq => ?_)
  rw [cutTo_at A c 16 hq, if_pos hq]
  unfold cutA by16
  rw [hc, Int.toNat_natCast, List.getElem?_map, List.getElem?_range hq]
  have e := aN_at hA.2 q (by rw [hA.1]; exact hq)
  rw [hA.1] at e
  rw [← e]
  show keepB _ _ = ((_ : Nat) : Int)
  rw [cut_byte _ _ _ hq h128]
  unfold keepB
  rw [Int.natCast_mul, Int.natCast_ediv, Int.natCast_pow]
  rfl

end Go.Proofs.YtpekpgmdjpcpiaaDoor

namespace Go.Proofs.YtpekpgmdjpcpiaaDoor
open Go.RowKit
set_option linter.unusedVariables false

theorem sixteen_at0 {A : List Int} (h : Sixteen A) (q : Nat) (hq : q < 16) : 0 ≤ A[q]?.getD 0 ∧ A[q]?.getD 0 ≤ 255 := by
  rw [List.getElem?_eq_getElem (by rw [h.1]; exact hq)]
  exact h.2 _ (List.getElem_mem _)
theorem shr_keep {k : Nat} (h : k ≤ 8) : (255 : Int) / 2 ^ k = 2 ^ (8 - k) - 1 := by
  have h' : k = 0 ∨ k = 1 ∨ k = 2 ∨ k = 3 ∨ k = 4 ∨ k = 5 ∨ k = 6 ∨ k = 7 ∨ k = 8 := by omega
  rcases h' with rfl | rfl | rfl | rfl | rfl | rfl | rfl | rfl | rfl <;> rfl
theorem and_all : ((List.range 9).all fun k => (List.range 256).all fun z => bits .andNot .u8 ((z : Nat) : Int) (2 ^ (8 - k) - 1) == ((z / 2 ^ (8 - k) * 2 ^ (8 - k) : Nat) : Int)) = true := by kernel_rfl
theorem and_keep {z : Int} (h0 : 0 ≤ z) (h1 : z ≤ 255) {k : Nat} (h : k ≤ 8) : bits .andNot .u8 z (2 ^ (8 - k) - 1) = keepB z k := by
  have a1 := List.all_eq_true.1 (List.all_eq_true.1 and_all k (List.mem_range.2 (by omega))) z.toNat (List.mem_range.2 (by omega))
  have a2 := eq_of_beq a1
  rw [Int.toNat_of_nonneg h0] at a2
  rw [a2]
  unfold keepB
  rw [Int.natCast_mul, Int.natCast_ediv, Int.natCast_pow, Int.toNat_of_nonneg h0]
  rfl
/-- The length's cell is kept. -/
def KeepL (g : Nat) (a b : World) : Prop := b.cell? ⟨g, 17, none⟩ = a.cell? ⟨g, 17, none⟩
theorem KeepL.set (g : Nat) (w : World) {k : Nat} (h : k ≠ 17) (g' : Nat) (x : Value) (hg : g' = g := by rfl) : KeepL g w (w.setCell ⟨g', k, none⟩ x) := World.cell?_setCell_other _ _ _ _ (fun e => by injection e with _ e; omega)
theorem KeepC.later {g n : Nat} {a b : World} (h : Below a.heap.size a b) (hg : g < a.heap.size) : KeepC g n a b := fun i _ => by
  simp only [World.cell?, h.block g hg]

set_option maxHeartbeats 2000000 in
set_option maxRecDepth 10000 in
theorem cut_any (v : Bool) (A : List Int) (L : Int) (w : World) (hA : Sixteen A) (l0 : -9223372036854775808 ≤ L) (l1 : L ≤ 9223372036854775807) :
    Calls Tryd.prog 20 #[.agg (pcells v A L)] w fun e w' => e = .returned (.agg (pcells v (cutA v A L) (cutL v L))) ∧ Below w.heap.size w w' := by
  have BX : Hid (PBlk ((w.alloc (.cells (pcells v A L) 24)).alloc (.cells ZP 24)) w.heap.size v A L) := Lib.hid (Blk.alloc (pbox w v A L) _)
  have BZ := Lib.hid (Blk.new (w.alloc (.cells (pcells v A L) 24)) 24 ZP)
  have HGZ : Hid ((w.alloc (.cells (pcells v A L) 24)).heap.size = w.heap.size + 1) := Lib.hid (by simp)
  have BW := Lib.hid (Below.step (box_below w (.cells (pcells v A L) 24)) (box_below _ (.cells ZP 24)))
  have HA := Lib.hid hA
  have hA16 := hA.1
  obtain ⟨c, hc⟩ : ∃ c : Nat, cutL v L = (c : Int) := ⟨(cutL v L).toNat, by have := cutL_ok v L; omega⟩
  have c128 : c ≤ 128 := by
    have := cutL_ok v L
    have := most_le v
    omega
  have FN : Hid (8 * (famN v : Int) = mostZ v) := Lib.hid (by cases v <;> rfl)
  have CC : Hid (∀ W, Calls Tryd.prog 36 #[.int .i64 L, .int .i64 (mostZ v)] W fun e w' => e = .returned (.int .i64 (c : Int)) ∧ w' = W) := Lib.hid (fun W => by
    have := most_le v
    rw [← hc]
    exact clamped_any L (mostZ v) W l0 l1 (by omega) (by omega))
  have mw : IntKind.i64.wrap (mostZ v) = mostZ v := IntWalk.i64_in _ (by have := most_le v; omega)
  have CL := Lib.hid hc
  have CM := Lib.hid (fun W => family_any v W)
  have cv := BX.out.v
  have cl := BX.out.l hA16
  have FG : Hid ((famC v)[0]? = some (.int .i64 (famN v))) := Lib.hid rfl
  clear hA hc
  go_enter Tryd.func20, Tryd.ntmps20
  go_wp2_with (refine Great.wpList_allocTo rfl (some 2) rfl (.pointer (some ⟨(w.alloc (.cells (pcells v A L) 24)).heap.size, 0, none⟩)) (.cells ZP 24) rfl ?_)
  generalize (w.alloc (.cells (pcells v A L) 24)).alloc (.cells ZP 24) = w2 at *
  generalize (w.alloc (.cells (pcells v A L) 24)).heap.size = gz at *
  have hw2 : w.heap.size < w2.heap.size := BX.out.lt
  have m4 : ∀ W, KeepC w.heap.size 17 w2.drew W → W.cell? ⟨w.heap.size, 0, none⟩ = some (.bool v) := fun W hW => (hW 0 (by omega)).trans cv
  have cl' : w2.drew.cell? ⟨w.heap.size, 17, none⟩ = some (.int .i64 L) := cl
  have FN2 := FN.out
  refine wp_region_plan (KeepC w.heap.size 17) (KeepC.refl _ _) KeepC.trans (.take 0 (.take 2 (.take 3 (.fork 1 (.sole 4 (.take 5 (.take 6 (.sole 7 (.take 8 (.sole 9 .fin)))))) 4 (.take 5 (.take 6 (.sole 1 (.sole 7 (.take 8 (.sole 9 .fin)))))))))) (by kernel_rfl) (by kernel_rfl) rfl (by kernel_rfl) (fun _ _ _ _ _ h => h) ?_
  repeat (refine plan_take _ rfl (by rfl) (fun W hW => by go_simp; first | done | rfl) ?_; simp only [Act.put, List.setIfInBounds_toArray, List.set_cons_zero, List.set_cons_succ])
  refine plan_fork ?_ ?_
  · refine sole_take rfl (by rfl) (fun K1 hK1 => ?_)
    go_simp
    refine hK1 _ _ (KeepC.refl _ _ _) ?_
    clear hK1 K1
    refine plan_sole (sole_take rfl (by rfl) (fun K1 hK1 => ?_))
    go_simp
    refine (CM.out _).mono ?_
    rintro r w3 ⟨rfl, hb3⟩
    refine hK1 _ _ (KeepC.later hb3 hw2) ?_
    clear hK1 K1
    replace hb3 := Below.step (drewN_below w2 1) hb3
    have X3 := Lib.hid (PBlk.below BX.out hb3 hw2)
    have Z3 := Lib.hid (Blk.below BZ.out hb3 BZ.out.lt)
    have B3 := Lib.hid (Below.step BW.out hb3)
    have cl3 := X3.out.l hA16
    have f17 : w3.frozen? ⟨w.heap.size, 17, none⟩ = false := Blk.free X3.out 17
    clear hb3
    repeat (refine plan_take _ rfl (by rfl) (fun W hW => by go_simp; first | done | rfl) ?_; simp only [Act.put, List.setIfInBounds_toArray, List.set_cons_zero, List.set_cons_succ])
    refine plan_sole (sole_take rfl (by rfl) (fun K1 hK1 => ?_))
    go_simp
    refine (CC.out _).mono ?_
    rintro r w5 ⟨rfl, rfl⟩
    refine hK1 _ _ (KeepC.refl _ _ _) ?_
    clear hK1 K1
    repeat (refine plan_take _ rfl (by rfl) (fun W hW => by go_simp; first | done | rfl) ?_; simp only [Act.put, List.setIfInBounds_toArray, List.set_cons_zero, List.set_cons_succ])
    refine plan_sole (sole_take rfl (by rfl) (fun K1 hK1 => ?_))
    unfold Oper.wp
    go_simp
    refine hK1 _ _ (KeepC.set _ _ _ _ _ (Nat.le_refl _)) ?_
    clear hK1 K1
    refine plan_end ?_
    have X4 : Hid (PBlk (w5.setCell ⟨w.heap.size, 17, none⟩ (.int .i64 (c : Int))) w.heap.size v A (c : Int)) := Lib.hid (show PBlk (w5.setCell ⟨w.heap.size, 17, none⟩ (.int .i64 (c : Int))) w.heap.size v A (c : Int) from PBlk.setL X3.out hA16 (c : Int))
    have Z4 : Hid (Blk (w5.setCell ⟨w.heap.size, 17, none⟩ (.int .i64 (c : Int))) gz 24 ZP) := Lib.hid (show Blk (w5.setCell ⟨w.heap.size, 17, none⟩ (.int .i64 (c : Int))) gz 24 ZP from Blk.far Z3.out (by have := HGZ.out; omega) 17 _)
    have B4 : Hid (Below w.heap.size w (w5.setCell ⟨w.heap.size, 17, none⟩ (.int .i64 (c : Int)))) := Lib.hid (Below.setCell B3.out (p := ⟨w.heap.size, 17, none⟩) (Nat.le_refl _) _)
    clear BX BZ BW X3 Z3 B3 cv cl m4 cl' cl3 f17 CM CC FN FN2 FG mw hw2
    generalize (w5.setCell ⟨w.heap.size, 17, none⟩ (.int .i64 (c : Int))) = w4 at *
    go_wp2_with fail
    go_loopw [13] (fun iV wr => ∃ (i : Nat), iV = .int .i64 (i : Int) ∧ i ≤ 16 ∧ PBlk wr w.heap.size v (cutTo A c i) (c : Int) ∧ Blk wr gz 24 ZP ∧ Below w.heap.size w wr) (fun iV _ => (200 - intOf iV).toNat)
    case atStart => exact ⟨0, rfl, by omega, by rw [cutTo_start hA16]; exact X4.out, Z4.out, B4.out⟩
    case round =>
      obtain ⟨i, rfl, hi, hx, hz, hb⟩ := hrel
      have X5 := Lib.hid hx
      have Z5 := Lib.hid hz
      have B5 := Lib.hid hb
      have A5 := Lib.hid (cutTo_ok HA.out c i)
      clear hx hz hb
      by_cases hlt : i < 16
      · have t0 : decide ((i : Int) < 16) = true := decide_eq_true (by omega)
        obtain ⟨kp, hk⟩ : ∃ kp, keepK c i = kp := ⟨_, rfl⟩
        have hk8 : kp ≤ 8 := by rw [← hk]; exact keepK_le c i
        have zr := sixteen_at0 A5.out i hlt
        have ea : (cutTo A c i)[i]?.getD 0 = A[i]?.getD 0 := by rw [cutTo_at A c i hlt, if_neg (by omega)]
        have NX := Lib.hid (cutTo_next A c hlt)
        rw [hk, ← ea] at NX
        have CK : Hid (min (max ((c : Int) - 8 * (i : Int)) 0) 8 = (kp : Int)) := Lib.hid (by
          rw [← hk]
          unfold keepK
          omega)
        have CC := Lib.hid (fun W => clamped_any ((c : Int) - 8 * (i : Int)) 8 W (by omega) (by omega) (by omega) (by omega))
        have cz := (Blk.cell X5.out (1 + i)).trans (pcells_a A5.out.1 i hlt)
        have cl := X5.out.l A5.out.1
        have fz := Blk.free X5.out (1 + i)
        have ST := Lib.hid (fun (W : World) (h : PBlk W w.heap.size v (cutTo A c i) (c : Int)) (x : Int) => PBlk.setA h A5.out.1 i hlt x)
        generalize (cutTo A c i)[i]?.getD 0 = z at *
        have KB := keepB_range zr.1 zr.2 hk8
        have AN := and_keep zr.1 zr.2 hk8
        have AN2 := shr_keep hk8
        rw [CK.out] at CC
        have CK0 : (0 : Int) ≤ (kp : Int) := by omega
        have m1 : IntKind.i64.wrap (8 * (i : Int)) = 8 * (i : Int) := IntWalk.i64_in _ (by omega)
        have m2 : IntKind.i64.wrap ((c : Int) - 8 * (i : Int)) = (c : Int) - 8 * (i : Int) := IntWalk.i64_in _ (by omega)
        have iI : (i : Int) < 16 := by omega
        have i0 : (0 : Int) ≤ (i : Int) := by omega
        clear hk ea CK
        generalize keepB z kp = y at *
        go_wp2_with fail
        have cz' : wr.drew.cell? ⟨w.heap.size, 1 + i, none⟩ = some (.int .u8 z) := cz
        have cl' : ∀ W, KeepL w.heap.size wr.drew W → W.cell? ⟨w.heap.size, 17, none⟩ = some (.int .i64 (c : Int)) := fun W hW => hW.trans cl
        have fz' : wr.drew.frozen? ⟨w.heap.size, 1 + i, none⟩ = false := fz
        refine wp_region_plan (KeepL w.heap.size) (fun _ => rfl) (fun _ _ _ h k => k.trans h) (.take 0 (.take 1 (.take 2 (.take 4 (.take 5 (.take 6 (.take 7 (.take 8 (.take 12 (.fork 3 (.sole 9 (.take 10 (.take 11 (.take 13 (.sole 14 .fin))))) 9 (.take 10 (.sole 3 (.take 11 (.take 13 (.sole 14 .fin))))))))))))))) (by kernel_rfl) (by kernel_rfl) rfl (by kernel_rfl) (fun _ _ _ _ _ h => h) ?_
        repeat (refine plan_take _ rfl (by rfl) (fun W hW => by go_simp; first | done | rfl) ?_; simp only [Act.put, List.setIfInBounds_toArray, List.set_cons_zero, List.set_cons_succ])
        refine plan_fork ?_ ?_
        · refine sole_take rfl (by rfl) (fun K1 hK1 => ?_)
          go_simp
          refine hK1 _ _ rfl ?_
          clear hK1 K1
          refine plan_sole (sole_take rfl (by rfl) (fun K1 hK1 => ?_))
          go_simp
          refine (CC.out _).mono ?_
          rintro r w3 ⟨rfl, rfl⟩
          refine hK1 _ _ rfl ?_
          clear hK1 K1
          repeat (refine plan_take _ rfl (by rfl) (fun W hW => by go_simp; first | done | rfl) ?_; simp only [Act.put, List.setIfInBounds_toArray, List.set_cons_zero, List.set_cons_succ])
          refine plan_sole (sole_take rfl (by rfl) (fun K1 hK1 => ?_))
          unfold Oper.wp
          go_simp
          refine hK1 _ _ (KeepL.set _ _ (by omega) _ _) ?_
          clear hK1 K1
          refine plan_end ?_
          have X7 : Hid (PBlk (wr.setCell ⟨w.heap.size, 1 + i, none⟩ (.int .u8 y)).drew w.heap.size v (cutTo A c (i + 1)) (c : Int)) := Lib.hid (show PBlk (wr.setCell ⟨w.heap.size, 1 + i, none⟩ (.int .u8 y)) w.heap.size v (cutTo A c (i + 1)) (c : Int) from by rw [← NX.out]; exact ST.out wr X5.out y)
          have Z7 : Hid (Blk (wr.setCell ⟨w.heap.size, 1 + i, none⟩ (.int .u8 y)).drew gz 24 ZP) := Lib.hid (show Blk (wr.setCell ⟨w.heap.size, 1 + i, none⟩ (.int .u8 y)) gz 24 ZP from Blk.far Z5.out (by have := HGZ.out; omega) (1 + i) _)
          have B7 : Hid (Below w.heap.size w (wr.setCell ⟨w.heap.size, 1 + i, none⟩ (.int .u8 y)).drew) := Lib.hid (Below.step (Below.setCell B5.out (p := ⟨w.heap.size, 1 + i, none⟩) (Nat.le_refl _) _) (drewN_below _ 1))
          clear X5 Z5 B5 ST cz cl fz cz' cl' fz' NX
          generalize (wr.setCell ⟨w.heap.size, 1 + i, none⟩ (.int .u8 y)).drew = w7 at *
          go_wp2_with fail
          go_roundw
          case rel => exact ⟨i + 1, by go_num, by omega, X7.out, Z7.out, B7.out⟩
          case measure => simp only [intOf]; omega
        · refine sole_take rfl (by rfl) (fun K1 hK1 => ?_)
          go_simp
          refine (CC.out _).mono ?_
          rintro r w3 ⟨rfl, rfl⟩
          refine hK1 _ _ rfl ?_
          clear hK1 K1
          repeat (refine plan_take _ rfl (by rfl) (fun W hW => by go_simp; first | done | rfl) ?_; simp only [Act.put, List.setIfInBounds_toArray, List.set_cons_zero, List.set_cons_succ])
          refine plan_sole (sole_take rfl (by rfl) (fun K1 hK1 => ?_))
          go_simp
          refine hK1 _ _ rfl ?_
          clear hK1 K1
          repeat (refine plan_take _ rfl (by rfl) (fun W hW => by go_simp; first | done | rfl) ?_; simp only [Act.put, List.setIfInBounds_toArray, List.set_cons_zero, List.set_cons_succ])
          refine plan_sole (sole_take rfl (by rfl) (fun K1 hK1 => ?_))
          unfold Oper.wp
          go_simp
          refine hK1 _ _ (KeepL.set _ _ (by omega) _ _) ?_
          clear hK1 K1
          refine plan_end ?_
          have X7 : Hid (PBlk (wr.setCell ⟨w.heap.size, 1 + i, none⟩ (.int .u8 y)).drew w.heap.size v (cutTo A c (i + 1)) (c : Int)) := Lib.hid (show PBlk (wr.setCell ⟨w.heap.size, 1 + i, none⟩ (.int .u8 y)) w.heap.size v (cutTo A c (i + 1)) (c : Int) from by rw [← NX.out]; exact ST.out wr X5.out y)
          have Z7 : Hid (Blk (wr.setCell ⟨w.heap.size, 1 + i, none⟩ (.int .u8 y)).drew gz 24 ZP) := Lib.hid (show Blk (wr.setCell ⟨w.heap.size, 1 + i, none⟩ (.int .u8 y)) gz 24 ZP from Blk.far Z5.out (by have := HGZ.out; omega) (1 + i) _)
          have B7 : Hid (Below w.heap.size w (wr.setCell ⟨w.heap.size, 1 + i, none⟩ (.int .u8 y)).drew) := Lib.hid (Below.step (Below.setCell B5.out (p := ⟨w.heap.size, 1 + i, none⟩) (Nat.le_refl _) _) (drewN_below _ 1))
          clear X5 Z5 B5 ST cz cl fz cz' cl' fz' NX
          generalize (wr.setCell ⟨w.heap.size, 1 + i, none⟩ (.int .u8 y)).drew = w7 at *
          go_wp2_with fail
          go_roundw
          case rel => exact ⟨i + 1, by go_num, by omega, X7.out, Z7.out, B7.out⟩
          case measure => simp only [intOf]; omega
      · have t0 : decide ((i : Int) < 16) = false := decide_eq_false (by omega)
        obtain rfl : i = 16 := by omega
        have FA : Hid (cutTo A c 16 = cutA v A L) := Lib.hid (cutTo_end HA.out CL.out)
        have a16 := cutTo_len A c 16
        generalize cutTo A c 16 = A1 at *
        have ZS := Lib.hid (Tryd.sizeP (v := v) (L := (c : Int)) a16)
        have ZE : Hid (ZP.size = (pcells v A1 (c : Int)).size) := Lib.hid (by rw [pcells_size a16]; rfl)
        have P1 := Lib.hid (pcells_one v A1 (c : Int))
        go_wp2_with (first
          | (refine wpList_load_row rfl 24 (.tmp 1) rfl w.heap.size rfl 24 (pcells v A1 (c : Int)) (0, 0) _ X5.out Tryd.underlying24 rfl ZS.out ?_)
          | (refine wpList_store_rowTo rfl 24 (.tmp 2) (.tmp 31) rfl rfl gz (pcells v A1 (c : Int)) rfl rfl 24 ZP Z5.out ZS.out ZE.out P1.out ?_))
        exact bodyPost_ret (results_cell_row rfl _ _ gz 24 (pcells v A1 (c : Int)) (0, 0) _ rfl (setRow_heap _ _ _ _ 24 _ Z5.out) Tryd.underlying24 rfl ZS.out) rfl ⟨by rw [CL.out, ← FA.out], below_setRow B5.out (by have := HGZ.out; omega) _⟩
  · refine sole_take rfl (by rfl) (fun K1 hK1 => ?_)
    go_simp
    refine (CM.out _).mono ?_
    rintro r w3 ⟨rfl, hb3⟩
    refine hK1 _ _ (KeepC.later hb3 hw2) ?_
    clear hK1 K1
    replace hb3 := Below.step (drewN_below w2 1) hb3
    have X3 := Lib.hid (PBlk.below BX.out hb3 hw2)
    have Z3 := Lib.hid (Blk.below BZ.out hb3 BZ.out.lt)
    have B3 := Lib.hid (Below.step BW.out hb3)
    have cl3 := X3.out.l hA16
    have f17 : w3.frozen? ⟨w.heap.size, 17, none⟩ = false := Blk.free X3.out 17
    clear hb3
    repeat (refine plan_take _ rfl (by rfl) (fun W hW => by go_simp; first | done | rfl) ?_; simp only [Act.put, List.setIfInBounds_toArray, List.set_cons_zero, List.set_cons_succ])
    refine plan_sole (sole_take rfl (by rfl) (fun K1 hK1 => ?_))
    go_simp
    refine hK1 _ _ (KeepC.refl _ _ _) ?_
    clear hK1 K1
    refine plan_sole (sole_take rfl (by rfl) (fun K1 hK1 => ?_))
    go_simp
    refine (CC.out _).mono ?_
    rintro r w5 ⟨rfl, rfl⟩
    refine hK1 _ _ (KeepC.refl _ _ _) ?_
    clear hK1 K1
    repeat (refine plan_take _ rfl (by rfl) (fun W hW => by go_simp; first | done | rfl) ?_; simp only [Act.put, List.setIfInBounds_toArray, List.set_cons_zero, List.set_cons_succ])
    refine plan_sole (sole_take rfl (by rfl) (fun K1 hK1 => ?_))
    unfold Oper.wp
    go_simp
    refine hK1 _ _ (KeepC.set _ _ _ _ _ (Nat.le_refl _)) ?_
    clear hK1 K1
    refine plan_end ?_
    have X4 : Hid (PBlk (w5.setCell ⟨w.heap.size, 17, none⟩ (.int .i64 (c : Int))) w.heap.size v A (c : Int)) := Lib.hid (show PBlk (w5.setCell ⟨w.heap.size, 17, none⟩ (.int .i64 (c : Int))) w.heap.size v A (c : Int) from PBlk.setL X3.out hA16 (c : Int))
    have Z4 : Hid (Blk (w5.setCell ⟨w.heap.size, 17, none⟩ (.int .i64 (c : Int))) gz 24 ZP) := Lib.hid (show Blk (w5.setCell ⟨w.heap.size, 17, none⟩ (.int .i64 (c : Int))) gz 24 ZP from Blk.far Z3.out (by have := HGZ.out; omega) 17 _)
    have B4 : Hid (Below w.heap.size w (w5.setCell ⟨w.heap.size, 17, none⟩ (.int .i64 (c : Int)))) := Lib.hid (Below.setCell B3.out (p := ⟨w.heap.size, 17, none⟩) (Nat.le_refl _) _)
    clear BX BZ BW X3 Z3 B3 cv cl m4 cl' cl3 f17 CM CC FN FN2 FG mw hw2
    generalize (w5.setCell ⟨w.heap.size, 17, none⟩ (.int .i64 (c : Int))) = w4 at *
    go_wp2_with fail
    go_loopw [13] (fun iV wr => ∃ (i : Nat), iV = .int .i64 (i : Int) ∧ i ≤ 16 ∧ PBlk wr w.heap.size v (cutTo A c i) (c : Int) ∧ Blk wr gz 24 ZP ∧ Below w.heap.size w wr) (fun iV _ => (200 - intOf iV).toNat)
    case atStart => exact ⟨0, rfl, by omega, by rw [cutTo_start hA16]; exact X4.out, Z4.out, B4.out⟩
    case round =>
      obtain ⟨i, rfl, hi, hx, hz, hb⟩ := hrel
      have X5 := Lib.hid hx
      have Z5 := Lib.hid hz
      have B5 := Lib.hid hb
      have A5 := Lib.hid (cutTo_ok HA.out c i)
      clear hx hz hb
      by_cases hlt : i < 16
      · have t0 : decide ((i : Int) < 16) = true := decide_eq_true (by omega)
        obtain ⟨kp, hk⟩ : ∃ kp, keepK c i = kp := ⟨_, rfl⟩
        have hk8 : kp ≤ 8 := by rw [← hk]; exact keepK_le c i
        have zr := sixteen_at0 A5.out i hlt
        have ea : (cutTo A c i)[i]?.getD 0 = A[i]?.getD 0 := by rw [cutTo_at A c i hlt, if_neg (by omega)]
        have NX := Lib.hid (cutTo_next A c hlt)
        rw [hk, ← ea] at NX
        have CK : Hid (min (max ((c : Int) - 8 * (i : Int)) 0) 8 = (kp : Int)) := Lib.hid (by
          rw [← hk]
          unfold keepK
          omega)
        have CC := Lib.hid (fun W => clamped_any ((c : Int) - 8 * (i : Int)) 8 W (by omega) (by omega) (by omega) (by omega))
        have cz := (Blk.cell X5.out (1 + i)).trans (pcells_a A5.out.1 i hlt)
        have cl := X5.out.l A5.out.1
        have fz := Blk.free X5.out (1 + i)
        have ST := Lib.hid (fun (W : World) (h : PBlk W w.heap.size v (cutTo A c i) (c : Int)) (x : Int) => PBlk.setA h A5.out.1 i hlt x)
        generalize (cutTo A c i)[i]?.getD 0 = z at *
        have KB := keepB_range zr.1 zr.2 hk8
        have AN := and_keep zr.1 zr.2 hk8
        have AN2 := shr_keep hk8
        rw [CK.out] at CC
        have CK0 : (0 : Int) ≤ (kp : Int) := by omega
        have m1 : IntKind.i64.wrap (8 * (i : Int)) = 8 * (i : Int) := IntWalk.i64_in _ (by omega)
        have m2 : IntKind.i64.wrap ((c : Int) - 8 * (i : Int)) = (c : Int) - 8 * (i : Int) := IntWalk.i64_in _ (by omega)
        have iI : (i : Int) < 16 := by omega
        have i0 : (0 : Int) ≤ (i : Int) := by omega
        clear hk ea CK
        generalize keepB z kp = y at *
        go_wp2_with fail
        have cz' : wr.drew.cell? ⟨w.heap.size, 1 + i, none⟩ = some (.int .u8 z) := cz
        have cl' : ∀ W, KeepL w.heap.size wr.drew W → W.cell? ⟨w.heap.size, 17, none⟩ = some (.int .i64 (c : Int)) := fun W hW => hW.trans cl
        have fz' : wr.drew.frozen? ⟨w.heap.size, 1 + i, none⟩ = false := fz
        refine wp_region_plan (KeepL w.heap.size) (fun _ => rfl) (fun _ _ _ h k => k.trans h) (.take 0 (.take 1 (.take 2 (.take 4 (.take 5 (.take 6 (.take 7 (.take 8 (.take 12 (.fork 3 (.sole 9 (.take 10 (.take 11 (.take 13 (.sole 14 .fin))))) 9 (.take 10 (.sole 3 (.take 11 (.take 13 (.sole 14 .fin))))))))))))))) (by kernel_rfl) (by kernel_rfl) rfl (by kernel_rfl) (fun _ _ _ _ _ h => h) ?_
        repeat (refine plan_take _ rfl (by rfl) (fun W hW => by go_simp; first | done | rfl) ?_; simp only [Act.put, List.setIfInBounds_toArray, List.set_cons_zero, List.set_cons_succ])
        refine plan_fork ?_ ?_
        · refine sole_take rfl (by rfl) (fun K1 hK1 => ?_)
          go_simp
          refine hK1 _ _ rfl ?_
          clear hK1 K1
          refine plan_sole (sole_take rfl (by rfl) (fun K1 hK1 => ?_))
          go_simp
          refine (CC.out _).mono ?_
          rintro r w3 ⟨rfl, rfl⟩
          refine hK1 _ _ rfl ?_
          clear hK1 K1
          repeat (refine plan_take _ rfl (by rfl) (fun W hW => by go_simp; first | done | rfl) ?_; simp only [Act.put, List.setIfInBounds_toArray, List.set_cons_zero, List.set_cons_succ])
          refine plan_sole (sole_take rfl (by rfl) (fun K1 hK1 => ?_))
          unfold Oper.wp
          go_simp
          refine hK1 _ _ (KeepL.set _ _ (by omega) _ _) ?_
          clear hK1 K1
          refine plan_end ?_
          have X7 : Hid (PBlk (wr.setCell ⟨w.heap.size, 1 + i, none⟩ (.int .u8 y)).drew w.heap.size v (cutTo A c (i + 1)) (c : Int)) := Lib.hid (show PBlk (wr.setCell ⟨w.heap.size, 1 + i, none⟩ (.int .u8 y)) w.heap.size v (cutTo A c (i + 1)) (c : Int) from by rw [← NX.out]; exact ST.out wr X5.out y)
          have Z7 : Hid (Blk (wr.setCell ⟨w.heap.size, 1 + i, none⟩ (.int .u8 y)).drew gz 24 ZP) := Lib.hid (show Blk (wr.setCell ⟨w.heap.size, 1 + i, none⟩ (.int .u8 y)) gz 24 ZP from Blk.far Z5.out (by have := HGZ.out; omega) (1 + i) _)
          have B7 : Hid (Below w.heap.size w (wr.setCell ⟨w.heap.size, 1 + i, none⟩ (.int .u8 y)).drew) := Lib.hid (Below.step (Below.setCell B5.out (p := ⟨w.heap.size, 1 + i, none⟩) (Nat.le_refl _) _) (drewN_below _ 1))
          clear X5 Z5 B5 ST cz cl fz cz' cl' fz' NX
          generalize (wr.setCell ⟨w.heap.size, 1 + i, none⟩ (.int .u8 y)).drew = w7 at *
          go_wp2_with fail
          go_roundw
          case rel => exact ⟨i + 1, by go_num, by omega, X7.out, Z7.out, B7.out⟩
          case measure => simp only [intOf]; omega
        · refine sole_take rfl (by rfl) (fun K1 hK1 => ?_)
          go_simp
          refine (CC.out _).mono ?_
          rintro r w3 ⟨rfl, rfl⟩
          refine hK1 _ _ rfl ?_
          clear hK1 K1
          repeat (refine plan_take _ rfl (by rfl) (fun W hW => by go_simp; first | done | rfl) ?_; simp only [Act.put, List.setIfInBounds_toArray, List.set_cons_zero, List.set_cons_succ])
          refine plan_sole (sole_take rfl (by rfl) (fun K1 hK1 => ?_))
          go_simp
          refine hK1 _ _ rfl ?_
          clear hK1 K1
          repeat (refine plan_take _ rfl (by rfl) (fun W hW => by go_simp; first | done | rfl) ?_; simp only [Act.put, List.setIfInBounds_toArray, List.set_cons_zero, List.set_cons_succ])
          refine plan_sole (sole_take rfl (by rfl) (fun K1 hK1 => ?_))
          unfold Oper.wp
          go_simp
          refine hK1 _ _ (KeepL.set _ _ (by omega) _ _) ?_
          clear hK1 K1
          refine plan_end ?_
          have X7 : Hid (PBlk (wr.setCell ⟨w.heap.size, 1 + i, none⟩ (.int .u8 y)).drew w.heap.size v (cutTo A c (i + 1)) (c : Int)) := Lib.hid (show PBlk (wr.setCell ⟨w.heap.size, 1 + i, none⟩ (.int .u8 y)) w.heap.size v (cutTo A c (i + 1)) (c : Int) from by rw [← NX.out]; exact ST.out wr X5.out y)
          have Z7 : Hid (Blk (wr.setCell ⟨w.heap.size, 1 + i, none⟩ (.int .u8 y)).drew gz 24 ZP) := Lib.hid (show Blk (wr.setCell ⟨w.heap.size, 1 + i, none⟩ (.int .u8 y)) gz 24 ZP from Blk.far Z5.out (by have := HGZ.out; omega) (1 + i) _)
          have B7 : Hid (Below w.heap.size w (wr.setCell ⟨w.heap.size, 1 + i, none⟩ (.int .u8 y)).drew) := Lib.hid (Below.step (Below.setCell B5.out (p := ⟨w.heap.size, 1 + i, none⟩) (Nat.le_refl _) _) (drewN_below _ 1))
          clear X5 Z5 B5 ST cz cl fz cz' cl' fz' NX
          generalize (wr.setCell ⟨w.heap.size, 1 + i, none⟩ (.int .u8 y)).drew = w7 at *
          go_wp2_with fail
          go_roundw
          case rel => exact ⟨i + 1, by go_num, by omega, X7.out, Z7.out, B7.out⟩
          case measure => simp only [intOf]; omega
      · have t0 : decide ((i : Int) < 16) = false := decide_eq_false (by omega)
        obtain rfl : i = 16 := by omega
        have FA : Hid (cutTo A c 16 = cutA v A L) := Lib.hid (cutTo_end HA.out CL.out)
        have a16 := cutTo_len A c 16
        generalize cutTo A c 16 = A1 at *
        have ZS := Lib.hid (Tryd.sizeP (v := v) (L := (c : Int)) a16)
        have ZE : Hid (ZP.size = (pcells v A1 (c : Int)).size) := Lib.hid (by rw [pcells_size a16]; rfl)
        have P1 := Lib.hid (pcells_one v A1 (c : Int))
        go_wp2_with (first
          | (refine wpList_load_row rfl 24 (.tmp 1) rfl w.heap.size rfl 24 (pcells v A1 (c : Int)) (0, 0) _ X5.out Tryd.underlying24 rfl ZS.out ?_)
          | (refine wpList_store_rowTo rfl 24 (.tmp 2) (.tmp 31) rfl rfl gz (pcells v A1 (c : Int)) rfl rfl 24 ZP Z5.out ZS.out ZE.out P1.out ?_))
        exact bodyPost_ret (results_cell_row rfl _ _ gz 24 (pcells v A1 (c : Int)) (0, 0) _ rfl (setRow_heap _ _ _ _ 24 _ Z5.out) Tryd.underlying24 rfl ZS.out) rfl ⟨by rw [CL.out, ← FA.out], below_setRow B5.out (by have := HGZ.out; omega) _⟩

end Go.Proofs.YtpekpgmdjpcpiaaDoor

namespace Go.Proofs.YtpekpgmdjpcpiaaDoor
open Go.RowKit
set_option linter.unusedVariables false

theorem Tryd.infoB8 : (Tryd.prog.info? 5).isSome = true := by kernel_rfl
theorem Tryd.cellsB8 : Tryd.prog.cellsOf 5 = 1 := by kernel_rfl
theorem part8 (xs : Array Value) (j : Nat) (v : Int) (h : xs[j]? = some (.int .u8 v)) (w : World) : (part 5 xs j).run Tryd.prog w = .ok (.int .u8 v) w := by
  simp [part, h, go_sem]
theorem part_v (v : Bool) (A : List Int) (L : Int) (w : World) : (part 4 (pcells v A L) 0).run Tryd.prog w = .ok (.bool v) w := by
  simp [part, pcells_v, go_sem]
theorem part_l {A : List Int} (v : Bool) (L : Int) (hA : A.length = 16) (w : World) : (part 3 (pcells v A L) 17).run Tryd.prog w = .ok (.int .i64 L) w := by
  simp [part, pcells_l hA, go_sem]
theorem part_a {A : List Int} (v : Bool) (L : Int) (hA : A.length = 16) (w : World) : (part 22 (pcells v A L) 1).run Tryd.prog w = .ok (.agg (acells A).toArray) w := by
  have hx : (pcells v A L).extract 1 17 = (acells A).toArray := by
    apply Array.ext'
    unfold pcells
    rw [Array.toList_extract]
    simp [List.extract_eq_take_drop, acells_len hA]
  obtain ⟨i0, hi⟩ := Option.isSome_iff_exists.1 (show (Tryd.prog.info? 22).isSome = true by kernel_rfl)
  have hc : Tryd.prog.cellsOf 22 = 16 := by kernel_rfl
  have ha : (isAgg 22).run Tryd.prog w = .ok true w := by simp [isAgg, run_underlying Tryd.underlying22]
  unfold part
  simp only [Sem.run_bind, ha, Result.andThen_ok, if_true, run_sizeOf w hi, hc, hx, Sem.run_pure]
theorem items16 (xs ys : List Int) (hx : xs.length = 16) (hy : ys.length = 16) (w : World) : ∀ js : List Nat, (∀ j ∈ js, j < 16) → (Op.eqItems 9998 5 1 (acells xs).toArray (acells ys).toArray js).run Tryd.prog w = .ok (js.all fun j => xs[j]?.getD 0 == ys[j]?.getD 0) w := by
  intro js
  induction js with
  | nil => intro _; simp [Op.eqItems]
  | cons j js ih =>
    intro h
    have hj : (acells xs).toArray[j]? = _ := List.getElem?_toArray.trans (acells_at hx j (h j (by simp)))
    have hk : (acells ys).toArray[j]? = _ := List.getElem?_toArray.trans (acells_at hy j (h j (by simp)))
    have q : ∀ (a b : Int) (w : World), (Op.equalIn 9998 5 (.int .u8 a) (.int .u8 b)).run Tryd.prog w = .ok (a == b) w := fun a b w => run_equalIn_int w 9997 5 .u8 .u8 a b Tryd.underlying5
    simp only [Op.eqItems, Sem.run_bind, Nat.mul_one, part8 _ j _ hj, part8 _ j _ hk, q, Result.andThen_ok]
    have e := ih (fun i hi => h i (by simp [hi]))
    cases hb : (xs[j]?.getD 0 == ys[j]?.getD 0) with
    | true => simpa [hb] using e
    | false => simp [hb]
theorem two_addr (xs ys : List Int) (hx : xs.length = 16) (hy : ys.length = 16) (w : World) : (Op.equalIn 9999 22 (.agg (acells xs).toArray) (.agg (acells ys).toArray)).run Tryd.prog w = .ok (decide (xs = ys)) w := by
  have hd : ((List.range 16).all fun j => xs[j]?.getD 0 == ys[j]?.getD 0) = decide (xs = ys) := by
    rw [Bool.eq_iff_iff, decide_eq_true_iff, List.all_eq_true]
    constructor
    · intro h
      apply List.ext_getElem?
      intro j
      rcases Nat.lt_or_ge j 16 with hj | hj
      · have := h j (List.mem_range.2 hj)
        rw [List.getElem?_eq_getElem (by omega), List.getElem?_eq_getElem (by omega)] at this ⊢
        simpa using this
      · rw [List.getElem?_eq_none (by omega), List.getElem?_eq_none (by omega)]
    · rintro rfl j _
      simp
  obtain ⟨i0, hi⟩ := Option.isSome_iff_exists.1 Tryd.infoB8
  rw [run_equalIn_array w 9998 _ _ Tryd.underlying22 hi, Tryd.cellsB8, ← hd]
  exact items16 xs ys hx hy w _ (fun j hj => List.mem_range.1 hj)
/-- Prefixes compared. -/
theorem two_prefix (v u : Bool) (A B : List Int) (L M : Int) (hA : A.length = 16) (hB : B.length = 16) (w : World) : (Op.equalIn 10000 24 (.agg (pcells v A L)) (.agg (pcells u B M))).run Tryd.prog w = .ok (decide (v = u ∧ A = B ∧ L = M)) w := by
  rw [run_equalIn_struct w 9999 24 _ _ (by simp only [Program.fieldsOf, Tryd.underlying24]) (by kernel_rfl)]
  simp only [Program.fieldsOf, Tryd.underlying24, Op.eqFields]
  have q0 := run_equalIn_bool' w 9998 4 v u Tryd.underlying4
  have q1 := two_addr A B hA hB w
  have q2 := run_equalIn_int w 9998 3 .i64 .i64 L M Tryd.underlying3
  simp only [ne_eq, Sem.run_bind, part_v, part_a _ _ hA, part_a _ _ hB, part_l _ _ hA, part_l _ _ hB, q0, q1, q2, Result.andThen_ok, Sem.run_ite, Sem.run_pure]
  by_cases e0 : v = u
  · by_cases e1 : A = B
    · by_cases e2 : L = M <;> simp [e0, e1, e2]
    · simp [e0, e1]
  · have : (v == u) = false := by simpa using e0
    simp [e0, this]

end Go.Proofs.YtpekpgmdjpcpiaaDoor

namespace Go.Proofs.YtpekpgmdjpcpiaaDoor
open Go.RowKit
set_option linter.unusedVariables false

/-- A load of a whole block yields it in every world in which the block is that. -/
theorem yields_row {P : Program} {o : Oper} {a : Act} {W : World} (ty : TypeId) (x : Operand) (ho : o.op = .load ty x) (g : Nat) (t : TypeId) (cs : Array Value) (d : TypeDesc) (hx : a.eval x = .pointer (some ⟨g, 0, none⟩)) (hg : Blk W g t cs)
    (hu : P.underlying ty = some d) (hd : (match d with | .struct _ | .array _ _ => true | _ => false) = true) (hi : (P.info? ty).map (·.size) = some cs.size) : (execOp a.eval o).run P W = .ok (.value (.agg cs)) W := by
  unfold execOp
  simp only [ho, hx, Instr.loadAt, Instr.sureAddr, Sem.run_bind, Sem.run_pure, Result.andThen_ok, run_loadVar_row W g t ty cs (0, 0) d hg hu hd hi]
theorem right_cut {v : Bool} {A : List Int} {L : Int} (hA : Sixteen A) : decide (v = v ∧ A = cutA v A L ∧ L = cutL v L) = rightA v A L := by
  rw [Bool.eq_iff_iff, decide_eq_true_iff]
  constructor
  · rintro ⟨_, e1, e2⟩
    have := cut_right v hA L
    rwa [← e1, ← e2] at this
  · intro h
    obtain ⟨e1, e2⟩ := cut_same hA h
    exact ⟨rfl, e2.symm, e1.symm⟩
theorem covers_cut {v u : Bool} {A B : List Int} {L M : Int} (hA : Sixteen A) (hB : Sixteen B) (hr : rightA u B M = true) (hl : L ≤ M) : decide (v = u ∧ A = cutA u B L ∧ L = cutL u L) = coversA v A L u B M := by
  rw [Bool.eq_iff_iff, decide_eq_true_iff, covers_is]
  obtain ⟨b0, b1, _⟩ := (right_is ..).1 hr
  constructor
  · rintro ⟨rfl, e1, e2⟩
    have h := cut_right v hB L
    rw [← e1, ← e2] at h
    refine ⟨h, hr, rfl, hl, ?_⟩
    rw [e1, cutA_aN v hB, ← e2, Nat.mul_div_cancel _ (Nat.pow_pos (by decide))]
  · rintro ⟨h, _, rfl, _, h5⟩
    obtain ⟨a0, a1, a2⟩ := (right_is ..).1 h
    have e2 : cutL v L = L := by unfold cutL; omega
    refine ⟨rfl, ?_, e2.symm⟩
    refine aN_inj hA.2 (cutA_ok v B L).2 (by rw [hA.1, (cutA_ok v B L).1]) ?_
    rw [cutA_aN v hB, e2, ← h5]
    have := Nat.div_add_mod (aN A) (2 ^ (128 - L.toNat))
    rw [a2, Nat.add_zero, Nat.mul_comm] at this
    exact this.symm

set_option maxHeartbeats 1000000 in
set_option maxRecDepth 10000 in
theorem right_any (v : Bool) (A : List Int) (L : Int) (w : World) (hA : Sixteen A) (l0 : -9223372036854775808 ≤ L) (l1 : L ≤ 9223372036854775807) :
    Calls Tryd.prog 14 #[.agg (pcells v A L)] w fun e w' => e = .returned (.bool (rightA v A L)) ∧ Below w.heap.size w w' := by
  have BX := Lib.hid (pbox w v A L)
  have BW := Lib.hid (box_below w (.cells (pcells v A L) 24))
  have RC := Lib.hid (right_cut (v := v) (L := L) hA)
  have Z1 := Lib.hid (Tryd.sizeP (v := v) (L := L) hA.1)
  have CC := Lib.hid (fun W => cut_any v A L W hA l0 l1)
  have EQ := fun W => two_prefix v v A (cutA v A L) L (cutL v L) hA.1 (cutA_ok v A L).1 W
  rw [RC.out] at EQ
  clear hA RC
  go_enter Tryd.func14, Tryd.ntmps14
  generalize hpd : pcells v (cutA v A L) (cutL v L) = pd at *
  unfold PBlk at BX
  generalize hpc : pcells v A L = pc at *
  generalize hw2 : w.alloc (.cells pc 24) = w2 at *
  go_wp2_with fail
  clear hw2
  have lat : ∀ W, Ext w2.drew W → Blk W w.heap.size 24 pc := fun W hW => Blk.below (show Blk w2.drew _ _ _ from BX.out) hW BX.out.lt
  refine wp_region_ord Ext Ext.refl (fun _ _ _ => Ext.trans) ((0, false) :: (1, false) :: (2, true) :: (3, false) :: (4, false) :: []) (by kernel_rfl) (by kernel_rfl) rfl (by kernel_rfl) (fun _ _ _ _ _ h => h) ?_
  refine ord_take (.agg pc) rfl (by rfl) (fun W hW => yields_row 24 (.tmp 1) rfl w.heap.size 24 pc _ rfl (lat W hW) Tryd.underlying24 rfl Z1.out) ?_
  simp only [Act.put, List.setIfInBounds_toArray, List.set_cons_zero, List.set_cons_succ]
  refine ord_take (.agg pc) rfl (by rfl) (fun W hW => yields_row 24 (.tmp 1) rfl w.heap.size 24 pc _ rfl (lat W hW) Tryd.underlying24 rfl Z1.out) ?_
  simp only [Act.put, List.setIfInBounds_toArray, List.set_cons_zero, List.set_cons_succ]
  refine ord_sole rfl (by rfl) (fun K1 hK1 => ?_)
  go_simp
  refine (CC.out _).mono ?_
  rintro r w3 ⟨rfl, hb3⟩
  refine hK1 _ _ hb3 ?_
  have B3 := Lib.hid (Below.step (Below.step BW.out (drewN_below w2 1)) hb3)
  clear hK1 K1 lat
  repeat (refine ord_take _ rfl (by rfl) (fun W hW => by go_simp; first | done | rfl) ?_; simp only [Act.put, List.setIfInBounds_toArray, List.set_cons_zero, List.set_cons_succ])
  refine ord_end ?_
  go_wp2_with fail
  go_ret
  exact ⟨rfl, B3.out⟩

set_option maxHeartbeats 1000000 in
set_option maxRecDepth 10000 in
theorem covers_any (v : Bool) (A : List Int) (L : Int) (u : Bool) (B : List Int) (M : Int) (w : World) (hA : Sixteen A) (l0 : -9223372036854775808 ≤ L) (l1 : L ≤ 9223372036854775807) (hB : Sixteen B) (m0 : -9223372036854775808 ≤ M) (m1 : M ≤ 9223372036854775807) :
    Calls Tryd.prog 16 #[.agg (pcells v A L), .agg (pcells u B M)] w fun e w' => e = .returned (.bool (coversA v A L u B M)) ∧ Below w.heap.size w w' := by
  obtain ⟨bx, by', bw⟩ := two_boxes w v A L u B M
  have BX := Lib.hid bx
  have BY := Lib.hid by'
  have BW := Lib.hid bw
  have hA16 := hA.1
  have hB16 := hB.1
  have CI := Lib.hid (covers_is v A L u B M)
  have CR := Lib.hid (fun W => right_any u B M W hB m0 m1)
  have CV := Lib.hid (fun (h : rightA u B M = true) (hl : L ≤ M) => covers_cut (v := v) hA hB h hl)
  have NO : Hid (∀ P : Prop, (coversA v A L u B M = true → P) → ¬ P → coversA v A L u B M = false) := Lib.hid (fun P h hn => by
    cases hc : coversA v A L u B M
    · rfl
    · exact absurd (h hc) hn)
  have CC := Lib.hid (fun W => cut_any u B L W hB l0 l1)
  have EQ := fun W => two_prefix v u A (cutA u B L) L (cutL u L) hA16 (cutA_ok u B L).1 W
  have SL := Lib.hid (fun (W : World) (h : PBlk W (w.heap.size + 1) u B M) => PBlk.setL h hB16 L)
  clear bx by' bw hA hB
  have Z1 := Lib.hid (Tryd.sizeP (v := v) (L := L) hA16)
  have Z2 := Lib.hid (Tryd.sizeP (v := u) (L := M) hB16)
  have Z3 := Lib.hid (Tryd.sizeP (v := u) (L := L) hB16)
  go_enter Tryd.func16, Tryd.ntmps16
  generalize hw2 : (w.alloc (.cells (pcells v A L) 24)).alloc (.cells (pcells u B M) 24) = w2 at *
  go_wp2_with (refine wpList_load_row rfl 24 (.tmp 3) rfl (w.heap.size + 1) rfl 24 (pcells u B M) (0, 0) _ BY.out Tryd.underlying24 rfl Z2.out ?_)
  refine (CR.out w2).mono ?_
  rintro r w3 ⟨rfl, hb3⟩
  have B3 := Lib.hid (Below.step BW.out hb3)
  have X3 := Lib.hid (BX.out.below hb3 BX.out.lt)
  have Y3 := Lib.hid (BY.out.below hb3 BY.out.lt)
  clear hb3 CR BW BX BY hw2
  by_cases h2 : rightA u B M = true
  · by_cases h4 : M < L
    · have t4 : decide (M < L) = true := decide_eq_true h4
      have F := Lib.hid (NO.out (L ≤ M) (fun h => (CI.out.1 h).2.2.2.1) (by omega))
      have cl := X3.out.l hA16
      have dl := Y3.out.l hB16
      rw [h2]
      go_wp2_with fail
      go_ret
      exact ⟨by rw [F.out]; rfl, B3.out⟩
    · have t4 : decide (M < L) = false := decide_eq_false h4
      have RC := Lib.hid (CV.out h2 (by omega))
      rw [RC.out] at EQ
      have cl := X3.out.l hA16
      have dl := Y3.out.l hB16
      have fl := Blk.free Y3.out 17
      rw [h2]
      clear CI NO CV RC h2
      go_wp2_with fail
      have X4 : Hid (Blk (w3.setCell ⟨w.heap.size + 1, 17, none⟩ (.int .i64 L)) w.heap.size 24 (pcells v A L)) := Lib.hid (Blk.far X3.out (by omega) 17 _)
      have Y4 : Hid (Blk (w3.setCell ⟨w.heap.size + 1, 17, none⟩ (.int .i64 L)) (w.heap.size + 1) 24 (pcells u B L)) := Lib.hid (SL.out w3 Y3.out)
      have B4 : Hid (Below w.heap.size w (w3.setCell ⟨w.heap.size + 1, 17, none⟩ (.int .i64 L))) := Lib.hid (Below.setCell B3.out (p := ⟨w.heap.size + 1, 17, none⟩) (Nat.le_succ _) _)
      clear X3 Y3 B3 cl dl fl SL
      generalize w3.setCell ⟨w.heap.size + 1, 17, none⟩ (.int .i64 L) = w4 at *
      generalize pcells u (cutA u B L) (cutL u L) = pd at *
      generalize pcells u B L = pb at *
      generalize pcells v A L = pc at *
      have latx : ∀ W, Ext w4.drew W → Blk W w.heap.size 24 pc := fun W hW => Blk.below (show Blk w4.drew _ _ _ from X4.out) hW X4.out.lt
      have laty : ∀ W, Ext w4.drew W → Blk W (w.heap.size + 1) 24 pb := fun W hW => Blk.below (show Blk w4.drew _ _ _ from Y4.out) hW Y4.out.lt
      refine wp_region_ord Ext Ext.refl (fun _ _ _ => Ext.trans) ((0, false) :: (1, false) :: (2, true) :: (3, false) :: (4, false) :: []) (by kernel_rfl) (by kernel_rfl) rfl (by kernel_rfl) (fun _ _ _ _ _ h => h) ?_
      refine ord_take (.agg pc) rfl (by rfl) (fun W hW => yields_row 24 (.tmp 2) rfl w.heap.size 24 pc _ rfl (latx W hW) Tryd.underlying24 rfl Z1.out) ?_
      simp only [Act.put, List.setIfInBounds_toArray, List.set_cons_zero, List.set_cons_succ]
      refine ord_take (.agg pb) rfl (by rfl) (fun W hW => yields_row 24 (.tmp 3) rfl (w.heap.size + 1) 24 pb _ rfl (laty W hW) Tryd.underlying24 rfl Z3.out) ?_
      simp only [Act.put, List.setIfInBounds_toArray, List.set_cons_zero, List.set_cons_succ]
      clear latx laty
      refine ord_sole rfl (by rfl) (fun K1 hK1 => ?_)
      go_simp
      refine (CC.out _).mono ?_
      rintro r w5 ⟨rfl, hb5⟩
      refine hK1 _ _ hb5 ?_
      have B5 := Lib.hid (Below.step (Below.step B4.out (drewN_below w4 1)) hb5)
      clear hK1 K1
      repeat (refine ord_take _ rfl (by rfl) (fun W hW => by go_simp; first | done | rfl) ?_; simp only [Act.put, List.setIfInBounds_toArray, List.set_cons_zero, List.set_cons_succ])
      refine ord_end ?_
      go_wp2_with fail
      go_ret
      exact ⟨rfl, B5.out⟩
  · have h2' : rightA u B M = false := by simpa using h2
    have F := Lib.hid (NO.out (rightA u B M = true) (fun h => (CI.out.1 h).2.1) h2)
    rw [h2']
    go_wp2_with fail
    go_ret
    exact ⟨by rw [F.out]; rfl, B3.out⟩

end Go.Proofs.YtpekpgmdjpcpiaaDoor

namespace Go.Proofs.YtpekpgmdjpcpiaaDoor
open Go.RowKit
set_option linter.unusedVariables false

theorem lr_row (A : List Int) (z : Nat → Bool) (hz : ∀ i, i < 8 → z i = isZ A i) :
    ((lrZ z 8).2.1 - (lrZ z 8).1 < 2 → (rowZ A).2 = 0) ∧ (¬ (lrZ z 8).2.1 - (lrZ z 8).1 < 2 → rowZ A = ((lrZ z 8).1, (lrZ z 8).2.1 - (lrZ z 8).1)) := by
  have hy : ∀ i, i < 8 → z i = eightB (z 0) (z 1) (z 2) (z 3) (z 4) (z 5) (z 6) (z 7) i := by
    intro i hi
    have : i = 0 ∨ i = 1 ∨ i = 2 ∨ i = 3 ∨ i = 4 ∨ i = 5 ∨ i = 6 ∨ i = 7 := by omega
    rcases this with rfl | rfl | rfl | rfl | rfl | rfl | rfl | rfl <;> rfl
  have hb : bestZ A 8 = bestB z 8 := (bestB_is A 8).trans (bestB_same (fun i hi => (hz i hi).symm) 8 (by omega))
  obtain ⟨h1, h2⟩ := all_best (z 0) (z 1) (z 2) (z 3) (z 4) (z 5) (z 6) (z 7)
  rw [← lr_same 8 hy, ← bestB_same hy 8 (by omega)] at h1 h2
  unfold rowZ
  rw [hb]
  constructor
  · intro h
    rw [h1] at h
    rw [if_pos h]
  · intro h
    rw [h1] at h
    rw [if_neg h]
    exact h2 (by omega)
theorem zero_dig (n : Nat) : (digZ 16 n = [48]) = (n = 0) := by
  apply propext
  constructor
  · intro h
    rcases Nat.lt_or_ge n 16 with h' | h'
    · rw [dig_small h'] at h
      unfold chrZ at h
      split at h
      · simp at h
        omega
      · simp at h
        omega
    · rw [dig_step (by omega) h'] at h
      have hl := congrArg List.length h
      have := List.length_pos_iff.2 (dig_some (b := 16) (by omega) (n / 16))
      simp at hl
      exact absurd hl (dig_some (by omega) _)
  · rintro rfl
    rw [dig_small (by omega)]
    rfl
theorem zero_is {A : List Int} (hA : Sixteen A) : ∀ i, i < 8 → zeroB (SB (groupsT true A 8)) i = isZ A i := by
  intro i hi
  have e : (SB (groupsT true A 8))[i]?.getD ByteArray.empty = strOfNums (hexG A i) := by
    unfold SB groupsT
    rw [List.getElem?_map, List.getElem?_map, List.getElem?_range hi]
    rfl
  unfold zeroB isZ
  rw [e, Lib.toList_data, strOfNums_data]
  have hg := grp_range hA i
  have hb := (hexG_ok hA i).1
  rw [Bool.eq_iff_iff, beq_iff_eq, decide_eq_true_iff]
  have z := zero_dig (grpZ A i).toNat
  constructor
  · intro h
    have h2 : hexG A i = [48] := by
      have h3 : strOfNums (hexG A i) = strOfNums [48] := by
        unfold strOfNums
        rw [h]
        rfl
      have h4 := congrArg numsOf h3
      rwa [nums_str _ hb, nums_str _ (fun x hx => by simp at hx; omega)] at h4
    have h5 : (grpZ A i).toNat = 0 := by rw [← z]; exact h2
    omega
  · intro h
    have h2 : hexG A i = [48] := by
      show digZ 16 (grpZ A i).toNat = [48]
      rw [z]
      omega
    rw [h2]
    rfl
/-- An address's text. -/
def addrT (v : Bool) (A : List Int) : List Int := if v then sixZ A else fourZ A
theorem groups8 (A : List Int) (i m : Nat) (h : i + m ≤ 8) : ((groupsT true A 8).drop i).take m = grpT A i m := by
  apply List.ext_getElem?
  intro j
  unfold groupsT grpT
  rw [List.getElem?_take]
  split
  · rw [List.getElem?_drop, List.getElem?_map, List.getElem?_range (by omega), List.getElem?_map, List.getElem?_range (by assumption)]
    rfl
  · rw [List.getElem?_eq_none (by simp; omega)]

end Go.Proofs.YtpekpgmdjpcpiaaDoor

namespace Go.Proofs.YtpekpgmdjpcpiaaDoor
open Go.RowKit
set_option linter.unusedVariables false

def sepC (v : Bool) : Int := if v then 58 else 46
theorem famS_is (v : Bool) : famS v = strOfNums [sepC v] := by cases v <;> rfl
theorem joinN_len (c : Int) (B : Nat) : ∀ D : List (List Int), (∀ d ∈ D, d.length ≤ B) → (joinN c D).length ≤ D.length * (B + 1)
  | [], _ => by simp [joinN]
  | d :: r, h => by
    have h1 : ∀ r : List (List Int), (∀ d ∈ r, d.length ≤ B) → ((r.map (c :: ·)).flatten).length ≤ r.length * (B + 1) := by
      intro r
      induction r with
      | nil => intro _; simp
      | cons e r ih =>
        intro h
        have := ih (fun d hd => h d (by simp [hd]))
        have := h e (by simp)
        simp only [List.map_cons, List.flatten_cons, List.length_append, List.length_cons, Nat.add_mul, Nat.one_mul]
        omega
    have := h1 r (fun e he => h e (by simp [he]))
    have := h d (by simp)
    simp only [joinN, List.length_append, List.length_cons, Nat.add_mul, Nat.one_mul]
    omega
theorem textG_len {v : Bool} {A : List Int} (hA : Sixteen A) (i : Nat) : (textG v A i).length ≤ 65536 := by
  cases v with
  | true => exact (hexG_ok hA i).2
  | false => have := (dec_ok hA i).2; show (decZ A i).length ≤ _; omega
/-- The library's Join at a row of texts. -/
theorem joins_any (a : Option Addr) (n c : Nat) (D : List (List Int)) (v : Bool) (w : World) (hr : SRow w a n (SB D)) (hc : n ≤ c) (hn : n ≤ 8) (hl : ∀ d ∈ D, d.length ≤ 65536) :
    Calls Tryd.prog 40 #[.slice a n c, .string (famS v)] w fun e w' => e = .returned (.string (strOfNums (joinN (sepC v) D))) ∧ Below w.heap.size w w' := by
  have hD : D.length = n := by rw [← hr.1, sb_len]
  rcases Nat.eq_zero_or_pos n with h0 | h0
  · subst h0
    obtain rfl : D = [] := List.eq_nil_of_length_eq_zero hD
    exact (Tryd.strings_Join_none a c (famS v) w).mono (fun e w' ⟨he, hw⟩ => ⟨he, hw ▸ Below.refl _ _⟩)
  · obtain ⟨b, off, rfl, hb, hcell⟩ := hr.2 h0
    have hlen := joinN_len (sepC v) 65536 D hl
    rw [hD] at hlen
    have h := Tryd.strings_Join b off c (SB D) (famS v) w (fun j x hx => by
      have hj : j < n := by rw [← hD, ← sb_len D]; exact (List.getElem?_eq_some_iff.1 hx).1
      rw [hcell j hj, hx]
      rfl) hb (by rw [sb_len, hD]; omega) (by rw [sb_len, hD]; exact hc) (by rw [famS_is, join_len]; omega)
    rw [sb_len, hD] at h
    exact h.mono (fun e w' ⟨he, hw⟩ => ⟨by rw [he, famS_is, join_is], hw⟩)

theorem own_capS {w : World} {base n cap m : Nat} {a : Option Addr} {vs : List Value} (h : w.ownsRow base 9 1 (.slice a n cap) m vs) : n ≤ cap := by
  rcases h.2 with ⟨e, _⟩ | ⟨g, cap', cur, e, h1, h2, h3⟩
  · injection e with _ e1 e2
    omega
  · injection e with e0 e1 e2
    omega
/-- The texts that were made, at a block of their own. -/
theorem SOut.at {W0 wr : World} {V : Value} {L : List ByteArray} (h : SOut W0 wr V L) (hn : 0 < L.length) : ∃ b c, V = .slice (some ⟨b, 0, none⟩) L.length c ∧ L.length ≤ c ∧ b < wr.heap.size ∧ ∀ i, i < L.length → wr.cell? ⟨b, i, none⟩ = some (.string (L[i]?.getD ByteArray.empty)) := by
  obtain ⟨a, c, rfl, hr⟩ := h.row
  have hc := own_capS h.1
  rcases h.1.2 with ⟨e, _⟩ | ⟨g, cap', cur, e, h1, h2, h3⟩
  · injection e with _ e1
    omega
  · injection e with e0 e1 e2
    subst e0
    refine ⟨g, c, rfl, hc, (h.1.lt g rfl).2, fun i hi => ?_⟩
    rw [h.1.cellAt i (by omega), List.getElem?_map, List.getElem?_eq_getElem hi]
    rfl
theorem SRow.part {w : World} {b n : Nat} {D : List (List Int)} (hD : D.length = n) (hb : b < w.heap.size) (hc : ∀ i, i < n → w.cell? ⟨b, i, none⟩ = some (.string ((SB D)[i]?.getD ByteArray.empty))) (x m : Nat) (h : x + m ≤ n) (a : Option Addr) (ha : 0 < m → a = some ⟨b, x, none⟩) : SRow w a m (SB ((D.drop x).take m)) := by
  refine ⟨by rw [sb_len, List.length_take, List.length_drop]; omega, fun h0 => ⟨b, x, ha h0, hb, fun i hi => ?_⟩⟩
  rw [hc (x + i) (by omega)]
  unfold SB
  rw [List.getElem?_map, List.getElem?_map, List.getElem?_take, if_pos hi, List.getElem?_drop]

set_option maxHeartbeats 2000000 in
set_option maxRecDepth 10000 in
theorem addrtext_any (v : Bool) (A : List Int) (L : Int) (w : World) (hA : Sixteen A) (hs : Std w) :
    Calls Tryd.prog 22 #[.agg (pcells v A L)] w fun e w' => e = .returned (.string (strOfNums (addrT v A))) ∧ Below w.heap.size w w' := by
  have BX := Lib.hid (pbox w v A L)
  have BW := Lib.hid (box_below w (.cells (pcells v A L) 24))
  have HA := Lib.hid hA
  have hA16 := hA.1
  have HS := Lib.hid hs
  have cv := BX.out.v
  have CM := Lib.hid (fun W => family_any v W)
  have ZS := Lib.hid (Tryd.sizeF v)
  have ZE : Hid (ZF.size = (famC v).size) := Lib.hid (by cases v <;> rfl)
  have P1 := Lib.hid (famC_one v)
  have C3 := Lib.hid (show (famC v)[3]? = some (.string (famS v)) from rfl)
  clear hA hs
  go_enter Tryd.func22, Tryd.ntmps22
  generalize hw2 : w.alloc (.cells (pcells v A L) 24) = w2 at *
  go_upto_region 2 with (first
    | (go_at_call 37; refine (CM.out _).mono ?_; rintro e w3 ⟨rfl, hb3⟩; have B3 := Lib.hid (Below.step BW.out hb3); have X3 := Lib.hid (BX.out.below hb3 BX.out.lt); have S4 := Lib.hid (Blk.new w3 56 ZF); clear hb3 CM)
    | (refine Great.wpList_allocTo rfl (some 3) rfl (.pointer (some ⟨w3.heap.size, 0, none⟩)) (.cells ZF 56) rfl ?_)
    | (refine wpList_store_rowTo rfl 56 (.tmp 3) (.tmp 9) rfl rfl w3.heap.size (famC v) rfl rfl 56 ZF S4.out ZS.out ZE.out P1.out ?_))
  have K4 : Hid (Blk ((w3.alloc (.cells ZF 56)).setRow w3.heap.size (famC v)) w3.heap.size 56 (famC v)) := Lib.hid (setRow_heap _ _ _ _ _ _ S4.out)
  have b4 : Below w3.heap.size w3 ((w3.alloc (.cells ZF 56)).setRow w3.heap.size (famC v)) := below_setRow (box_below w3 (.cells ZF 56)) (Nat.le_refl _) _
  have B4 := Lib.hid (Below.step B3.out b4)
  have X4 := Lib.hid (X3.out.below b4 X3.out.lt)
  clear b4 B3 X3 S4 BX BW cv hw2
  generalize (w3.alloc (.cells ZF 56)).setRow w3.heap.size (famC v) = w4 at *
  generalize w3.heap.size = g4 at *
  have CT := Lib.hid (texts_any v A w4 HA.out (HS.out.later B4.out))
  simp only [Act.put, List.setIfInBounds_toArray, List.set_cons_zero, List.set_cons_succ]
  have hfl := fam_is v
  go_upto_region 3 with (first
    | (refine wpList_load_row rfl 56 (.tmp 3) rfl g4 rfl 56 (famC v) (0, 0) _ K4.out Tryd.underlying56 rfl ZS.out ?_)
    | (refine wpList_load_mid rfl 22 (.tmp 11) rfl w.heap.size 1 rfl (acells A) (.array 16 5) (X4.out.range hA16) Tryd.underlying22 rfl (Tryd.sizeA hA16) ?_)
    | (go_at_call 38; refine CT.out.mono ?_; rintro e w5 ⟨V, rfl, ho⟩; have O5 := Lib.hid ho; clear ho CT))
  obtain ⟨bg, cg, hV, hcg, hbg, hcell⟩ := O5.out.at (by rw [sb_len, groupsT_len]; omega)
  rw [sb_len, groupsT_len] at hV hcg hcell
  subst hV
  have B5 := Lib.hid (Below.step B4.out O5.out.2)
  have X5 := Lib.hid (X4.out.below O5.out.2 X4.out.lt)
  have K5 := Lib.hid (K4.out.below O5.out.2 K4.out.lt)
  have SP := Lib.hid (fun (W : World) (hW : Below w5.heap.size w5 W) (x m : Nat) (h : x + m ≤ famK v) (a : Option Addr) (ha : 0 < m → a = some ⟨bg, x, none⟩) => (SRow.part (groupsT_len v A (famK v)) hbg hcell x m h a ha).below hW)
  have R5 : Hid (SRow w5 (some ⟨bg, 0, none⟩) (famK v) (SB (groupsT v A (famK v)))) := Lib.hid (by
    have h := SP.out w5 (Below.refl _ _) 0 (famK v) (by omega) (some ⟨bg, 0, none⟩) (fun _ => rfl)
    rwa [List.drop_zero, List.take_of_length_le (by rw [groupsT_len]; omega)] at h)
  have TL := Lib.hid (fun d (hd : d ∈ groupsT v A (famK v)) => show d.length ≤ 65536 by
    obtain ⟨i, _, rfl⟩ := List.mem_map.1 hd
    exact textG_len HA.out i)
  have CL := Lib.hid (longest_any (some ⟨bg, 0, none⟩) (famK v) cg (SB (groupsT v A (famK v))) w5 R5.out (by omega))
  have CJ := Lib.hid (joins_any (some ⟨bg, 0, none⟩) (famK v) cg (groupsT v A (famK v)) v w5 R5.out hcg (by omega) TL.out)
  have LE := lr_le (zeroB (SB (groupsT v A (famK v)))) (famK v)
  have cv := X5.out.v
  have c3 := (K5.out.cell 3).trans C3.out
  have HCG := Lib.hid hcg
  clear B4 X4 K4 O5 hcell hcg hbg hfl R5 ZS ZE P1
  generalize hn : famK v = n at *
  have HN := Lib.hid hn
  clear hn
  go_upto_region 4 with (go_at_call 39; refine CL.out.mono ?_; rintro e w6 ⟨rfl, hw6⟩; obtain rfl := hw6; clear CL)
  cases v with
  | false =>
    obtain rfl : n = 4 := HN.out.symm
    have F : Hid (strOfNums (joinN (sepC false) (groupsT false A 4)) = strOfNums (addrT false A)) := Lib.hid (by
      show strOfNums (joinN 46 (groupsT false A 4)) = _
      rw [four_join]
      rfl)
    rw [F.out] at CJ
    clear LE SP TL
    generalize (lrZ (zeroB (SB (groupsT false A 4))) 4).1 = x at *
    generalize (lrZ (zeroB (SB (groupsT false A 4))) 4).2.1 = y at *
    go_wp2_with (go_at_call 40; refine CJ.out.mono ?_; rintro e w7 ⟨rfl, hb7⟩; have B7 := Lib.hid (Below.step B5.out hb7); clear hb7 CJ)
    go_ret
    exact ⟨rfl, B7.out⟩
  | true =>
    obtain rfl : n = 8 := HN.out.symm
    have LR := Lib.hid (lr_row A (zeroB (SB (groupsT true A 8))) (zero_is HA.out))
    have SJ := Lib.hid (six_join A)
    have AT : Hid (addrT true A = sixZ A) := Lib.hid rfl
    generalize (lrZ (zeroB (SB (groupsT true A 8))) 8).2.2 = z at *
    generalize (lrZ (zeroB (SB (groupsT true A 8))) 8).1 = x at *
    generalize (lrZ (zeroB (SB (groupsT true A 8))) 8).2.1 = y at *
    have k3 : IntKind.i64.wrap ((y : Int) - (x : Int)) = (y : Int) - (x : Int) := IntWalk.i64_in _ (by omega)
    by_cases hb : y - x < 2
    · have t2 : decide ((y : Int) - (x : Int) < 2) = true := decide_eq_true (by omega)
      have r0 := LR.out.1 hb
      have F : Hid (strOfNums (joinN (sepC true) (groupsT true A 8)) = strOfNums (addrT true A)) := Lib.hid (by
        rw [AT.out, SJ.out, if_pos r0]
        have := groups8 A 0 8 (by omega)
        rw [List.drop_zero, List.take_of_length_le (by rw [groupsT_len]; omega)] at this
        rw [this]
        rfl)
      rw [F.out] at CJ
      clear LE SP TL SJ LR r0 hb
      go_wp2_with (go_at_call 40; refine CJ.out.mono ?_; rintro e w7 ⟨rfl, hb7⟩; have B7 := Lib.hid (Below.step B5.out hb7); clear hb7 CJ)
      go_ret
      exact ⟨rfl, B7.out⟩
    · have t2 : decide ((y : Int) - (x : Int) < 2) = false := decide_eq_false (by omega)
      have r0 := LR.out.2 hb
      have hcg := HCG.out
      have b1 : x ≤ cg := by omega
      have b2 : y ≤ 8 := by omega
      have b3 : (0 : Int) ≤ (x : Int) := by omega
      have b4 : (0 : Int) ≤ (y : Int) := by omega
      have b5 : (x : Int) ≤ (cg : Int) := by omega
      have b6 : (y : Int) ≤ 8 := by omega
      have b7 : (8 : Int) ≤ (cg : Int) := by omega
      have F : Hid (strOfNums (joinN 58 (grpT A 0 x)) ++ ⟨#[58, 58]⟩ ++ strOfNums (joinN 58 (grpT A y (8 - y))) = strOfNums (addrT true A)) := Lib.hid (by
        rw [AT.out, SJ.out, r0, if_neg (by show ¬ y - x = 0; omega)]
        show _ = strOfNums (joinN 58 (grpT A 0 x) ++ [58, 58] ++ joinN 58 (grpT A (x + (y - x)) (8 - x - (y - x))))
        rw [show x + (y - x) = y by omega, show 8 - x - (y - x) = 8 - y by omega, str_append, str_append]
        rfl)
      have c3' := cell_later c3
      have GL : ∀ i m, ∀ d ∈ grpT A i m, d.length ≤ 65536 := fun i m d hd => by
        obtain ⟨j, _, rfl⟩ := List.mem_map.1 hd
        exact (hexG_ok HA.out _).2
      have CJ1 : Hid (∀ W, Below w6.heap.size w6 W → Calls Tryd.prog 40 #[.slice (some ⟨bg, 0, none⟩) x cg, .string (famS true)] W fun e w' => e = .returned (.string (strOfNums (joinN 58 (grpT A 0 x)))) ∧ Below W.heap.size W w') := Lib.hid (fun W hW => by
        have h := SP.out W hW 0 x (by omega) (some ⟨bg, 0, none⟩) (fun _ => rfl)
        rw [groups8 A 0 x (by omega)] at h
        exact joins_any _ x cg (grpT A 0 x) true W h (by omega) (by omega) (GL 0 x))
      have CJ2 : Hid (∀ W, Below w6.heap.size w6 W → Calls Tryd.prog 40 #[.slice (if cg = y then some ⟨bg, 0, none⟩ else some ⟨bg, y, none⟩) (8 - y) (cg - y), .string (famS true)] W fun e w' => e = .returned (.string (strOfNums (joinN 58 (grpT A y (8 - y))))) ∧ Below W.heap.size W w') := Lib.hid (fun W hW => by
        have h := SP.out W hW y (8 - y) (by omega) (if cg = y then some ⟨bg, 0, none⟩ else some ⟨bg, y, none⟩) (fun h => by rw [if_neg (by omega)])
        rw [groups8 A y (8 - y) (by omega)] at h
        exact joins_any _ (8 - y) (cg - y) (grpT A y (8 - y)) true W h (by omega) (by omega) (GL y (8 - y)))
      have z1 : (strOfNums (joinN 58 (grpT A 0 x))).size ≤ 1000000 := by
        rw [strOfNums_size]
        have := joinN_len 58 65536 (grpT A 0 x) (GL 0 x)
        rw [show (grpT A 0 x).length = x by simp [grpT]] at this
        omega
      have z2 : (strOfNums (joinN 58 (grpT A y (8 - y)))).size ≤ 1000000 := by
        rw [strOfNums_size]
        have := joinN_len 58 65536 (grpT A y (8 - y)) (GL y (8 - y))
        rw [show (grpT A y (8 - y)).length = 8 - y by simp [grpT]] at this
        omega
      generalize strOfNums (joinN 58 (grpT A 0 x)) = S1 at *
      generalize strOfNums (joinN 58 (grpT A y (8 - y))) = S2 at *
      clear LR SJ hb SP TL GL
      go_wp2_with fail
      refine wp_region_ord Ext Ext.refl (fun _ _ _ => Ext.trans) ((0, false) :: (1, false) :: (2, false) :: (3, false) :: (4, false) :: (7, false) :: (8, false) :: (9, false) :: (10, false) :: (11, false) :: (5, true) :: (6, false) :: (12, true) :: (13, false) :: (14, false) :: []) (by kernel_rfl) (by kernel_rfl) rfl (by kernel_rfl) (fun _ _ _ _ _ h => h) ?_
      repeat (refine ord_take _ rfl (by rfl) (fun W hW => by go_simp; first | done | rfl) ?_; simp only [Act.put, List.setIfInBounds_toArray, List.set_cons_zero, List.set_cons_succ])
      refine ord_sole rfl (by rfl) (fun K1 hK1 => ?_)
      go_simp
      refine (CJ1.out _ (drewN_below w6 1)).mono ?_
      rintro r w7 ⟨rfl, hb7⟩
      refine hK1 _ _ hb7 ?_
      have E7 := Lib.hid (Below.step (drewN_below w6 1) hb7)
      clear hK1 K1 hb7 CJ1
      repeat (refine ord_take _ rfl (by rfl) (fun W hW => by go_simp; first | done | rfl | rw [if_neg (by omega)] | rw [if_neg (by simp; omega)]) ?_; simp only [Act.put, List.setIfInBounds_toArray, List.set_cons_zero, List.set_cons_succ])
      refine ord_sole rfl (by rfl) (fun K1 hK1 => ?_)
      go_simp
      refine (CJ2.out _ E7.out).mono ?_
      rintro r w8 ⟨rfl, hb8⟩
      refine hK1 _ _ hb8 ?_
      have B8 := Lib.hid (Below.step (Below.step B5.out E7.out) hb8)
      clear hK1 K1 hb8 CJ2
      repeat (refine ord_take _ rfl (by rfl) (fun W hW => by go_simp; first | done | rfl | rw [if_neg (by omega)] | rw [if_neg (by simp; omega)]) ?_; simp only [Act.put, List.setIfInBounds_toArray, List.set_cons_zero, List.set_cons_succ])
      refine ord_end ?_
      rw [F.out]
      go_wp2_with fail
      all_goals
        go_ret
        exact ⟨rfl, B8.out⟩

end Go.Proofs.YtpekpgmdjpcpiaaDoor
