/-
  What the package's Add and Sub answer, for stage 7 (limb).
-/
import Derived.Test.YthpdeaappchnpaaLnD
import Derived.Laws.CopyOwn
namespace Go.Proofs.Ythpdeaappchnpaa
open Go.RowKit
set_option linter.unusedVariables false

theorem u32_one (cs : List Int) : ∀ v ∈ cs.map (Value.int .u32), v.oneCell' = true := by
  intro v hv
  obtain ⟨_, _, rfl⟩ := List.mem_map.1 hv
  rfl
theorem grown_setRow32 (w : World) (g : Nat) (cs : Array Value) : w.grownBy (w.setRow g cs) (some g) :=
  ⟨rfl, rfl, rfl, by simp [World.setRow], fun k _ hk => setRow_other w g k _ (fun e => hk (by simp [e]))⟩
theorem Try.sizeU32 : (Try.prog.info? 35).map (·.size) = some 1 := by kernel_rfl
/-- Limbs are copied to the beginning of a row. -/
theorem copy32 {ops : Array Oper} {rest : List Oper} {o : Oper} {a : Act} {Q : Exit → Act → World → Prop} {w W0 : World} (hgd : o.guard = none) (d s : Operand) (hop : o.op = .call { callee := .builtin .copy, args := #[d, s], argTypes := #[22, 22] })
    (g N cap : Nat) (sp : Option Addr) (m c : Nat) (L zs : List Int) (hd : a.eval d = .slice (some ⟨g, 0, none⟩) N cap) (hs : a.eval s = .slice sp m c) (ho : Out32 W0 w (.slice (some ⟨g, 0, none⟩) N cap) L) (hg : W0.heap.size ≤ g) (hr : Row32 w sp m zs) (hm : m ≤ N)
    (h : ∀ w', Out32 W0 w' (.slice (some ⟨g, 0, none⟩) N cap) (zs ++ L.drop m) → wpList Try.prog ops Q rest (a.put o.dst (.int .i64 (m : Int))) w') : wpList Try.prog ops Q (o :: rest) a w := by
  have hz := hr.1
  have hN := ho.size
  subst hN
  by_cases h0 : m = 0
  · subst h0
    obtain rfl : zs = [] := List.eq_nil_of_length_eq_zero hz
    refine wpList_copy_nothing hgd d s 22 22 hop 35 Try.underlying22 Try.sizeU32 _ sp L.length cap 0 c hd hs (by simp) ?_
    exact h w (by simpa using ho)
  · obtain ⟨b, off, rfl, hb, hc⟩ := hr.2.2 (by omega)
    obtain ⟨hlen, hown⟩ := ho.1
    rcases hown with ⟨e, _⟩ | ⟨g', cap', cur, e, h1, h2, h3, h4, h5, h6⟩
    · cases e
    · injection e with e1 e2 e3
      injection e1 with e1
      injection e1 with e1
      subst e1 e3
      have hsrc : ∀ j v, (zs.map (Value.int .u32))[j]? = some v → w.cell? (Addr.add ⟨b, off, none⟩ j) = some v := by
        intro j v hv
        rw [Addr.add_lit]
        rw [List.getElem?_map] at hv
        rcases Nat.lt_or_ge j zs.length with hj | hj
        · rw [hc j (by omega), List.getElem?_eq_getElem hj]
          rw [List.getElem?_eq_getElem hj] at hv
          exact hv
        · rw [List.getElem?_eq_none hj] at hv
          cases hv
      refine wpList_copy_own hgd d s 22 22 hop 35 Try.underlying22 Try.sizeU32 g 0 L.length cap ⟨b, off, none⟩ m c hd hs cur 35 h2 (zs.map (Value.int .u32)) (by rw [List.length_map, hz]; exact (Nat.min_eq_left hm).symm) hsrc (by rw [List.length_map, h5]; omega) (u32_one zs) ?_
      rw [List.length_map, hz]
      refine h _ ⟨⟨?_, .inr ⟨g, cap, (cur.toList.take 0 ++ (zs.map (Value.int .u32) ++ cur.toList.drop (0 + m))).toArray, ?_, h1, ?_, ?_, h4, ?_, ?_⟩⟩, ?_⟩
      · simp [hz]
      · rw [List.length_append, List.length_drop, hz]
        congr 1
        omega
      · exact setRow_heap w g cur _ 35 (0, 0) h2
      · rw [List.length_append, List.length_drop, hz]
        omega
      · have hcs : cur.toList.length = cur.size := by simp
        simp only [List.take_zero, List.nil_append, List.size_toArray, List.length_append, List.length_map, List.length_drop, hz, hcs, h5]
        omega
      · simp only [List.take_zero, List.nil_append, Nat.zero_add, Nat.mul_one, List.length_append, List.length_drop, hz, List.map_append]
        rw [show m + (L.length - m) = (zs.map (Value.int .u32)).length + (L.length - m) by rw [List.length_map, hz], List.take_length_add_append, ← List.drop_take, show L.length = L.length * 1 by omega, h6, List.map_drop]
      · exact ho.2.grown (grown_setRow32 w g _) ho.2.size (fun k hk => by injection hk with hk; omega)

theorem add_end {xs ys L' : List Int} {n : Nat} {q : Int} (hx : Limbs xs) (hy : Limbs ys) (hL : Limbs L') (hn : xs.length = n) (hm : ys.length ≤ n) (q0 : 0 ≤ q) (q1 : q ≤ 1) (h : valZ L' + 1 * (4294967296 ^ (n + 1) * q) = valZ (xs ++ List.drop n (List.replicate (n + 1) 0)) + 1 * valZ (ys.take (n + 1))) : valZ L' = valZ xs + valZ ys := by
  rw [valZ_all (by omega), valZ_append, List.drop_replicate, valZ_zeros, Int.mul_zero, Int.add_zero, Int.one_mul, Int.one_mul] at h
  have a1 := valZ_lt hx
  have a2 := valZ_lt hy
  have a3 := valZ_nonneg hL
  have a4 := pow_mono32 hm
  have a5 := pow_pos32 n
  rw [hn] at a1
  rw [Int.pow_succ] at h
  have hq : q = 0 ∨ q = 1 := by omega
  rcases hq with rfl | rfl
  · omega
  · omega

theorem sub_tail {xs L' : List Int} {k : Nat} (hl : L'.length = xs.length) (hk : valZ (xs.take k) = valZ xs) (hs : ∀ i, k ≤ i → L'[i]?.getD 0 = xs[i]?.getD 0) : valZ L' = valZ (L'.take k) := by
  have e : L'.drop k = xs.drop k := by
    apply List.ext_getElem?
    intro i
    rw [List.getElem?_drop, List.getElem?_drop]
    have := hs (k + i) (by omega)
    rcases Nat.lt_or_ge (k + i) xs.length with h | h
    · rw [List.getElem?_eq_getElem (by omega), List.getElem?_eq_getElem h] at this ⊢
      simpa using this
    · rw [List.getElem?_eq_none (by omega), List.getElem?_eq_none h]
  have h1 := valZ_parts L' k
  have h2 := valZ_parts xs k
  rw [e] at h1
  omega
theorem sub_end {xs ys L' : List Int} {q : Int} (hx : Limbs xs) (hy : Limbs ys) (hL : Limbs L') (hl : L'.length = xs.length) (hle : valZ ys ≤ valZ xs) (q0 : 0 ≤ q) (q1 : q ≤ 1)
    (h : valZ L' + -1 * (4294967296 ^ (limZ (valZ xs)).length * q) = valZ xs + -1 * valZ (ys.take (limZ (valZ xs)).length)) (hs : ∀ i, (limZ (valZ xs)).length ≤ i → L'[i]?.getD 0 = xs[i]?.getD 0) : valZ (L'.take (limZ (valZ xs)).length) = valZ xs - valZ ys := by
  have t := norm_take hx
  have v := limZ_val (valZ_nonneg hx)
  have e := sub_tail hl (by rw [t.2, v]) hs
  rw [e] at h
  have hlu : (limZ (valZ xs)).length ≤ L'.length := by rw [hl]; exact t.1
  have := dif_end (out := L'.take (limZ (valZ xs)).length) (o := q) (limZ_limbs (valZ xs)) hy (hL.take _) (by rw [List.length_take, Nat.min_eq_left hlu]) (by rw [v]; exact hle) ⟨q0, q1⟩ (by rw [List.take_of_length_le (l := limZ (valZ xs)) (Nat.le_refl _), v]; omega)
  rw [this, v]

theorem giv_comm {x y : Int} {w : World} {e : Ending} {w' : World} (h : GivesL (y + x) w e w') : GivesL (x + y) w e w' := by rwa [Int.add_comm] at h

set_option maxHeartbeats 1000000 in
set_option maxRecDepth 10000 in
theorem add_any (a b : Option Addr) (n m ca cb : Nat) (xs ys : List Int) (w : World) (hr : Row32 w a n xs) (hs : Row32 w b m ys) (hn : n ≤ 40000) (hm : m ≤ 40000) :
    Calls Try.prog 17 #[.slice a n ca, .slice b m cb] w (GivesL (valZ xs + valZ ys) w) := by
  obtain ⟨i0, hi, hz0, hz1, hz2⟩ := info_parts Try.info32
  have HA := Lib.hid hr
  have HB := Lib.hid hs
  have LA := Lib.hid (row32_limbs hr)
  have LB := Lib.hid (row32_limbs hs)
  clear hr hs
  by_cases hlt : n < m
  · have t0 : decide ((n : Int) < (m : Int)) = true := decide_eq_true (by omega)
    refine Calls.mono (R := fun e w' => GivesL (valZ ys + valZ xs) w e w') ?_ (fun e w' h => giv_comm h)
    have w1 : IntKind.i64.wrap ((m : Int) + 1) = (m : Int) + 1 := IntWalk.i64_in _ (by omega)
    go_enter Try.func17, Try.ntmps17
    go_wp2_with (at_make; refine wpList_make_full _ rfl _ _ 22 rfl w.heap.size 35 i0 (.int .u32 0) 1 Try.underlying22 hi hz0 hz1 _ _ _ _ (m + 1) rfl rfl ?b0 ?b00 ?b1 ?b2 ?b3 ?_)
    case b0 => first | rfl | omega
    case b00 => first | rfl | omega
    case b1 => rw [hz2]; omega
    case b2 => unfold maxLen; omega
    case b3 => exact Nat.le_refl _
    intro w1 hown0 hgrow
    have HO := Lib.hid (out_made32 hown0 hgrow)
    have R1 := Lib.hid (HB.out.below HO.out.2)
    have nN : m ≤ m + 1 := by omega
    clear hown0 hgrow hz2 hz1 hz0 hi
    go_wp2_with (refine copy32 rfl _ _ rfl w.heap.size (m + 1) (m + 1) b m cb (List.replicate (m + 1) 0) ys rfl rfl HO.out (Nat.le_refl _) R1.out nN ?_; intro w2 ho2; have O2 := Lib.hid ho2; clear ho2)
    refine (combine_add 1 add32_steps (.inl rfl) w w2 (some ⟨w.heap.size, 0, none⟩) a (m + 1) (m + 1) (m + 1) (m + 1) n ca _ xs O2.out (by rw [List.length_append, List.length_drop, List.length_replicate, HB.out.1]; omega) (fun _ => ⟨_, rfl, Nat.le_refl _⟩) (Nat.le_refl _) (LB.out.append (limbs_zeros _ |>.drop _)) HA.out (by omega) (by omega)).mono ?_
    rintro e w3 ⟨rfl, L', q, hO, hL', hlen, q0, q1, hv, _⟩
    have O3 := Lib.hid hO
    have F := Lib.hid (add_end LB.out LA.out hL' HB.out.1 (by rw [HA.out.1]; omega) q0 q1 hv)
    have R3 := (hO.normed hL').1
    have N3 := Lib.hid (normalized_any (some ⟨w.heap.size, 0, none⟩) (m + 1) (m + 1) L' w3 R3 (Nat.le_refl _) (by omega) (fun e => by cases e))
    have G3 := Lib.hid R3.norm
    rw [F.out] at N3 G3
    clear hO hv R3
    go_wp2_with fail
    refine N3.out.mono ?_
    rintro e w4 ⟨rfl, rfl⟩
    go_wp2_with fail
    go_ret
    exact ⟨_, _, rfl, G3.out, (fun e => by cases e), Nat.le_refl _, O3.out.2⟩
  · have t0 : decide ((n : Int) < (m : Int)) = false := decide_eq_false (by omega)
    have w1 : IntKind.i64.wrap ((n : Int) + 1) = (n : Int) + 1 := IntWalk.i64_in _ (by omega)
    go_enter Try.func17, Try.ntmps17
    go_wp2_with (at_make; refine wpList_make_full _ rfl _ _ 22 rfl w.heap.size 35 i0 (.int .u32 0) 1 Try.underlying22 hi hz0 hz1 _ _ _ _ (n + 1) rfl rfl ?b0 ?b00 ?b1 ?b2 ?b3 ?_)
    case b0 => first | rfl | omega
    case b00 => first | rfl | omega
    case b1 => rw [hz2]; omega
    case b2 => unfold maxLen; omega
    case b3 => exact Nat.le_refl _
    intro w1 hown0 hgrow
    have HO := Lib.hid (out_made32 hown0 hgrow)
    have R1 := Lib.hid (HA.out.below HO.out.2)
    have nN : n ≤ n + 1 := by omega
    clear hown0 hgrow hz2 hz1 hz0 hi
    go_wp2_with (refine copy32 rfl _ _ rfl w.heap.size (n + 1) (n + 1) a n ca (List.replicate (n + 1) 0) xs rfl rfl HO.out (Nat.le_refl _) R1.out nN ?_; intro w2 ho2; have O2 := Lib.hid ho2; clear ho2)
    refine (combine_add 1 add32_steps (.inl rfl) w w2 (some ⟨w.heap.size, 0, none⟩) b (n + 1) (n + 1) (n + 1) (n + 1) m cb _ ys O2.out (by rw [List.length_append, List.length_drop, List.length_replicate, HA.out.1]; omega) (fun _ => ⟨_, rfl, Nat.le_refl _⟩) (Nat.le_refl _) (LA.out.append (limbs_zeros _ |>.drop _)) HB.out (by omega) (by omega)).mono ?_
    rintro e w3 ⟨rfl, L', q, hO, hL', hlen, q0, q1, hv, _⟩
    have O3 := Lib.hid hO
    have F := Lib.hid (add_end LA.out LB.out hL' HA.out.1 (by rw [HB.out.1]; omega) q0 q1 hv)
    have R3 := (hO.normed hL').1
    have N3 := Lib.hid (normalized_any (some ⟨w.heap.size, 0, none⟩) (n + 1) (n + 1) L' w3 R3 (Nat.le_refl _) (by omega) (fun e => by cases e))
    have G3 := Lib.hid R3.norm
    rw [F.out] at N3 G3
    clear hO hv R3
    go_wp2_with fail
    refine N3.out.mono ?_
    rintro e w4 ⟨rfl, rfl⟩
    go_wp2_with fail
    go_ret
    exact ⟨_, _, rfl, G3.out, (fun e => by cases e), Nat.le_refl _, O3.out.2⟩

end Go.Proofs.Ythpdeaappchnpaa
