/-
  Merged texts: ReC, RpB, Pk4.
-/
import Derived.Test.YtlmndmfebgaidaaGreatDoorGnM
import Derived.Test.YtlmndmfebgaidaaGreatDoorGnD
import Derived.Test.YtlmndmfebgaidaaGreatDoorGnF
import Derived.Test.YtlmndmfebgaidaaGreatDoorGnO
import Derived.Test.YtlmndmfebgaidaaGreatDoorGnN
namespace Go.Proofs.YtlmndmfebgaidaaGreatDoor
open Go.RowKit
set_option linter.unusedVariables false
set_option maxRecDepth 100000
def upd {α : Type} (f : Nat → α) (k : Nat) (v : α) : Nat → α := fun j => if j = k then v else f j
theorem upd_at {α : Type} (f : Nat → α) (k : Nat) (v : α) : upd f k v k = v := if_pos rfl
theorem upd_far {α : Type} (f : Nat → α) {j k : Nat} (h : j ≠ k) (v : α) : upd f k v j = f j := if_neg h
def tabC (X : Nat → Value) : Array Value := #[.int .i64 48, .slice none 0 0, X 0, .int .i64 48, .slice none 0 0, X 1, .int .i64 48, .slice none 0 0, X 2]
def zero2 : Array Value := #[.int .i64 0, .slice none 0 0, .slice none 0 0, .int .i64 0, .slice none 0 0, .slice none 0 0]
def FreeB (w : World) (V : Nat → Value) (b : Nat) : Prop := w.heap.size < b ∧ ∀ k, k < 3 → (V k).ownBlock ≠ some b
structure Kids3 (w u : World) (X V : Nat → Value) (ks : Nat → List T) (ns : List (T × Value)) (hs : List Nat) : Prop where
  bel : Below w.heap.size w u
  box : Blk u w.heap.size 29 (tabC X)
  row : ∀ k, k < 3 → ∃ xs : List Value, u.ownsRow (w.heap.size + 1) 29 3 (V k) (ks k).length xs ∧ ∀ i (h : i < (ks k).length), ∃ v0 v1 v2 : Value, xs[i * 3]? = some v0 ∧ xs[i * 3 + 1]? = some v1 ∧ xs[i * 3 + 2]? = some v2 ∧ ((ks k)[i]).InP (FreeB w V) u (.agg #[v0, v1, v2])
  apart : ∀ j k, j < 3 → k < 3 → j ≠ k → ∀ b, (V j).ownBlock = some b → (V k).ownBlock ≠ some b
  nodes : ∀ p ∈ ns, p.1.InP (FreeB w V) u p.2
  zer : ∀ H ∈ hs, Blk u H 29 zero2 ∧ FreeB w V H
def Still (B t : Nat) (V : Nat → Value) (a b : World) : Prop := a.heap.size ≤ b.heap.size ∧ ∀ c, c < B → c ≠ t → (∀ k, k < 3 → (V k).ownBlock ≠ some c) → b.heap[c]? = a.heap[c]?
theorem Still.refl (B t : Nat) (V : Nat → Value) (a : World) : Still B t V a a := ⟨Nat.le_refl _, fun _ _ _ _ => rfl⟩
theorem Still.trans {B t : Nat} {V : Nat → Value} (a b c : World) (h : Still B t V a b) (k : Still B t V b c) : Still B t V a c := ⟨Nat.le_trans h.1 k.1, fun x h1 h2 h3 => (k.2 x h1 h2 h3).trans (h.2 x h1 h2 h3)⟩
theorem Still.below {B t : Nat} {V : Nat → Value} {a b : World} (h : Below a.heap.size a b) (hB : B ≤ a.heap.size) : Still B t V a b := ⟨h.size, fun x h1 _ _ => h.block x (by omega)⟩
theorem Still.far {B t g k : Nat} {V : Nat → Value} {a b : World} (hf : ∀ x, x ≠ g → b.heap[x]? = a.heap[x]?) (hs : b.heap.size = a.heap.size) (hk : k < 3) (hg : (V k).ownBlock = some g ∨ B ≤ g) : Still B t V a b :=
  ⟨Nat.le_of_eq hs.symm, fun x h1 _ h3 => hf x (fun e => by
    subst e
    rcases hg with h | h
    · exact h3 k hk h
    · omega)⟩
theorem Still.tab {B t : Nat} {V : Nat → Value} {a b : World} (hf : ∀ x, x ≠ t → b.heap[x]? = a.heap[x]?) (hs : b.heap.size = a.heap.size) : Still B t V a b := ⟨Nat.le_of_eq hs.symm, fun x _ h2 _ => hf x h2⟩
theorem Blk.still {B t g : Nat} {V : Nat → Value} {a b : World} {ty : TypeId} {cs : Array Value} (h : Blk a g ty cs) (hs : Still B t V a b) (h1 : g < B) (h2 : g ≠ t) (h3 : ∀ k, k < 3 → (V k).ownBlock ≠ some g) : Blk b g ty cs := (hs.2 g h1 h2 h3).trans h
section
variable {w u : World} {X V : Nat → Value} {ks : Nat → List T} {ns : List (T × Value)} {hs : List Nat}
theorem Kids3.lt (h : Kids3 w u X V ks ns hs) {k : Nat} (hk : k < 3) {b : Nat} (e : (V k).ownBlock = some b) : w.heap.size + 1 ≤ b ∧ b < u.heap.size := by
  obtain ⟨xs, h1, _⟩ := h.row k hk
  exact h1.lt b e
theorem Kids3.over (h : Kids3 w u X V ks ns hs) {b : Nat} (hb : u.heap.size ≤ b) : FreeB w V b :=
  ⟨by have := h.box.lt; omega, fun k hk e => by have := (h.lt hk e).2; omega⟩
theorem Kids3.below (h : Kids3 w u X V ks ns hs) {u' : World} (hb : Below u.heap.size u u') : Kids3 w u' X V ks ns hs := by
  refine ⟨Below.step h.bel hb, h.box.below hb h.box.lt, fun k hk => ?_, h.apart, fun p hp => T.InP.below hb (fun _ h => h) _ (h.nodes p hp), fun H hH => ⟨(h.zer H hH).1.below hb (h.zer H hH).1.lt, (h.zer H hH).2⟩⟩
  obtain ⟨xs, h1, h2⟩ := h.row k hk
  refine ⟨xs, ⟨h1.1, ?_⟩, fun i hi => ?_⟩
  · rcases h1.2 with h' | ⟨g, cap, cur, e, a1, a2, a3⟩
    · exact .inl h'
    · exact .inr ⟨g, cap, cur, e, a1, (hb.block g (Array.getElem?_eq_some_iff.1 a2).1).trans a2, a3⟩
  · obtain ⟨v0, v1, v2, e0, e1, e2, hin⟩ := h2 i hi
    exact ⟨v0, v1, v2, e0, e1, e2, T.InP.below hb (fun _ h => h) _ hin⟩
theorem Kids3.node (h : Kids3 w u X V ks ns hs) {u' : World} (hb : Below u.heap.size u u') {t : T} {v : Value} (hin : t.InP (u.heap.size ≤ ·) u' v) : Kids3 w u' X V ks (ns ++ [(t, v)]) hs := by
  have k := h.below hb
  refine ⟨k.bel, k.box, k.row, k.apart, fun p hp => ?_, k.zer⟩
  rcases List.mem_append.1 hp with hp | hp
  · exact k.nodes p hp
  · obtain rfl : p = (t, v) := by simpa using hp
    exact T.InP.keep (fun b _ hP => ⟨h.over hP, rfl⟩) (Nat.le_refl _) _ hin
theorem Kids3.zero (h : Kids3 w u X V ks ns hs) : Kids3 w (u.alloc (.cells zero2 29)) X V ks ns (u.heap.size :: hs) := by
  have k := h.below (box_below u (.cells zero2 29))
  refine ⟨k.bel, k.box, k.row, k.apart, k.nodes, fun H hH => ?_⟩
  rcases List.mem_cons.1 hH with rfl | hH
  · exact ⟨Blk.new _ _ _, h.over (Nat.le_refl _)⟩
  · exact k.zer H hH
theorem zero_in (P : Nat → Prop) (w : World) : zeroT.InP P w (.agg #[.int .i64 0, .slice none 0 0, .slice none 0 0]) := by
  unfold zeroT T.InP
  exact ⟨none, 0, 0, none, 0, 0, rfl, rfl, Row.nil _ _, Nat.zero_le _, fun _ => rfl, rfl, Nat.zero_le _, fun h => absurd h (by omega), fun h => absurd h (by omega)⟩
theorem op_kids_append {o : Oper} {a : Act} {K : Act → World → Prop} {Q : Exit → Act → World → Prop} (h : Kids3 w u X V ks ns hs) (s x : Operand) (k : Nat) (hk : k < 3) (hop : o.op = .call { callee := .builtin .append, args := #[s, x], argTypes := #[27, 27] })
    (hs' : a.eval s = V k) (H : Nat) (hH : H ∈ hs) (hx : a.eval x = .slice (some ⟨H, 0, none⟩) 2 2) (hl : (ks k).length + 2 ≤ 100000) (n : Nat) (hn : (ks k).length = n)
    (hK : ∀ g c u', Kids3 w u' X (upd V k (.slice (some ⟨g, 0, none⟩) (n + 2) c)) (upd ks k (ks k ++ [zeroT, zeroT])) ns hs → ((V k).ownBlock = some g ∨ u.heap.size ≤ g) → (∀ B, B ≤ u.heap.size → Still B w.heap.size V u u') → K (a.put o.dst (.slice (some ⟨g, 0, none⟩) (n + 2) c)) u') : o.wp Tryz.prog a u K Q := by
  subst hn
  obtain ⟨i0, hi5, hz0, hz1, hz2⟩ := info_parts Tryz.infoNode
  obtain ⟨xs, hown, hks⟩ := h.row k hk
  obtain ⟨hZ, hF⟩ := h.zer H hH
  have hsz := h.box.lt
  obtain ⟨V', u', hr, h1, hg1, _, hat⟩ := run_append_own_at (P := Tryz.prog) u (w.heap.size + 1) 27 o.type 29 i0 _ 3 56 Tryz.underlying27 hi5 hz0 hz1 hz2 rfl (by decide) (V k) (ks k).length xs hown ⟨H, 0, none⟩ 2 2 zero2.toList rfl (fun j v hv => by
    rw [Addr.add_lit, Nat.zero_add, Blk.cell hZ j]
    rw [← hv]
    exact (Array.getElem?_toList (xs := zero2)).symm) (fun v hv => by
    simp only [zero2, List.mem_cons, List.not_mem_nil, or_false] at hv
    rcases hv with rfl | rfl | rfl | rfl | rfl | rfl <;> rfl) (by unfold maxLen; omega) (by omega) (by omega)
  have hlen : (ks k ++ [zeroT, zeroT]).length = (ks k).length + 2 := by simp
  obtain ⟨g, c, hV⟩ : ∃ g c, V' = .slice (some ⟨g, 0, none⟩) ((ks k).length + 2) c := by
    rcases h1.2 with ⟨_, h0⟩ | ⟨g, cap, cur, e, _⟩
    · omega
    · exact ⟨g, cap, e⟩
  subst hV
  have hob : (Value.slice (some ⟨g, 0, none⟩) ((ks k).length + 2) c).ownBlock = some g := rfl
  have hkeep : ∀ b, b < u.heap.size → (V k).ownBlock ≠ some b → u'.heap[b]? = u.heap[b]? := fun b hb hne => hg1.block b hb (fun e => hne e.symm)
  have hsz2 := hg1.size
  rw [hob] at hat
  have hAp : ∀ b, b < u.heap.size → FreeB w V b → FreeB w (upd V k (.slice (some ⟨g, 0, none⟩) ((ks k).length + 2) c)) b ∧ u'.heap[b]? = u.heap[b]? := by
    intro b hb hp
    refine ⟨⟨hp.1, fun j hj => ?_⟩, hkeep b hb (hp.2 k hk)⟩
    rcases Nat.decEq j k with hne | rfl
    · rw [upd_far V hne]
      exact hp.2 j hj
    · rw [upd_at, hob]
      rcases hat with h' | h'
      · rw [h']
        exact hp.2 j hj
      · rw [h']
        intro e
        injection e with e
        omega
  refine op_of_run (.slice (some ⟨g, 0, none⟩) ((ks k).length + 2) c) u' ?_ (hK g c u' ⟨?_, ?_, fun j hj => ?_, fun i j hi hj hij b e => ?_, fun p hp => T.InP.keep hAp hsz2 _ (h.nodes p hp), fun H' hH' => ?_⟩ ?_ (fun B hB => ⟨hsz2, fun x h1 h2 h3 => hkeep x (by omega) (h3 k hk)⟩))
  · unfold execOp
    simp only [hop, resolve, invoke, builtin, Sem.run_bind, Sem.run_pure, Result.andThen_ok, List.map_toArray, List.map_cons, List.map_nil, hs', hx, hr]
  · exact h.bel.grown hg1 h.bel.size (fun b e => by have := (h.lt hk e).1; omega)
  · exact (hkeep _ hsz (fun e => by have := (h.lt hk e).1; omega)).trans h.box
  · rcases Nat.decEq j k with hne | rfl
    · obtain ⟨ys, g1, g2⟩ := h.row j hj
      rw [upd_far V hne, upd_far ks hne]
      refine ⟨ys, g1.kept hg1 ?_, fun i hi => ?_⟩
      · rcases hb : (V j).ownBlock with _ | b
        · exact .inl rfl
        · exact .inr (fun e => h.apart j k hj hk hne b hb e.symm)
      · obtain ⟨v0, v1, v2, e0, e1, e2, hin⟩ := g2 i hi
        exact ⟨v0, v1, v2, e0, e1, e2, T.InP.keep hAp hsz2 _ hin⟩
    · rw [upd_at, upd_at]
      refine ⟨xs ++ zero2.toList, by rw [hlen]; exact h1, fun i hi => ?_⟩
      have hi' := hi
      rw [hlen] at hi'
      have hxl : xs.length = (ks j).length * 3 := hown.1
      rcases Nat.lt_or_ge i (ks j).length with hlt | hge
      · obtain ⟨v0, v1, v2, e0, e1, e2, hin⟩ := hks i hlt
        refine ⟨v0, v1, v2, ?_, ?_, ?_, ?_⟩
        · rw [List.getElem?_append_left (by omega)]; exact e0
        · rw [List.getElem?_append_left (by omega)]; exact e1
        · rw [List.getElem?_append_left (by omega)]; exact e2
        · rw [List.getElem_append_left hlt]
          exact T.InP.keep hAp hsz2 _ hin
      · have ez : (ks j ++ [zeroT, zeroT])[i]'(by omega) = zeroT := by
          rw [List.getElem_append_right hge]
          rcases (show i - (ks j).length = 0 ∨ i - (ks j).length = 1 by omega) with e | e <;> simp [e]
        rw [ez]
        refine ⟨.int .i64 0, .slice none 0 0, .slice none 0 0, ?_, ?_, ?_, zero_in _ _⟩
        · rw [List.getElem?_append_right (by omega)]
          rcases (show i * 3 - xs.length = 0 ∨ i * 3 - xs.length = 3 by omega) with e | e <;> rw [e] <;> rfl
        · rw [List.getElem?_append_right (by omega)]
          rcases (show i * 3 + 1 - xs.length = 1 ∨ i * 3 + 1 - xs.length = 4 by omega) with e | e <;> rw [e] <;> rfl
        · rw [List.getElem?_append_right (by omega)]
          rcases (show i * 3 + 2 - xs.length = 2 ∨ i * 3 + 2 - xs.length = 5 by omega) with e | e <;> rw [e] <;> rfl
  · rcases Nat.decEq i k with hik | rfl
    · rw [upd_far V hik] at e
      rcases Nat.decEq j k with hjk | rfl
      · rw [upd_far V hjk]
        exact h.apart i j hi hj hij b e
      · rw [upd_at, hob]
        rcases hat with h' | h'
        · rw [h']
          exact h.apart i j hi hj hij b e
        · rw [h']
          intro e2
          injection e2 with e2
          have := (h.lt hi e).2
          omega
    · rw [upd_at, hob] at e
      rw [upd_far V (Ne.symm hij)]
      intro e2
      rcases hat with h' | h'
      · exact h.apart j i hj hi (Ne.symm hij) b e2 (h' ▸ e)
      · rw [h'] at e
        injection e with e
        have := (h.lt hj e2).2
        omega
  · obtain ⟨z1, z2⟩ := h.zer H' hH'
    obtain ⟨z3, z4⟩ := hAp H' z1.lt z2
    exact ⟨z4.trans z1, z3⟩
  · rcases hat with h' | h'
    · exact .inl h'.symm
    · injection h' with h'
      exact .inr (by omega)
theorem op_kids_set {o : Oper} {a : Act} {K : Act → World → Prop} {Q : Exit → Act → World → Prop} (h : Kids3 w u X V ks ns hs) (x y : Operand) (k : Nat) (hk : k < 3) (ho : o.op = .store 29 x y) (hdst : o.dst = none)
    (g n c i off : Nat) (hV : V k = .slice (some ⟨g, 0, none⟩) n c) (hn : n = (ks k).length) (hi : i < (ks k).length) (hoff : off = i * 3) (t : T) (v : Value) (hx : a.eval x = .pointer (some ⟨g, off, none⟩)) (hy : a.eval y = v) (hin : (t, v) ∈ ns)
    (hK : ∀ u', Kids3 w u' X V (upd ks k ((ks k).set i t)) ns hs → (∀ b, b ≠ g → u'.heap[b]? = u.heap[b]?) → u'.heap.size = u.heap.size → K a u') : o.wp Tryz.prog a u K Q := by
  subst hoff
  subst hn
  obtain ⟨xs, hown, hks⟩ := h.row k hk
  have hob : (V k).ownBlock = some g := by rw [hV]; rfl
  have hg := h.lt hk hob
  have hvin := h.nodes _ hin
  obtain ⟨A, n', c', K', m, d, e⟩ := hvin.form
  simp only at hvin e
  subst e
  have hxl : xs.length = (ks k).length * 3 := hown.1
  rw [hV] at hown
  have hth : u.there g (i * 3) 3 := fun j hj => ⟨by
    rw [hown.cellAt _ (by omega), List.getElem?_eq_getElem (by omega)]
    rfl, hown.frozenAt _⟩
  have hset := own_setCells [.int .i64 t.tag, .slice A n' c', .slice K' m d] (i * 3) u xs hown (by simp only [List.length_cons, List.length_nil]; omega)
  have hfar : ∀ b, b ≠ g → (u.setCells g (i * 3) [.int .i64 t.tag, .slice A n' c', .slice K' m d]).heap[b]? = u.heap[b]? := fun b hb => by
    simp only [World.setCells]
    rw [heap_setCell_other _ _ _ _ hb, heap_setCell_other _ _ _ _ hb, heap_setCell_other _ _ _ _ hb]
  have hsize : (u.setCells g (i * 3) [.int .i64 t.tag, .slice A n' c', .slice K' m d]).heap.size = u.heap.size := by simp [World.setCells]
  have hAp : ∀ b, b < u.heap.size → FreeB w V b → FreeB w V b ∧ (u.setCells g (i * 3) [.int .i64 t.tag, .slice A n' c', .slice K' m d]).heap[b]? = u.heap[b]? := fun b _ hp => ⟨hp, hfar b (fun e => hp.2 k hk (by rw [hob, e]))⟩
  have hkl : ∀ j, (upd ks k ((ks k).set i t) j).length = (ks j).length := fun j => by
    rcases Nat.decEq j k with hne | rfl
    · rw [upd_far ks hne]
    · rw [upd_at, List.length_set]
  refine wp_store_mid 29 x y ho g (i * 3) #[.int .i64 t.tag, .slice A n' c', .slice K' m d] hx hy hth (by kernel_rfl) (by simp [Value.oneCell']) ?_
  rw [hdst]
  refine hK _ ⟨?_, ?_, fun j hj => ?_, h.apart, fun p hp => T.InP.keep hAp (by rw [hsize]; exact Nat.le_refl _) _ (h.nodes p hp), fun H' hH' => ?_⟩ hfar hsize
  · exact below_setCells (by omega) _ _ _ h.bel
  · exact (hfar _ (by omega)).trans h.box
  · rcases Nat.decEq j k with hne | rfl
    · obtain ⟨ys, g1, g2⟩ := h.row j hj
      rw [upd_far ks hne]
      refine ⟨ys, ⟨g1.1, ?_⟩, fun i hi => ?_⟩
      · rcases g1.2 with h' | ⟨g', cap, cur, e, a1, a2, a3⟩
        · exact .inl h'
        · refine .inr ⟨g', cap, cur, e, a1, (hfar g' (fun e' => ?_)).trans a2, a3⟩
          exact h.apart j k hj hk hne g' (by rw [e]; rfl) (by rw [hob, e'])
      · obtain ⟨v0, v1, v2, e0, e1, e2, hin⟩ := g2 i hi
        exact ⟨v0, v1, v2, e0, e1, e2, T.InP.keep hAp (by rw [hsize]; exact Nat.le_refl _) _ hin⟩
    · rw [upd_at]
      refine ⟨_, by rw [List.length_set, hV]; exact hset, fun p hp => ?_⟩
      have hp' : p < (ks j).length := by rw [List.length_set] at hp; exact hp
      have cut : ∀ q, (xs.take (i * 3) ++ [.int .i64 t.tag, .slice A n' c', .slice K' m d] ++ xs.drop (i * 3 + 3))[q]? = if q < i * 3 then xs[q]? else if q < i * 3 + 3 then [Value.int .i64 t.tag, .slice A n' c', .slice K' m d][q - i * 3]? else xs[q]? := by
        intro q
        have tl : (xs.take (i * 3)).length = i * 3 := by rw [List.length_take]; omega
        rw [List.append_assoc]
        by_cases h1 : q < i * 3
        · rw [if_pos h1, List.getElem?_append_left (by omega), List.getElem?_take, if_pos h1]
        · rw [if_neg h1, List.getElem?_append_right (by omega), tl]
          by_cases h2 : q < i * 3 + 3
          · rw [if_pos h2, List.getElem?_append_left (by simp only [List.length_cons, List.length_nil]; omega)]
          · rw [if_neg h2, List.getElem?_append_right (by simp only [List.length_cons, List.length_nil]; omega), List.getElem?_drop]
            simp only [List.length_cons, List.length_nil]
            rw [show i * 3 + 3 + (q - i * 3 - (0 + 1 + 1 + 1)) = q by omega]
      rcases Nat.decEq p i with hne | rfl
      · obtain ⟨v0, v1, v2, e0, e1, e2, hin2⟩ := hks p hp'
        refine ⟨v0, v1, v2, ?_, ?_, ?_, ?_⟩
        · show (_ ++ xs.drop (i * 3 + 3))[_]? = _
          rw [cut, ← e0]
          split
          · rfl
          · rw [if_neg (by omega)]
        · show (_ ++ xs.drop (i * 3 + 3))[_]? = _
          rw [cut, ← e1]
          split
          · rfl
          · rw [if_neg (by omega)]
        · show (_ ++ xs.drop (i * 3 + 3))[_]? = _
          rw [cut, ← e2]
          split
          · rfl
          · rw [if_neg (by omega)]
        · rw [List.getElem_set_ne (Ne.symm hne)]
          exact T.InP.keep hAp (by rw [hsize]; exact Nat.le_refl _) _ hin2
      · refine ⟨.int .i64 t.tag, .slice A n' c', .slice K' m d, ?_, ?_, ?_, ?_⟩
        · show (_ ++ xs.drop (p * 3 + 3))[_]? = _
          rw [cut, if_neg (by omega), if_pos (by omega), Nat.sub_self]
          rfl
        · show (_ ++ xs.drop (p * 3 + 3))[_]? = _
          rw [cut, if_neg (by omega), if_pos (by omega), show p * 3 + 1 - p * 3 = 1 by omega]
          rfl
        · show (_ ++ xs.drop (p * 3 + 3))[_]? = _
          rw [cut, if_neg (by omega), if_pos (by omega), show p * 3 + 2 - p * 3 = 2 by omega]
          rfl
        · rw [List.getElem_set_self]
          exact T.InP.keep hAp (by rw [hsize]; exact Nat.le_refl _) _ hvin
  · obtain ⟨z1, z2⟩ := h.zer H' hH'
    exact ⟨(hfar H' (fun e => z2.2 k hk (by rw [hob, e]))).trans z1, z2⟩
theorem run_storeVar_cell {P : Program} (w : World) (b o : Nat) (ty : TypeId) (v : Value) (ht : w.there b o 1) (hi : (P.info? ty).map (·.size) = some 1) (hv : v.cells = #[v]) (h1 : v.oneCell' = true) : (storeVar ty ⟨b, o, none⟩ v).run P w = .ok () (w.setCell ⟨b, o, none⟩ v) := by
  have := run_storeCells_cells (P := P) b o [v] 0 w (fun j hj => by simpa using (ht j (by simpa using hj)).1) (fun j hj => by simpa using (ht j (by simpa using hj)).2)
    (fun x hx => by obtain rfl : x = v := by simpa using hx
                    exact h1)
  cases hq : P.info? ty with
  | none => simp [hq] at hi
  | some i =>
    have hs : 1 = i.size := by simp [hq] at hi; omega
    simp only [Nat.add_zero, World.setCells] at this
    simp [storeVar, sizeOf, typeInfo, hq, hv, ← hs, this]
theorem op_kids_store {o : Oper} {a : Act} {K : Act → World → Prop} {Q : Exit → Act → World → Prop} (h : Kids3 w u X V ks ns hs) (x y : Operand) (k : Nat) (hk : k < 3) (ho : o.op = .store 27 x y) (hdst : o.dst = none)
    (A : Option Addr) (n c off : Nat) (hoff : off = 3 * k + 2) (hx : a.eval x = .pointer (some ⟨w.heap.size, off, none⟩)) (hy : a.eval y = .slice A n c)
    (hK : ∀ u', Kids3 w u' (upd X k (.slice A n c)) V ks ns hs → (∀ b, b ≠ w.heap.size → u'.heap[b]? = u.heap[b]?) → u'.heap.size = u.heap.size → K a u') : o.wp Tryz.prog a u K Q := by
  subst hoff
  have hfar : ∀ b, b ≠ w.heap.size → (u.setCell ⟨w.heap.size, 3 * k + 2, none⟩ (.slice A n c)).heap[b]? = u.heap[b]? := fun b hb => heap_setCell_other _ _ _ _ hb
  have hsize : (u.setCell ⟨w.heap.size, 3 * k + 2, none⟩ (.slice A n c)).heap.size = u.heap.size := by simp
  have hAp : ∀ b, b < u.heap.size → FreeB w V b → FreeB w V b ∧ (u.setCell ⟨w.heap.size, 3 * k + 2, none⟩ (.slice A n c)).heap[b]? = u.heap[b]? := fun b _ hp => ⟨hp, hfar b (by have := hp.1; omega)⟩
  have hth : u.there w.heap.size (3 * k + 2) 1 := fun j hj => ⟨by
    rw [Blk.cell h.box, Array.getElem?_eq_getElem (by show _ < 9; omega)]
    rfl, Blk.free h.box _⟩
  refine op_of_skip _ ?_ (by
    rw [hdst]
    refine hK _ ⟨?_, ?_, fun j hj => ?_, h.apart, fun p hp => T.InP.keep hAp (by rw [hsize]; exact Nat.le_refl _) _ (h.nodes p hp), fun H' hH' => ?_⟩ hfar hsize
    · exact h.bel.setCell (p := ⟨w.heap.size, 3 * k + 2, none⟩) (Nat.le_refl _) _
    · have := Blk.set h.box (3 * k + 2) (.slice A n c)
      rw [show tabC (upd X k (.slice A n c)) = (tabC X).setIfInBounds (3 * k + 2) (.slice A n c) from by
        rcases (show k = 0 ∨ k = 1 ∨ k = 2 by omega) with rfl | rfl | rfl <;> rfl]
      exact this
    · obtain ⟨ys, g1, g2⟩ := h.row j hj
      refine ⟨ys, ⟨g1.1, ?_⟩, fun i hi => ?_⟩
      · rcases g1.2 with h' | ⟨g', cap, cur, e, a1, a2, a3⟩
        · exact .inl h'
        · exact .inr ⟨g', cap, cur, e, a1, (hfar g' (by omega)).trans a2, a3⟩
      · obtain ⟨v0, v1, v2, e0, e1, e2, hin⟩ := g2 i hi
        exact ⟨v0, v1, v2, e0, e1, e2, T.InP.keep hAp (by rw [hsize]; exact Nat.le_refl _) _ hin⟩
    · obtain ⟨z1, z2⟩ := h.zer H' hH'
      exact ⟨(hfar H' (by have := z2.1; omega)).trans z1, z2⟩)
  unfold execOp
  simp only [ho, hx, hy, Instr.storeAt, Instr.sureAddr, Sem.run_bind, Sem.run_pure, Result.andThen_ok, run_storeVar_cell (P := Tryz.prog) u w.heap.size (3 * k + 2) 27 (.slice A n c) hth (by kernel_rfl) rfl rfl]
theorem Kids3.cell (h : Kids3 w u X V ks ns hs) {k : Nat} (hk : k < 3) : u.cell? ⟨w.heap.size, 3 * k + 2, none⟩ = some (X k) := by
  rw [Blk.cell h.box]
  rcases (show k = 0 ∨ k = 1 ∨ k = 2 by omega) with rfl | rfl | rfl <;> rfl
theorem Kids3.done (h : Kids3 w u V V ks ns hs) : (T.node 48 [] [.node 48 [] (ks 0), .node 48 [] (ks 1), .node 48 [] (ks 2)]).InP (w.heap.size ≤ ·) u (.agg #[.int .i64 48, .slice none 0 0, .slice (some ⟨w.heap.size, 0, none⟩) 3 3]) := by
  have one : ∀ k, k < 3 → (T.node 48 [] (ks k)).InP (w.heap.size ≤ ·) u (.agg #[.int .i64 48, .slice none 0 0, V k]) := by
    intro k hk
    obtain ⟨xs, hown, hks⟩ := h.row k hk
    unfold T.InP
    rcases hown.2 with ⟨e, h0⟩ | ⟨g', cap, cur, e, h1, h2, h3, h4, h5⟩
    · rw [e, show ks k = [] from List.eq_nil_of_length_eq_zero h0]
      exact ⟨none, 0, 0, none, 0, 0, rfl, rfl, Row.nil _ _, Nat.zero_le _, fun _ => rfl, rfl, Nat.zero_le _, fun h => absurd h (by omega), fun h => absurd h (by omega)⟩
    · refine ⟨none, 0, 0, some ⟨g', 0, none⟩, (ks k).length, cap, by rw [e], rfl, Row.nil _ _, Nat.zero_le _, fun _ => rfl, rfl, Nat.le_trans h3 h4, fun h => absurd h (by omega), fun _ => ⟨g', 0, rfl, (Array.getElem?_eq_some_iff.1 h2).1, by show w.heap.size ≤ g'; omega, T.InPAll.of fun i hi => ?_⟩⟩
      obtain ⟨u0, u1, u2, e0, e1, e2, hin'⟩ := hks i hi
      rw [e] at hown
      refine ⟨u0, u1, u2, ?_, ?_, ?_, T.InP.keep (fun b _ hp => ⟨Nat.le_of_lt hp.1, rfl⟩) (Nat.le_refl _) _ hin'⟩
      · rw [Nat.zero_add, hown.cellAt _ (by omega)]; exact e0
      · rw [Nat.zero_add, hown.cellAt _ (by omega)]; exact e1
      · rw [Nat.zero_add, hown.cellAt _ (by omega)]; exact e2
  unfold T.InP
  refine ⟨none, 0, 0, some ⟨w.heap.size, 0, none⟩, 3, 3, rfl, rfl, Row.nil _ _, Nat.zero_le _, fun _ => rfl, rfl, by unfold maxLen; omega, fun h => absurd h (by omega), fun _ => ⟨w.heap.size, 0, rfl, h.box.lt, Nat.le_refl _, T.InPAll.of fun i hi => ?_⟩⟩
  have hc := fun j => Blk.cell h.box j
  rcases (show i = 0 ∨ i = 1 ∨ i = 2 by simp only [List.length_cons, List.length_nil] at hi; omega) with rfl | rfl | rfl
  · exact ⟨_, _, _, hc 0, hc 1, hc 2, one 0 (by omega)⟩
  · exact ⟨_, _, _, hc 3, hc 4, hc 5, one 1 (by omega)⟩
  · exact ⟨_, _, _, hc 6, hc 7, hc 8, one 2 (by omega)⟩
theorem Kids3.form (h : Kids3 w u X V ks ns hs) {k : Nat} (hk : k < 3) : ∃ A c, V k = .slice A (ks k).length c := by
  obtain ⟨xs, h1, _⟩ := h.row k hk
  rcases h1.2 with ⟨e, h0⟩ | ⟨g, cap, cur, e, _⟩
  · exact ⟨none, 0, by rw [h0]; exact e⟩
  · exact ⟨_, cap, e⟩
theorem Kids3.start (w : World) : Kids3 w (w.alloc (.cells (tabC fun _ => .slice none 0 0) 29)) (fun _ => .slice none 0 0) (fun _ => .slice none 0 0) (fun _ => []) [] [] :=
  ⟨box_below _ _, Blk.new _ _ _, fun k _ => ⟨[], World.ownsRow_nil _ _ _ _, fun i h => absurd h (by simp)⟩, (fun _ _ _ _ _ _ e => by cases e), (fun p hp => by cases hp), (fun p hp => by cases hp)⟩
theorem Kids3.closed {ks' : Nat → List T} (h : Kids3 w u X V ks ns hs) (hX : X = V) (hk : ks = ks') : Kids3 w u V V ks' [] [] := by
  subst hX
  subst hk
  exact ⟨h.bel, h.box, h.row, h.apart, (fun p hp => by cases hp), (fun p hp => by cases hp)⟩
theorem yields_nodes {o : Oper} {a : Act} {W : World} (x : Operand) (ho : o.op = .load 27 x) (g off : Nat) (v : Value) (hx : a.eval x = .pointer (some ⟨g, off, none⟩)) (hc : W.cell? ⟨g, off, none⟩ = some v) : (execOp a.eval o).run Tryz.prog W = .ok (.value v) W := by
  have u3 := Tryz.underlying27
  unfold execOp
  simp only [ho, hx]
  go_simp
theorem op_kids_load {o : Oper} {a : Act} {K : Act → World → Prop} {Q : Exit → Act → World → Prop} (h : Kids3 w u X V ks ns hs) (x : Operand) (ho : o.op = .load 27 x) (k : Nat) (hk : k < 3) (off : Nat) (hoff : off = 3 * k + 2) (hx : a.eval x = .pointer (some ⟨w.heap.size, off, none⟩)) (v : Value) (hv : X k = v)
    (hK : K (a.put o.dst v) u) : o.wp Tryz.prog a u K Q := by
  subst hoff
  subst hv
  exact op_of_run _ _ (yields_nodes x ho _ _ _ hx (h.cell hk)) hK
theorem built_zero2 : Tryz.prog.builtSlice 29 2 [(0, .agg #[.int .i64 0, .slice none 0 0, .slice none 0 0]), (1, .agg #[.int .i64 0, .slice none 0 0, .slice none 0 0])] = some zero2 := by kernel_rfl
theorem op_kids_zero {o : Oper} {a : Act} {K : Act → World → Prop} {Q : Exit → Act → World → Prop} (h : Kids3 w u X V ks ns hs) (parts : Array (Nat × Operand)) (ho : o.op = .buildSlice 27 2 parts) (hps : (parts.map fun (i, x) => (i, a.eval x)).toList = [(0, .agg #[.int .i64 0, .slice none 0 0, .slice none 0 0]), (1, .agg #[.int .i64 0, .slice none 0 0, .slice none 0 0])])
    (hK : ∀ H u', Kids3 w u' X V ks ns (H :: hs) → Below u.heap.size u u' → K (a.put o.dst (.slice (some ⟨H, 0, none⟩) 2 2)) u') : o.wp Tryz.prog a u K Q :=
  op_buildSlice 27 29 2 parts ho Tryz.underlying27 _ _ built_zero2 hps (hK _ _ h.zero (box_below _ _))
theorem yields_nodeAt {o : Oper} {a : Act} {W : World} (x y : Operand) (ho : o.op = .indexAddr 27 x y) (g m c : Nat) (hx : a.eval x = .slice (some ⟨g, 0, none⟩) m c) (z : Int) (hy : a.eval y = .int .i64 z) (i : Nat) (hz : z = (i : Int)) (hi : i < m) : (execOp a.eval o).run Tryz.prog W = .ok (.value (.pointer (some ⟨g, i * 3, none⟩))) W := by
  subst hz
  have u3 := Tryz.underlying27
  have i0 : (0 : Int) ≤ (i : Int) := by omega
  have i1 : (i : Int) < (m : Int) := by omega
  unfold execOp
  simp only [ho, hx, hy]
  go_simp
end
theorem upd_upd {α : Type} (f : Nat → α) (k : Nat) (a b : α) : upd (upd f k a) k b = upd f k b := by
  funext j
  unfold upd
  split <;> rfl
theorem two_set {α : Type} (l : List α) (x y a b : α) (n : Nat) (hn : l.length = n) : ((l ++ [x, y]).set n a).set (n + 1) b = l ++ [a, b] := by
  subst hn
  rw [List.set_append_right _ _ (Nat.le_refl _), List.set_append_right _ _ (by omega), Nat.sub_self, show l.length + 1 - l.length = 1 by omega]
  rfl
theorem upd_three (f : Nat → List T) (k n : Nat) (hn : (f k).length = n) (a b : T) :
    upd (upd (upd f k (f k ++ [zeroT, zeroT])) k ((upd f k (f k ++ [zeroT, zeroT]) k).set n a)) k ((upd (upd f k (f k ++ [zeroT, zeroT])) k ((upd f k (f k ++ [zeroT, zeroT]) k).set n a) k).set (n + 1) b) = upd f k (f k ++ [a, b]) := by
  rw [upd_upd, upd_at, upd_upd, upd_at, two_set _ _ _ _ _ _ hn]
end Go.Proofs.YtlmndmfebgaidaaGreatDoor
namespace Go.Proofs.YtlmndmfebgaidaaGreatDoor
open Go.RowKit
set_option linter.unusedVariables false
set_option linter.unusedSimpArgs false
set_option maxRecDepth 100000
def Over (B : Nat) (a b : World) : Prop := a.heap.size ≤ b.heap.size ∧ ∀ k, B ≤ k → k < a.heap.size → b.heap[k]? = a.heap[k]?
theorem Over.refl (B : Nat) (a : World) : Over B a a := ⟨Nat.le_refl _, fun _ _ _ => rfl⟩
theorem Over.step {B : Nat} {a b c : World} (h : Over B a b) (k : Over B b c) : Over B a c := ⟨Nat.le_trans h.1 k.1, fun x h1 h2 => (k.2 x h1 (Nat.lt_of_lt_of_le h2 h.1)).trans (h.2 x h1 h2)⟩
theorem Over.below {B : Nat} {a b : World} (h : Below a.heap.size a b) : Over B a b := ⟨h.size, fun x _ h2 => h.block x h2⟩
theorem Over.cell {B g j : Nat} (a : World) (v : Value) (hg : g < B) : Over B a (a.setCell ⟨g, j, none⟩ v) := ⟨by simp, fun x h1 _ => heap_setCell_other a ⟨g, j, none⟩ x v (by show x ≠ g; omega)⟩
theorem Over.rowS {B g : Nat} (a : World) (cs : Array Value) (hg : g < B) : Over B a (a.setRow g cs) := ⟨by unfold World.setRow; simp, fun x h1 _ => setRow_other a g x cs (by omega)⟩
def SpFar (B : Nat) (w : World) (a : Option Addr) (n c : Nat) (L : List SpanZ) : Prop := SpArg w a n c L ∧ (0 < n → ∃ b off, a = some ⟨b, off, none⟩ ∧ B ≤ b)
theorem SpFar.over {B : Nat} {w W : World} {a : Option Addr} {n c : Nat} {L : List SpanZ} (h : SpFar B w a n c L) (ho : Over B w W) : SpFar B W a n c L := by
  refine ⟨⟨⟨h.1.1.1, h.1.1.2.1, fun h0 => ?_⟩, h.1.2⟩, h.2⟩
  obtain ⟨b, off, e, hlt, hc⟩ := h.1.1.2.2 h0
  obtain ⟨b', off', e', hB⟩ := h.2 h0
  rw [e] at e'
  obtain ⟨rfl, rfl⟩ : b = b' ∧ off = off' := by simpa using e'
  exact ⟨b, off, e, Nat.lt_of_lt_of_le hlt ho.1, fun i hi => (World.cell?_of_block (a := ⟨b, off + i, none⟩) (ho.2 b hB hlt)).trans (hc i hi)⟩
def RgFar (B : Nat) (w : World) (a : Option Addr) (n c : Nat) (L : List (Nat × Nat)) : Prop := RgArg w a n c L ∧ (0 < n → ∃ b off, a = some ⟨b, off, none⟩ ∧ B ≤ b)
theorem RgFar.over {B : Nat} {w W : World} {a : Option Addr} {n c : Nat} {L : List (Nat × Nat)} (h : RgFar B w a n c L) (ho : Over B w W) : RgFar B W a n c L := by
  refine ⟨⟨⟨h.1.1.1, h.1.1.2.1, fun h0 => ?_⟩, h.1.2⟩, h.2⟩
  obtain ⟨b, off, e, hlt, hc⟩ := h.1.1.2.2 h0
  obtain ⟨b', off', e', hB⟩ := h.2 h0
  rw [e] at e'
  obtain ⟨rfl, rfl⟩ : b = b' ∧ off = off' := by simpa using e'
  exact ⟨b, off, e, Nat.lt_of_lt_of_le hlt ho.1, fun i hi => (World.cell?_of_block (a := ⟨b, off + i, none⟩) (ho.2 b hB hlt)).trans (hc i hi)⟩
theorem SpOut.farB {W0 wr : World} {V : Value} {L : List SpanZ} {B : Nat} (h : SpOut W0 wr V L) (hB : B ≤ W0.heap.size) : ∃ a c, V = .slice a L.length c ∧ SpFar B wr a L.length c L := by
  obtain ⟨a, c, rfl, hr⟩ := h.arg
  refine ⟨a, c, rfl, hr, fun h0 => ?_⟩
  rcases h.form with ⟨e, e2⟩ | ⟨g, cap, e, h1, _⟩
  · rw [e2] at h0
    exact absurd h0 (by simp)
  · injection e with e1 e2 e3
    exact ⟨g, 0, e1, by omega⟩
theorem RgOut.farB {W0 wr : World} {V : Value} {L : List (Nat × Nat)} {B : Nat} (h : RgOut W0 wr V L) (hB : B ≤ W0.heap.size) : ∃ a c, V = .slice a L.length c ∧ RgFar B wr a L.length c L := by
  obtain ⟨a, c, rfl, hr⟩ := h.arg
  refine ⟨a, c, rfl, hr, fun h0 => ?_⟩
  rcases h.form with ⟨e, e2⟩ | ⟨g, cap, e, h1, _⟩
  · rw [e2] at h0
    exact absurd h0 (by simp)
  · injection e with e1 e2 e3
    exact ⟨g, 0, e1, by omega⟩
theorem SpFar.mono {B C : Nat} {w : World} {a : Option Addr} {n c : Nat} {L : List SpanZ} (h : SpFar B w a n c L) (hC : C ≤ B) : SpFar C w a n c L := ⟨h.1, fun h0 => by
  obtain ⟨b, off, e, hb⟩ := h.2 h0
  exact ⟨b, off, e, Nat.le_trans hC hb⟩⟩
theorem RgFar.mono {B C : Nat} {w : World} {a : Option Addr} {n c : Nat} {L : List (Nat × Nat)} (h : RgFar B w a n c L) (hC : C ≤ B) : RgFar C w a n c L := ⟨h.1, fun h0 => by
  obtain ⟨b, off, e, hb⟩ := h.2 h0
  exact ⟨b, off, e, Nat.le_trans hC hb⟩⟩
def GivesOwn (r : ResZ) (w : World) (e : Ending) (w' : World) : Prop := ∃ a n c b m d, e = .returned (.agg (resC r.inh (.slice a n c) (.slice b m d))) ∧ SpFar w.heap.size w' a n c r.sp ∧ RgFar w.heap.size w' b m d r.ns ∧ Below w.heap.size w w'
theorem GivesRes.row2 {fn : Func} {w W : World} {x : ResZ × Int} {tmps : Array Value} {p u : Tmp} {g B : Nat} {o : Bool} {a : Option Addr} {n c : Nat} {b : Option Addr} {m d : Nat} {y' z' : Value} {er : Int} {i : Bool} (hr : fn.results = #[.cell p 25, .tmp u]) (hp : tmps.getD p undef = .pointer (some ⟨g, 0, none⟩)) (hu : tmps.getD u undef = .int .i64 er) (he : x.2 = er) (hi : x.1.inh = i)
    (hg : Blk W g 25 (resC o y' z')) (hs : SpFar B W a n c x.1.sp) (ht : RgFar B W b m d x.1.ns) (hB : g < B) (hb : Below w.heap.size w W) (hl : w.heap.size ≤ g) :
    bodyPost Tryz.prog fn (GivesRes x w) .ret { tmps := tmps, defers := [] } (W.setRow g (resC i (.slice a n c) (.slice b m d))) := by
  subst hi
  have ov := Over.rowS (B := B) W (resC x.1.inh (.slice a n c) (.slice b m d)) hB
  refine bodyPost_ret (results_row_val hr tmps _ g 25 (resC x.1.inh (.slice a n c) (.slice b m d)) (0, 0) _ hp (setRow_heap _ _ _ _ 25 _ hg) Tryz.underlying25 rfl (Tryz.sizeRes _ _ _)) rfl ⟨_, ?_, ⟨_, _, _, _, _, _, rfl, (hs.over ov).1, (ht.over ov).1⟩, below_setRow hb hl _⟩
  rw [hu, he]
theorem ExtB.cellS (g j : Nat) (w : World) (v : Value) : ExtB g w (w.setCell ⟨g, j, none⟩ v) := Below.setCell (Below.refl g w) (p := ⟨g, j, none⟩) (Nat.le_refl _) v
theorem op_store_cell {o : Oper} {a : Act} {w : World} {K : Act → World → Prop} {Q : Exit → Act → World → Prop} (T : TypeId) (x y : Operand) (ho : o.op = .store T x y) (hdst : o.dst = none) (g j : Nat) (v : Value) {ty : TypeId} {cs : Array Value} (hx : a.eval x = .pointer (some ⟨g, j, none⟩)) (hy : a.eval y = v) (hb : Blk w g ty cs) (hj : j < cs.size)
    (hi : (Tryz.prog.info? T).map (·.size) = some 1) (hv : v.cells = #[v]) (h1 : v.oneCell' = true) (hK : K a (w.setCell ⟨g, j, none⟩ v)) : o.wp Tryz.prog a w K Q := by
  have hth : w.there g j 1 := fun i hi => ⟨by
    rw [Blk.cell hb, Array.getElem?_eq_getElem (by omega)]
    rfl, Blk.free hb _⟩
  refine op_of_skip _ ?_ (by rw [hdst]; exact hK)
  unfold execOp
  simp only [ho, hx, hy, Instr.storeAt, Instr.sureAddr, Sem.run_bind, Sem.run_pure, Result.andThen_ok, run_storeVar_cell (P := Tryz.prog) w g j T v hth hi hv h1]
set_option maxHeartbeats 4000000 in
theorem clone13_any (r : ResZ) (v : Value) (w : World) (h : ResAt w v r) (hl : r.sp.length ≤ 40000) (hm : r.ns.length ≤ 40000) : Calls Tryz.prog 45 #[v] w (GivesOwn r w) := by
  obtain ⟨a, n, c, b, m, d, rfl, h1, h2⟩ := h
  have hn' := h1.1.1
  have hm' := h2.1.1
  have K0 := (Blk.alloc (Blk.new w 25 (resC r.inh (.slice a n c) (.slice b m d))) (.cells #[.bool false, .slice none 0 0, .slice none 0 0] 25))
  have K1 := (Blk.new (w.alloc (.cells (resC r.inh (.slice a n c) (.slice b m d)) 25)) 25 #[.bool false, .slice none 0 0, .slice none 0 0])
  rw [show (w.alloc (.cells (resC r.inh (.slice a n c) (.slice b m d)) 25)).heap.size = w.heap.size + 1 by simp] at K1
  have bw := (Below.step (boxR_below w (.cells (resC r.inh (.slice a n c) (.slice b m d)) 25)) (boxR_below (w.alloc (.cells (resC r.inh (.slice a n c) (.slice b m d)) 25)) (.cells #[.bool false, .slice none 0 0, .slice none 0 0] 25)))
  have HS : Hid (((w.alloc (.cells (resC r.inh (.slice a n c) (.slice b m d)) 25)).alloc (.cells #[.bool false, .slice none 0 0, .slice none 0 0] 25)).heap.size = w.heap.size + 1 + 1) := Lib.hid (by simp)
  have BW := Lib.hid bw
  have SA := Lib.hid (h1.below bw)
  have RA := Lib.hid (h2.below bw)
  have CC := Lib.hid (fun W (h : SpArg W a n c r.sp) => cloneS_any a n c r.sp W h.1 h.2 (by omega))
  have CD := Lib.hid (fun W (h : RgArg W b m d r.ns) => cloneR_any b m d r.ns W h.1 h.2 (by omega))
  generalize hw2 : ((w.alloc (.cells (resC r.inh (.slice a n c) (.slice b m d)) 25)).alloc (.cells #[.bool false, .slice none 0 0, .slice none 0 0] 25)) = w2 at *
  obtain ⟨g, hg⟩ : ∃ g, w.heap.size = g := ⟨_, rfl⟩
  have HG := Lib.hid hg
  rw [hg] at HS K0 K1
  have XB := Lib.hid K0
  have ZB : Hid (Blk w2 (g + 1) 25 (resC false (.slice none 0 0) (.slice none 0 0))) := Lib.hid K1
  clear K0 K1 h1 h2 hl hm bw
  obtain ⟨i, X, Y⟩ := r
  simp only at *
  subst hn'
  subst hm'
  go_enter Tryz.func45, Tryz.ntmps45
  go_upto_region 1 with fail
  clear hw2
  have D1 := drewN_below w2 1
  replace BW := Lib.hid (Below.step BW.out D1)
  replace XB := Lib.hid (XB.out.below D1 XB.out.lt)
  replace ZB := Lib.hid (ZB.out.below D1 ZB.out.lt)
  replace SA := Lib.hid (SA.out.below D1)
  replace RA := Lib.hid (RA.out.below D1)
  have HS2 : Hid (g + 2 ≤ (w2.drewN 1).heap.size) := Lib.hid (by have := D1.size; have := HS.out; omega)
  clear D1 HS
  refine wp_region_plan (ExtB g) (ExtB.refl _) ExtB.trans (.take 0 (.take 3 (.fork 1 (.fork 2 (.sole 4 (.take 6 (.sole 5 (.sole 7 (.take 8 (.sole 9 .fin)))))) 4 (.sole 2 (.take 6 (.sole 5 (.sole 7 (.take 8 (.sole 9 .fin))))))) 4 (.sole 1 (.sole 2 (.take 6 (.sole 5 (.sole 7 (.take 8 (.sole 9 .fin)))))))))) (by kernel_rfl) (by kernel_rfl) rfl (by kernel_rfl) (fun _ _ _ _ _ h => h) ?_
  change wpPlan _ _ _ _ _ _ (w2.drewN 1)
  generalize w2.drewN 1 = w3 at *
  repeat' (first
    | (refine plan_take _ rfl (by rfl) (fun W hW => by go_simp; first | done | rfl) ?_; simp only [Act.put, List.setIfInBounds_toArray, List.set_cons_zero, List.set_cons_succ])
    | (refine plan_fork ?_ ?_)
    | ((first | refine plan_sole (sole_take rfl (by rfl) (fun K1 hK1 => ?_)) | refine sole_take rfl (by rfl) (fun K1 hK1 => ?_))
       refine op_of_run _ _ (yields_spans (.tmp 3) rfl g 1 (.slice a X.length c) rfl (Blk.cell XB.out 1)) ?_
       refine hK1 _ _ (ExtB.refl _ _) ?_
       clear hK1 K1
       try simp only [Act.put, List.setIfInBounds_toArray, List.set_cons_zero, List.set_cons_succ])
    | ((first | refine plan_sole (sole_take rfl (by rfl) (fun K1 hK1 => ?_)) | refine sole_take rfl (by rfl) (fun K1 hK1 => ?_))
       refine op_of_run _ _ (yields_ranges (.tmp 6) rfl g 2 (.slice b Y.length d) rfl (Blk.cell XB.out 2)) ?_
       refine hK1 _ _ (ExtB.refl _ _) ?_
       clear hK1 K1
       try simp only [Act.put, List.setIfInBounds_toArray, List.set_cons_zero, List.set_cons_succ])
    | ((first | refine plan_sole (sole_take rfl (by rfl) (fun K1 hK1 => ?_)) | refine sole_take rfl (by rfl) (fun K1 hK1 => ?_))
       refine op_store_cell 22 (.tmp 9) (.tmp 5) rfl rfl g 1 (.slice a5 X.length c5) rfl rfl XB.out (show 1 < 3 by decide) (by kernel_rfl) rfl rfl ?_
       refine hK1 _ _ (ExtB.cellS _ _ _ _) ?_
       clear hK1 K1
       have X7 := Lib.hid (Blk.set XB.out 1 (.slice a5 X.length c5))
       have Z7 := Lib.hid (show Blk _ (g + 1) _ _ from (heap_setCell_other w6 ⟨g, 1, none⟩ (g + 1) (.slice a5 X.length c5) (by show g + 1 ≠ g; omega)).trans ZB.out)
       replace F5 := Lib.hid (F5.out.over (Over.cell (j := 1) w6 (.slice a5 X.length c5) (Nat.lt_add_of_pos_right (n := g) (k := 2) (by decide))))
       replace F6 := Lib.hid (F6.out.over (Over.cell (j := 1) w6 (.slice a5 X.length c5) (Nat.lt_add_of_pos_right (n := g) (k := 2) (by decide))))
       replace BW := Lib.hid (Below.setCell BW.out (p := ⟨g, 1, none⟩) (Nat.le_of_eq HG.out) (.slice a5 X.length c5))
       clear XB ZB SA RA HS2
       generalize w6.setCell ⟨g, 1, none⟩ (.slice a5 X.length c5) = w7 at *
       try simp only [Act.put, List.setIfInBounds_toArray, List.set_cons_zero, List.set_cons_succ])
    | ((first | refine plan_sole (sole_take rfl (by rfl) (fun K1 hK1 => ?_)) | refine sole_take rfl (by rfl) (fun K1 hK1 => ?_))
       refine op_store_cell 23 (.tmp 10) (.tmp 8) rfl rfl g 2 (.slice a6 Y.length c6) rfl rfl X7.out (show 2 < 3 by decide) (by kernel_rfl) rfl rfl ?_
       refine hK1 _ _ (ExtB.cellS _ _ _ _) ?_
       clear hK1 K1
       have X8 : Hid (Blk (w7.setCell ⟨g, 2, none⟩ (.slice a6 Y.length c6)) g 25 (resC i (.slice a5 X.length c5) (.slice a6 Y.length c6))) := Lib.hid (Blk.set X7.out 2 (.slice a6 Y.length c6))
       have Z8 := Lib.hid (show Blk _ (g + 1) _ _ from (heap_setCell_other w7 ⟨g, 2, none⟩ (g + 1) (.slice a6 Y.length c6) (by show g + 1 ≠ g; omega)).trans Z7.out)
       replace F5 := Lib.hid (F5.out.over (Over.cell (j := 2) w7 (.slice a6 Y.length c6) (Nat.lt_add_of_pos_right (n := g) (k := 2) (by decide))))
       replace F6 := Lib.hid (F6.out.over (Over.cell (j := 2) w7 (.slice a6 Y.length c6) (Nat.lt_add_of_pos_right (n := g) (k := 2) (by decide))))
       replace BW := Lib.hid (Below.setCell BW.out (p := ⟨g, 2, none⟩) (Nat.le_of_eq HG.out) (.slice a6 Y.length c6))
       clear X7 Z7
       generalize w7.setCell ⟨g, 2, none⟩ (.slice a6 Y.length c6) = w8 at *
       try simp only [Act.put, List.setIfInBounds_toArray, List.set_cons_zero, List.set_cons_succ])
    | ((first | refine plan_sole (sole_take rfl (by rfl) (fun K1 hK1 => ?_)) | refine sole_take rfl (by rfl) (fun K1 hK1 => ?_))
       go_simp
       refine (CC.out _ SA.out).mono ?_
       rintro e w5 ⟨V5, rfl, ho5⟩
       have hb5 := ho5.2.1
       obtain ⟨a5, c5, rfl, hf5⟩ := ho5.farB HS2.out
       refine hK1 _ _ (hb5.mono (Nat.le_trans (Nat.le_add_right _ 2) HS2.out)) ?_
       clear hK1 K1
       have F5 := Lib.hid hf5
       replace BW := Lib.hid (Below.step BW.out hb5)
       replace XB := Lib.hid (XB.out.below hb5 XB.out.lt)
       replace ZB := Lib.hid (ZB.out.below hb5 ZB.out.lt)
       replace SA := Lib.hid (SA.out.below hb5)
       replace RA := Lib.hid (RA.out.below hb5)
       replace HS2 := Lib.hid (Nat.le_trans HS2.out hb5.size)
       clear hb5 hf5 ho5 CC
       try simp only [Act.put, List.setIfInBounds_toArray, List.set_cons_zero, List.set_cons_succ])
    | ((first | refine plan_sole (sole_take rfl (by rfl) (fun K1 hK1 => ?_)) | refine sole_take rfl (by rfl) (fun K1 hK1 => ?_))
       go_simp
       refine (CD.out _ RA.out).mono ?_
       rintro e w6 ⟨V6, rfl, ho6⟩
       have hb6 := ho6.2.1
       obtain ⟨a6, c6, rfl, hf6⟩ := ho6.farB HS2.out
       refine hK1 _ _ (hb6.mono (Nat.le_trans (Nat.le_add_right _ 2) HS2.out)) ?_
       clear hK1 K1
       have F6 := Lib.hid hf6
       replace F5 := Lib.hid (F5.out.over (Over.below hb6))
       replace BW := Lib.hid (Below.step BW.out hb6)
       replace XB := Lib.hid (XB.out.below hb6 XB.out.lt)
       replace ZB := Lib.hid (ZB.out.below hb6 ZB.out.lt)
       replace SA := Lib.hid (SA.out.below hb6)
       replace RA := Lib.hid (RA.out.below hb6)
       replace HS2 := Lib.hid (Nat.le_trans HS2.out hb6.size)
       clear hb6 hf6 ho6 CD
       try simp only [Act.put, List.setIfInBounds_toArray, List.set_cons_zero, List.set_cons_succ])
    | refine plan_end ?_)
  all_goals (
    go_wp2_with (first
      | (refine load_res_any (by rfl) (.tmp 1) rfl g rfl X8.out ?_)
      | ((with_reducible refine store_res_at 2 11 (g + 1) i a5 X.length c5 a6 Y.length c6 false (.slice none 0 0) (.slice none 0 0) ?_ ?_ Z8.out ?_); (· rfl); (· rfl)))
    have ov := Over.rowS (B := g + 2) (g := g + 1) w8 (resC i (.slice a5 X.length c5) (.slice a6 Y.length c6)) (by omega)
    exact bodyPost_ret (results_cell_row rfl _ _ (g + 1) 25 (resC i (.slice a5 X.length c5) (.slice a6 Y.length c6)) (0, 0) _ rfl (setRow_heap _ _ _ _ 25 _ Z8.out) Tryz.underlying25 rfl (Tryz.sizeRes _ _ _)) rfl ⟨_, _, _, _, _, _, rfl, (F5.out.over ov).mono (by have := HG.out; omega), (F6.out.over ov).mono (by have := HG.out; omega), below_setRow BW.out (by have := HG.out; omega) _⟩)
set_option maxHeartbeats 4000000 in
theorem resolve13_any (x y : ResZ) (u v : Value) (w : World) (hx : ResAt w u x) (hy : ResAt w v y) (lx : x.sp.length ≤ 10000 ∧ x.ns.length ≤ 10000) (ly : y.sp.length ≤ 10000 ∧ y.ns.length ≤ 10000) : Calls Tryz.prog 19 #[u, v] w (GivesRes (resolveR x y) w) := by
  have AX := Lib.hid hx
  have AY := Lib.hid hy
  obtain ⟨ax, nx, cx, bx, mx, dx, rfl, h1, h2⟩ := hx
  obtain ⟨ay, ny, cy, oy, my, dy, rfl, k1, k2⟩ := hy
  have hn := h1.1.1
  have hm := h2.1.1
  have hn' := k1.1.1
  have hm' := k2.1.1
  have K0 := (Blk.alloc (Blk.alloc (Blk.new w 25 (resC x.inh (.slice ax nx cx) (.slice bx mx dx))) (.cells (resC y.inh (.slice ay ny cy) (.slice oy my dy)) 25)) (.cells #[.bool false, .slice none 0 0, .slice none 0 0] 25))
  have K1 := (Blk.alloc (Blk.new (w.alloc (.cells (resC x.inh (.slice ax nx cx) (.slice bx mx dx)) 25)) 25 (resC y.inh (.slice ay ny cy) (.slice oy my dy))) (.cells #[.bool false, .slice none 0 0, .slice none 0 0] 25))
  rw [show (w.alloc (.cells (resC x.inh (.slice ax nx cx) (.slice bx mx dx)) 25)).heap.size = w.heap.size + 1 by simp] at K1
  have K2 := (Blk.new ((w.alloc (.cells (resC x.inh (.slice ax nx cx) (.slice bx mx dx)) 25)).alloc (.cells (resC y.inh (.slice ay ny cy) (.slice oy my dy)) 25)) 25 #[.bool false, .slice none 0 0, .slice none 0 0])
  rw [show ((w.alloc (.cells (resC x.inh (.slice ax nx cx) (.slice bx mx dx)) 25)).alloc (.cells (resC y.inh (.slice ay ny cy) (.slice oy my dy)) 25)).heap.size = w.heap.size + 1 + 1 by simp] at K2
  have bw := (Below.step (Below.step (boxR_below w (.cells (resC x.inh (.slice ax nx cx) (.slice bx mx dx)) 25)) (boxR_below (w.alloc (.cells (resC x.inh (.slice ax nx cx) (.slice bx mx dx)) 25)) (.cells (resC y.inh (.slice ay ny cy) (.slice oy my dy)) 25))) (boxR_below ((w.alloc (.cells (resC x.inh (.slice ax nx cx) (.slice bx mx dx)) 25)).alloc (.cells (resC y.inh (.slice ay ny cy) (.slice oy my dy)) 25)) (.cells #[.bool false, .slice none 0 0, .slice none 0 0] 25)))
  have HS : Hid ((((w.alloc (.cells (resC x.inh (.slice ax nx cx) (.slice bx mx dx)) 25)).alloc (.cells (resC y.inh (.slice ay ny cy) (.slice oy my dy)) 25)).alloc (.cells #[.bool false, .slice none 0 0, .slice none 0 0] 25)).heap.size = w.heap.size + 1 + 1 + 1) := Lib.hid (by simp)
  have BW := Lib.hid bw
  have Q1 : Hid (∀ W, Below w.heap.size w W → Calls Tryz.prog 17 #[.agg (resC x.inh (.slice ax nx cx) (.slice bx mx dx))] W (fun e w' => e = .returned (.bool (rightR x)) ∧ Below W.heap.size W w')) := Lib.hid (fun W h => right13_any x _ W (AX.out.below h) (by omega) (by omega))
  have Q2 : Hid (∀ W, Below w.heap.size w W → Calls Tryz.prog 17 #[.agg (resC y.inh (.slice ay ny cy) (.slice oy my dy))] W (fun e w' => e = .returned (.bool (rightR y)) ∧ Below W.heap.size W w')) := Lib.hid (fun W h => right13_any y _ W (AY.out.below h) (by omega) (by omega))
  have C1 : Hid (∀ W, Below w.heap.size w W → Calls Tryz.prog 45 #[.agg (resC x.inh (.slice ax nx cx) (.slice bx mx dx))] W (GivesOwn x W)) := Lib.hid (fun W h => clone13_any x _ W (AX.out.below h) (by omega) (by omega))
  have C2 : Hid (∀ W, Below w.heap.size w W → Calls Tryz.prog 45 #[.agg (resC y.inh (.slice ay ny cy) (.slice oy my dy))] W (GivesOwn y W)) := Lib.hid (fun W h => clone13_any y _ W (AY.out.below h) (by omega) (by omega))
  have Q3 := Lib.hid (fun W (h : Below w.heap.size w W) => within_any ax ay nx cx ny cy x.sp y.sp W (h1.below h).1 h1.2 (by omega) (k1.below h).1 k1.2 (by omega))
  have Q4 := Lib.hid (fun W (h : Below w.heap.size w W) => pkWithin_of (pkJoin_of pkSorted) bx oy mx my dx dy x.ns y.ns W (h2.below h) (by omega) (k2.below h) (by omega))
  have ER : Hid (resolveR x y = if rightR x = true ∧ rightR y = true ∧ y.inh = false then (if x.inh = true then (y, 0) else if inS x.sp y.sp = true ∧ inN x.ns y.ns = true then (x, 0) else (zeroRes, 9)) else (zeroRes, 1)) := Lib.hid rfl
  have AZ := Lib.hid (ResAt.zero w)
  generalize hw2 : (((w.alloc (.cells (resC x.inh (.slice ax nx cx) (.slice bx mx dx)) 25)).alloc (.cells (resC y.inh (.slice ay ny cy) (.slice oy my dy)) 25)).alloc (.cells #[.bool false, .slice none 0 0, .slice none 0 0] 25)) = w2 at *
  obtain ⟨g, hg⟩ : ∃ g, w.heap.size = g := ⟨_, rfl⟩
  have HG := Lib.hid hg
  rw [hg] at HS K0 K1 K2
  have XB := Lib.hid K0
  have YB := Lib.hid K1
  have ZB : Hid (Blk w2 (g + 1 + 1) 25 (resC false (.slice none 0 0) (.slice none 0 0))) := Lib.hid K2
  clear K0 K1 K2 h1 h2 k1 k2 bw hn hm hn' hm' lx ly AX AY HS
  generalize resolveR x y = z at *
  generalize rightR x = r1 at *
  generalize rightR y = r2 at *
  generalize inS x.sp y.sp = i1 at *
  generalize inN x.ns y.ns = i2 at *
  generalize hxi : x.inh = ix at *
  generalize hyi : y.inh = iy at *
  have HXI := Lib.hid hxi
  have HYI := Lib.hid hyi
  clear hxi hyi
  go_enter Tryz.func19, Tryz.ntmps19
  go_upto_region 1 with fail
  clear hw2
  cases r1 with
  | false =>
    have E2 : Hid (z = (zeroRes, 1)) := Lib.hid (by rw [ER.out, if_neg (by simp)])
    clear ER Q2 Q3 Q4 C1 C2
    have x0w2 : w2.cell? ⟨g, 0, none⟩ = some (.bool ix) := Blk.cell XB.out 0
    have x1w2 : w2.cell? ⟨g, 1, none⟩ = some (.slice ax nx cx) := Blk.cell XB.out 1
    have x2w2 : w2.cell? ⟨g, 2, none⟩ = some (.slice bx mx dx) := Blk.cell XB.out 2
    have y0w2 : w2.cell? ⟨g + 1, 0, none⟩ = some (.bool iy) := Blk.cell YB.out 0
    have y1w2 : w2.cell? ⟨g + 1, 1, none⟩ = some (.slice ay ny cy) := Blk.cell YB.out 1
    have y2w2 : w2.cell? ⟨g + 1, 2, none⟩ = some (.slice oy my dy) := Blk.cell YB.out 2
    go_wp2_with (first
      | (refine load_res_any (by rfl) (.tmp 2) rfl g rfl XB.out ?_)
      | (refine load_res_any (by rfl) (.tmp 3) rfl (g + 1) rfl YB.out ?_)
      | (go_at_call 17
         refine (Q1.out _ BW.out).mono ?_
         rintro r v1 ⟨rfl, hb1⟩
         replace BW := Lib.hid (Below.step BW.out hb1)
         replace XB := Lib.hid (XB.out.below hb1 XB.out.lt)
         replace YB := Lib.hid (YB.out.below hb1 YB.out.lt)
         replace ZB := Lib.hid (ZB.out.below hb1 ZB.out.lt)
         have x0v1 : v1.cell? ⟨g, 0, none⟩ = some (.bool ix) := Blk.cell XB.out 0
         have x1v1 : v1.cell? ⟨g, 1, none⟩ = some (.slice ax nx cx) := Blk.cell XB.out 1
         have x2v1 : v1.cell? ⟨g, 2, none⟩ = some (.slice bx mx dx) := Blk.cell XB.out 2
         have y0v1 : v1.cell? ⟨g + 1, 0, none⟩ = some (.bool iy) := Blk.cell YB.out 0
         have y1v1 : v1.cell? ⟨g + 1, 1, none⟩ = some (.slice ay ny cy) := Blk.cell YB.out 1
         have y2v1 : v1.cell? ⟨g + 1, 2, none⟩ = some (.slice oy my dy) := Blk.cell YB.out 2
         clear hb1 Q1)
      | ((with_reducible refine store_res_at 4 19 (g + 1 + 1) false none 0 0 none 0 0 false (.slice none 0 0) (.slice none 0 0) ?_ ?_ ZB.out ?_); (· rfl); (· rfl)))
    exact GivesRes.row (p := 4) (u := 5) (er := 1) rfl rfl rfl (by rw [E2.out]) ZB.out (by rw [E2.out]; exact AZ.out) BW.out (by have := HG.out; omega)
  | true =>
    cases r2 with
    | false =>
      have E2 : Hid (z = (zeroRes, 1)) := Lib.hid (by rw [ER.out, if_neg (by simp)])
      clear ER Q3 Q4 C1 C2
      have x0w2 : w2.cell? ⟨g, 0, none⟩ = some (.bool ix) := Blk.cell XB.out 0
      have x1w2 : w2.cell? ⟨g, 1, none⟩ = some (.slice ax nx cx) := Blk.cell XB.out 1
      have x2w2 : w2.cell? ⟨g, 2, none⟩ = some (.slice bx mx dx) := Blk.cell XB.out 2
      have y0w2 : w2.cell? ⟨g + 1, 0, none⟩ = some (.bool iy) := Blk.cell YB.out 0
      have y1w2 : w2.cell? ⟨g + 1, 1, none⟩ = some (.slice ay ny cy) := Blk.cell YB.out 1
      have y2w2 : w2.cell? ⟨g + 1, 2, none⟩ = some (.slice oy my dy) := Blk.cell YB.out 2
      go_wp2_with (first
        | (refine load_res_any (by rfl) (.tmp 2) rfl g rfl XB.out ?_)
        | (refine load_res_any (by rfl) (.tmp 3) rfl (g + 1) rfl YB.out ?_)
        | (go_at_call 17
           refine (Q1.out _ BW.out).mono ?_
           rintro r v1 ⟨rfl, hb1⟩
           replace BW := Lib.hid (Below.step BW.out hb1)
           replace XB := Lib.hid (XB.out.below hb1 XB.out.lt)
           replace YB := Lib.hid (YB.out.below hb1 YB.out.lt)
           replace ZB := Lib.hid (ZB.out.below hb1 ZB.out.lt)
           have x0v1 : v1.cell? ⟨g, 0, none⟩ = some (.bool ix) := Blk.cell XB.out 0
           have x1v1 : v1.cell? ⟨g, 1, none⟩ = some (.slice ax nx cx) := Blk.cell XB.out 1
           have x2v1 : v1.cell? ⟨g, 2, none⟩ = some (.slice bx mx dx) := Blk.cell XB.out 2
           have y0v1 : v1.cell? ⟨g + 1, 0, none⟩ = some (.bool iy) := Blk.cell YB.out 0
           have y1v1 : v1.cell? ⟨g + 1, 1, none⟩ = some (.slice ay ny cy) := Blk.cell YB.out 1
           have y2v1 : v1.cell? ⟨g + 1, 2, none⟩ = some (.slice oy my dy) := Blk.cell YB.out 2
           clear hb1 Q1)
        | (go_at_call 17
           refine (Q2.out _ BW.out).mono ?_
           rintro r v2 ⟨rfl, hb2⟩
           replace BW := Lib.hid (Below.step BW.out hb2)
           replace XB := Lib.hid (XB.out.below hb2 XB.out.lt)
           replace YB := Lib.hid (YB.out.below hb2 YB.out.lt)
           replace ZB := Lib.hid (ZB.out.below hb2 ZB.out.lt)
           have x0v2 : v2.cell? ⟨g, 0, none⟩ = some (.bool ix) := Blk.cell XB.out 0
           have x1v2 : v2.cell? ⟨g, 1, none⟩ = some (.slice ax nx cx) := Blk.cell XB.out 1
           have x2v2 : v2.cell? ⟨g, 2, none⟩ = some (.slice bx mx dx) := Blk.cell XB.out 2
           have y0v2 : v2.cell? ⟨g + 1, 0, none⟩ = some (.bool iy) := Blk.cell YB.out 0
           have y1v2 : v2.cell? ⟨g + 1, 1, none⟩ = some (.slice ay ny cy) := Blk.cell YB.out 1
           have y2v2 : v2.cell? ⟨g + 1, 2, none⟩ = some (.slice oy my dy) := Blk.cell YB.out 2
           clear hb2 Q2)
        | ((with_reducible refine store_res_at 4 19 (g + 1 + 1) false none 0 0 none 0 0 false (.slice none 0 0) (.slice none 0 0) ?_ ?_ ZB.out ?_); (· rfl); (· rfl)))
      exact GivesRes.row (p := 4) (u := 5) (er := 1) rfl rfl rfl (by rw [E2.out]) ZB.out (by rw [E2.out]; exact AZ.out) BW.out (by have := HG.out; omega)
    | true =>
      cases iy with
      | true =>
        have E2 : Hid (z = (zeroRes, 1)) := Lib.hid (by rw [ER.out, if_neg (by simp)])
        clear ER Q3 Q4 C1 C2
        have x0w2 : w2.cell? ⟨g, 0, none⟩ = some (.bool ix) := Blk.cell XB.out 0
        have x1w2 : w2.cell? ⟨g, 1, none⟩ = some (.slice ax nx cx) := Blk.cell XB.out 1
        have x2w2 : w2.cell? ⟨g, 2, none⟩ = some (.slice bx mx dx) := Blk.cell XB.out 2
        have y0w2 : w2.cell? ⟨g + 1, 0, none⟩ = some (.bool true) := Blk.cell YB.out 0
        have y1w2 : w2.cell? ⟨g + 1, 1, none⟩ = some (.slice ay ny cy) := Blk.cell YB.out 1
        have y2w2 : w2.cell? ⟨g + 1, 2, none⟩ = some (.slice oy my dy) := Blk.cell YB.out 2
        go_wp2_with (first
          | (refine load_res_any (by rfl) (.tmp 2) rfl g rfl XB.out ?_)
          | (refine load_res_any (by rfl) (.tmp 3) rfl (g + 1) rfl YB.out ?_)
          | (go_at_call 17
             refine (Q1.out _ BW.out).mono ?_
             rintro r v1 ⟨rfl, hb1⟩
             replace BW := Lib.hid (Below.step BW.out hb1)
             replace XB := Lib.hid (XB.out.below hb1 XB.out.lt)
             replace YB := Lib.hid (YB.out.below hb1 YB.out.lt)
             replace ZB := Lib.hid (ZB.out.below hb1 ZB.out.lt)
             have x0v1 : v1.cell? ⟨g, 0, none⟩ = some (.bool ix) := Blk.cell XB.out 0
             have x1v1 : v1.cell? ⟨g, 1, none⟩ = some (.slice ax nx cx) := Blk.cell XB.out 1
             have x2v1 : v1.cell? ⟨g, 2, none⟩ = some (.slice bx mx dx) := Blk.cell XB.out 2
             have y0v1 : v1.cell? ⟨g + 1, 0, none⟩ = some (.bool true) := Blk.cell YB.out 0
             have y1v1 : v1.cell? ⟨g + 1, 1, none⟩ = some (.slice ay ny cy) := Blk.cell YB.out 1
             have y2v1 : v1.cell? ⟨g + 1, 2, none⟩ = some (.slice oy my dy) := Blk.cell YB.out 2
             clear hb1 Q1)
          | (go_at_call 17
             refine (Q2.out _ BW.out).mono ?_
             rintro r v2 ⟨rfl, hb2⟩
             replace BW := Lib.hid (Below.step BW.out hb2)
             replace XB := Lib.hid (XB.out.below hb2 XB.out.lt)
             replace YB := Lib.hid (YB.out.below hb2 YB.out.lt)
             replace ZB := Lib.hid (ZB.out.below hb2 ZB.out.lt)
             have x0v2 : v2.cell? ⟨g, 0, none⟩ = some (.bool ix) := Blk.cell XB.out 0
             have x1v2 : v2.cell? ⟨g, 1, none⟩ = some (.slice ax nx cx) := Blk.cell XB.out 1
             have x2v2 : v2.cell? ⟨g, 2, none⟩ = some (.slice bx mx dx) := Blk.cell XB.out 2
             have y0v2 : v2.cell? ⟨g + 1, 0, none⟩ = some (.bool true) := Blk.cell YB.out 0
             have y1v2 : v2.cell? ⟨g + 1, 1, none⟩ = some (.slice ay ny cy) := Blk.cell YB.out 1
             have y2v2 : v2.cell? ⟨g + 1, 2, none⟩ = some (.slice oy my dy) := Blk.cell YB.out 2
             clear hb2 Q2)
          | ((with_reducible refine store_res_at 4 19 (g + 1 + 1) false none 0 0 none 0 0 false (.slice none 0 0) (.slice none 0 0) ?_ ?_ ZB.out ?_); (· rfl); (· rfl)))
        exact GivesRes.row (p := 4) (u := 5) (er := 1) rfl rfl rfl (by rw [E2.out]) ZB.out (by rw [E2.out]; exact AZ.out) BW.out (by have := HG.out; omega)
      | false =>
        cases ix with
        | true =>
          have e2 : z = (y, 0) := by rw [ER.out, if_pos (by simp), if_pos rfl]
          have E2 : Hid ((y, (0 : Int)).2 = 0) := Lib.hid rfl
          subst e2
          clear ER Q3 Q4 C1
          have x0w2 : w2.cell? ⟨g, 0, none⟩ = some (.bool true) := Blk.cell XB.out 0
          have x1w2 : w2.cell? ⟨g, 1, none⟩ = some (.slice ax nx cx) := Blk.cell XB.out 1
          have x2w2 : w2.cell? ⟨g, 2, none⟩ = some (.slice bx mx dx) := Blk.cell XB.out 2
          have y0w2 : w2.cell? ⟨g + 1, 0, none⟩ = some (.bool false) := Blk.cell YB.out 0
          have y1w2 : w2.cell? ⟨g + 1, 1, none⟩ = some (.slice ay ny cy) := Blk.cell YB.out 1
          have y2w2 : w2.cell? ⟨g + 1, 2, none⟩ = some (.slice oy my dy) := Blk.cell YB.out 2
          go_wp2_with (first
            | (refine load_res_any (by rfl) (.tmp 2) rfl g rfl XB.out ?_)
            | (refine load_res_any (by rfl) (.tmp 3) rfl (g + 1) rfl YB.out ?_)
            | (go_at_call 17
               refine (Q1.out _ BW.out).mono ?_
               rintro r v1 ⟨rfl, hb1⟩
               replace BW := Lib.hid (Below.step BW.out hb1)
               replace XB := Lib.hid (XB.out.below hb1 XB.out.lt)
               replace YB := Lib.hid (YB.out.below hb1 YB.out.lt)
               replace ZB := Lib.hid (ZB.out.below hb1 ZB.out.lt)
               have x0v1 : v1.cell? ⟨g, 0, none⟩ = some (.bool true) := Blk.cell XB.out 0
               have x1v1 : v1.cell? ⟨g, 1, none⟩ = some (.slice ax nx cx) := Blk.cell XB.out 1
               have x2v1 : v1.cell? ⟨g, 2, none⟩ = some (.slice bx mx dx) := Blk.cell XB.out 2
               have y0v1 : v1.cell? ⟨g + 1, 0, none⟩ = some (.bool false) := Blk.cell YB.out 0
               have y1v1 : v1.cell? ⟨g + 1, 1, none⟩ = some (.slice ay ny cy) := Blk.cell YB.out 1
               have y2v1 : v1.cell? ⟨g + 1, 2, none⟩ = some (.slice oy my dy) := Blk.cell YB.out 2
               clear hb1 Q1)
            | (go_at_call 17
               refine (Q2.out _ BW.out).mono ?_
               rintro r v2 ⟨rfl, hb2⟩
               replace BW := Lib.hid (Below.step BW.out hb2)
               replace XB := Lib.hid (XB.out.below hb2 XB.out.lt)
               replace YB := Lib.hid (YB.out.below hb2 YB.out.lt)
               replace ZB := Lib.hid (ZB.out.below hb2 ZB.out.lt)
               have x0v2 : v2.cell? ⟨g, 0, none⟩ = some (.bool true) := Blk.cell XB.out 0
               have x1v2 : v2.cell? ⟨g, 1, none⟩ = some (.slice ax nx cx) := Blk.cell XB.out 1
               have x2v2 : v2.cell? ⟨g, 2, none⟩ = some (.slice bx mx dx) := Blk.cell XB.out 2
               have y0v2 : v2.cell? ⟨g + 1, 0, none⟩ = some (.bool false) := Blk.cell YB.out 0
               have y1v2 : v2.cell? ⟨g + 1, 1, none⟩ = some (.slice ay ny cy) := Blk.cell YB.out 1
               have y2v2 : v2.cell? ⟨g + 1, 2, none⟩ = some (.slice oy my dy) := Blk.cell YB.out 2
               clear hb2 Q2)
            | (go_at_call 45
               refine (C2.out _ BW.out).mono ?_
               rintro r v5 ⟨p5, s5, q5, t5, k5, l5, rfl, hs5, hr5, hb5⟩
               have ZL := Lib.hid ZB.out.lt
               have A5 := Lib.hid hs5
               have R5 := Lib.hid hr5
               replace BW := Lib.hid (Below.step BW.out hb5)
               replace XB := Lib.hid (XB.out.below hb5 XB.out.lt)
               replace YB := Lib.hid (YB.out.below hb5 YB.out.lt)
               replace ZB := Lib.hid (ZB.out.below hb5 ZB.out.lt)
               clear hb5 hs5 hr5 C2)
            | ((with_reducible refine store_res_at 4 24 (g + 1 + 1) y.inh p5 s5 q5 t5 k5 l5 false (.slice none 0 0) (.slice none 0 0) ?_ ?_ ZB.out ?_); (· rfl); (· rfl)))
          exact GivesRes.row2 (x := (y, 0)) (p := 4) (u := 5) (er := 0) rfl rfl rfl rfl rfl ZB.out A5.out R5.out ZL.out BW.out (by have := HG.out; omega)
        | false =>
          cases i1 with
          | false =>
            have E2 : Hid (z = (zeroRes, 9)) := Lib.hid (by rw [ER.out, if_pos (by simp), if_neg (by simp), if_neg (by simp)])
            clear ER Q4 C1 C2
            have x0w2 : w2.cell? ⟨g, 0, none⟩ = some (.bool false) := Blk.cell XB.out 0
            have x1w2 : w2.cell? ⟨g, 1, none⟩ = some (.slice ax nx cx) := Blk.cell XB.out 1
            have x2w2 : w2.cell? ⟨g, 2, none⟩ = some (.slice bx mx dx) := Blk.cell XB.out 2
            have y0w2 : w2.cell? ⟨g + 1, 0, none⟩ = some (.bool false) := Blk.cell YB.out 0
            have y1w2 : w2.cell? ⟨g + 1, 1, none⟩ = some (.slice ay ny cy) := Blk.cell YB.out 1
            have y2w2 : w2.cell? ⟨g + 1, 2, none⟩ = some (.slice oy my dy) := Blk.cell YB.out 2
            go_wp2_with (first
              | (refine load_res_any (by rfl) (.tmp 2) rfl g rfl XB.out ?_)
              | (refine load_res_any (by rfl) (.tmp 3) rfl (g + 1) rfl YB.out ?_)
              | (go_at_call 17
                 refine (Q1.out _ BW.out).mono ?_
                 rintro r v1 ⟨rfl, hb1⟩
                 replace BW := Lib.hid (Below.step BW.out hb1)
                 replace XB := Lib.hid (XB.out.below hb1 XB.out.lt)
                 replace YB := Lib.hid (YB.out.below hb1 YB.out.lt)
                 replace ZB := Lib.hid (ZB.out.below hb1 ZB.out.lt)
                 have x0v1 : v1.cell? ⟨g, 0, none⟩ = some (.bool false) := Blk.cell XB.out 0
                 have x1v1 : v1.cell? ⟨g, 1, none⟩ = some (.slice ax nx cx) := Blk.cell XB.out 1
                 have x2v1 : v1.cell? ⟨g, 2, none⟩ = some (.slice bx mx dx) := Blk.cell XB.out 2
                 have y0v1 : v1.cell? ⟨g + 1, 0, none⟩ = some (.bool false) := Blk.cell YB.out 0
                 have y1v1 : v1.cell? ⟨g + 1, 1, none⟩ = some (.slice ay ny cy) := Blk.cell YB.out 1
                 have y2v1 : v1.cell? ⟨g + 1, 2, none⟩ = some (.slice oy my dy) := Blk.cell YB.out 2
                 clear hb1 Q1)
              | (go_at_call 17
                 refine (Q2.out _ BW.out).mono ?_
                 rintro r v2 ⟨rfl, hb2⟩
                 replace BW := Lib.hid (Below.step BW.out hb2)
                 replace XB := Lib.hid (XB.out.below hb2 XB.out.lt)
                 replace YB := Lib.hid (YB.out.below hb2 YB.out.lt)
                 replace ZB := Lib.hid (ZB.out.below hb2 ZB.out.lt)
                 have x0v2 : v2.cell? ⟨g, 0, none⟩ = some (.bool false) := Blk.cell XB.out 0
                 have x1v2 : v2.cell? ⟨g, 1, none⟩ = some (.slice ax nx cx) := Blk.cell XB.out 1
                 have x2v2 : v2.cell? ⟨g, 2, none⟩ = some (.slice bx mx dx) := Blk.cell XB.out 2
                 have y0v2 : v2.cell? ⟨g + 1, 0, none⟩ = some (.bool false) := Blk.cell YB.out 0
                 have y1v2 : v2.cell? ⟨g + 1, 1, none⟩ = some (.slice ay ny cy) := Blk.cell YB.out 1
                 have y2v2 : v2.cell? ⟨g + 1, 2, none⟩ = some (.slice oy my dy) := Blk.cell YB.out 2
                 clear hb2 Q2)
              | (go_at_call 46
                 refine (Q3.out _ BW.out).mono ?_
                 rintro r v3 ⟨rfl, hb3⟩
                 replace BW := Lib.hid (Below.step BW.out hb3)
                 replace XB := Lib.hid (XB.out.below hb3 XB.out.lt)
                 replace YB := Lib.hid (YB.out.below hb3 YB.out.lt)
                 replace ZB := Lib.hid (ZB.out.below hb3 ZB.out.lt)
                 have x0v3 : v3.cell? ⟨g, 0, none⟩ = some (.bool false) := Blk.cell XB.out 0
                 have x1v3 : v3.cell? ⟨g, 1, none⟩ = some (.slice ax nx cx) := Blk.cell XB.out 1
                 have x2v3 : v3.cell? ⟨g, 2, none⟩ = some (.slice bx mx dx) := Blk.cell XB.out 2
                 have y0v3 : v3.cell? ⟨g + 1, 0, none⟩ = some (.bool false) := Blk.cell YB.out 0
                 have y1v3 : v3.cell? ⟨g + 1, 1, none⟩ = some (.slice ay ny cy) := Blk.cell YB.out 1
                 have y2v3 : v3.cell? ⟨g + 1, 2, none⟩ = some (.slice oy my dy) := Blk.cell YB.out 2
                 clear hb3 Q3)
              | ((with_reducible refine store_res_at 4 40 (g + 1 + 1) false none 0 0 none 0 0 false (.slice none 0 0) (.slice none 0 0) ?_ ?_ ZB.out ?_); (· rfl); (· rfl)))
            exact GivesRes.row (p := 4) (u := 5) (er := 9) rfl rfl rfl (by rw [E2.out]) ZB.out (by rw [E2.out]; exact AZ.out) BW.out (by have := HG.out; omega)
          | true =>
            cases i2 with
            | false =>
              have E2 : Hid (z = (zeroRes, 9)) := Lib.hid (by rw [ER.out, if_pos (by simp), if_neg (by simp), if_neg (by simp)])
              clear ER C1 C2
              have x0w2 : w2.cell? ⟨g, 0, none⟩ = some (.bool false) := Blk.cell XB.out 0
              have x1w2 : w2.cell? ⟨g, 1, none⟩ = some (.slice ax nx cx) := Blk.cell XB.out 1
              have x2w2 : w2.cell? ⟨g, 2, none⟩ = some (.slice bx mx dx) := Blk.cell XB.out 2
              have y0w2 : w2.cell? ⟨g + 1, 0, none⟩ = some (.bool false) := Blk.cell YB.out 0
              have y1w2 : w2.cell? ⟨g + 1, 1, none⟩ = some (.slice ay ny cy) := Blk.cell YB.out 1
              have y2w2 : w2.cell? ⟨g + 1, 2, none⟩ = some (.slice oy my dy) := Blk.cell YB.out 2
              go_wp2_with (first
                | (refine load_res_any (by rfl) (.tmp 2) rfl g rfl XB.out ?_)
                | (refine load_res_any (by rfl) (.tmp 3) rfl (g + 1) rfl YB.out ?_)
                | (go_at_call 17
                   refine (Q1.out _ BW.out).mono ?_
                   rintro r v1 ⟨rfl, hb1⟩
                   replace BW := Lib.hid (Below.step BW.out hb1)
                   replace XB := Lib.hid (XB.out.below hb1 XB.out.lt)
                   replace YB := Lib.hid (YB.out.below hb1 YB.out.lt)
                   replace ZB := Lib.hid (ZB.out.below hb1 ZB.out.lt)
                   have x0v1 : v1.cell? ⟨g, 0, none⟩ = some (.bool false) := Blk.cell XB.out 0
                   have x1v1 : v1.cell? ⟨g, 1, none⟩ = some (.slice ax nx cx) := Blk.cell XB.out 1
                   have x2v1 : v1.cell? ⟨g, 2, none⟩ = some (.slice bx mx dx) := Blk.cell XB.out 2
                   have y0v1 : v1.cell? ⟨g + 1, 0, none⟩ = some (.bool false) := Blk.cell YB.out 0
                   have y1v1 : v1.cell? ⟨g + 1, 1, none⟩ = some (.slice ay ny cy) := Blk.cell YB.out 1
                   have y2v1 : v1.cell? ⟨g + 1, 2, none⟩ = some (.slice oy my dy) := Blk.cell YB.out 2
                   clear hb1 Q1)
                | (go_at_call 17
                   refine (Q2.out _ BW.out).mono ?_
                   rintro r v2 ⟨rfl, hb2⟩
                   replace BW := Lib.hid (Below.step BW.out hb2)
                   replace XB := Lib.hid (XB.out.below hb2 XB.out.lt)
                   replace YB := Lib.hid (YB.out.below hb2 YB.out.lt)
                   replace ZB := Lib.hid (ZB.out.below hb2 ZB.out.lt)
                   have x0v2 : v2.cell? ⟨g, 0, none⟩ = some (.bool false) := Blk.cell XB.out 0
                   have x1v2 : v2.cell? ⟨g, 1, none⟩ = some (.slice ax nx cx) := Blk.cell XB.out 1
                   have x2v2 : v2.cell? ⟨g, 2, none⟩ = some (.slice bx mx dx) := Blk.cell XB.out 2
                   have y0v2 : v2.cell? ⟨g + 1, 0, none⟩ = some (.bool false) := Blk.cell YB.out 0
                   have y1v2 : v2.cell? ⟨g + 1, 1, none⟩ = some (.slice ay ny cy) := Blk.cell YB.out 1
                   have y2v2 : v2.cell? ⟨g + 1, 2, none⟩ = some (.slice oy my dy) := Blk.cell YB.out 2
                   clear hb2 Q2)
                | (go_at_call 46
                   refine (Q3.out _ BW.out).mono ?_
                   rintro r v3 ⟨rfl, hb3⟩
                   replace BW := Lib.hid (Below.step BW.out hb3)
                   replace XB := Lib.hid (XB.out.below hb3 XB.out.lt)
                   replace YB := Lib.hid (YB.out.below hb3 YB.out.lt)
                   replace ZB := Lib.hid (ZB.out.below hb3 ZB.out.lt)
                   have x0v3 : v3.cell? ⟨g, 0, none⟩ = some (.bool false) := Blk.cell XB.out 0
                   have x1v3 : v3.cell? ⟨g, 1, none⟩ = some (.slice ax nx cx) := Blk.cell XB.out 1
                   have x2v3 : v3.cell? ⟨g, 2, none⟩ = some (.slice bx mx dx) := Blk.cell XB.out 2
                   have y0v3 : v3.cell? ⟨g + 1, 0, none⟩ = some (.bool false) := Blk.cell YB.out 0
                   have y1v3 : v3.cell? ⟨g + 1, 1, none⟩ = some (.slice ay ny cy) := Blk.cell YB.out 1
                   have y2v3 : v3.cell? ⟨g + 1, 2, none⟩ = some (.slice oy my dy) := Blk.cell YB.out 2
                   clear hb3 Q3)
                | (go_at_call 47
                   refine (Q4.out _ BW.out).mono ?_
                   rintro r v4 ⟨rfl, hb4⟩
                   replace BW := Lib.hid (Below.step BW.out hb4)
                   replace XB := Lib.hid (XB.out.below hb4 XB.out.lt)
                   replace YB := Lib.hid (YB.out.below hb4 YB.out.lt)
                   replace ZB := Lib.hid (ZB.out.below hb4 ZB.out.lt)
                   have x0v4 : v4.cell? ⟨g, 0, none⟩ = some (.bool false) := Blk.cell XB.out 0
                   have x1v4 : v4.cell? ⟨g, 1, none⟩ = some (.slice ax nx cx) := Blk.cell XB.out 1
                   have x2v4 : v4.cell? ⟨g, 2, none⟩ = some (.slice bx mx dx) := Blk.cell XB.out 2
                   have y0v4 : v4.cell? ⟨g + 1, 0, none⟩ = some (.bool false) := Blk.cell YB.out 0
                   have y1v4 : v4.cell? ⟨g + 1, 1, none⟩ = some (.slice ay ny cy) := Blk.cell YB.out 1
                   have y2v4 : v4.cell? ⟨g + 1, 2, none⟩ = some (.slice oy my dy) := Blk.cell YB.out 2
                   clear hb4 Q4)
                | ((with_reducible refine store_res_at 4 40 (g + 1 + 1) false none 0 0 none 0 0 false (.slice none 0 0) (.slice none 0 0) ?_ ?_ ZB.out ?_); (· rfl); (· rfl)))
              exact GivesRes.row (p := 4) (u := 5) (er := 9) rfl rfl rfl (by rw [E2.out]) ZB.out (by rw [E2.out]; exact AZ.out) BW.out (by have := HG.out; omega)
            | true =>
              have e2 : z = (x, 0) := by rw [ER.out, if_pos (by simp), if_neg (by simp), if_pos (by simp)]
              have E2 : Hid ((x, (0 : Int)).2 = 0) := Lib.hid rfl
              subst e2
              clear ER C2
              have x0w2 : w2.cell? ⟨g, 0, none⟩ = some (.bool false) := Blk.cell XB.out 0
              have x1w2 : w2.cell? ⟨g, 1, none⟩ = some (.slice ax nx cx) := Blk.cell XB.out 1
              have x2w2 : w2.cell? ⟨g, 2, none⟩ = some (.slice bx mx dx) := Blk.cell XB.out 2
              have y0w2 : w2.cell? ⟨g + 1, 0, none⟩ = some (.bool false) := Blk.cell YB.out 0
              have y1w2 : w2.cell? ⟨g + 1, 1, none⟩ = some (.slice ay ny cy) := Blk.cell YB.out 1
              have y2w2 : w2.cell? ⟨g + 1, 2, none⟩ = some (.slice oy my dy) := Blk.cell YB.out 2
              go_wp2_with (first
                | (refine load_res_any (by rfl) (.tmp 2) rfl g rfl XB.out ?_)
                | (refine load_res_any (by rfl) (.tmp 3) rfl (g + 1) rfl YB.out ?_)
                | (go_at_call 17
                   refine (Q1.out _ BW.out).mono ?_
                   rintro r v1 ⟨rfl, hb1⟩
                   replace BW := Lib.hid (Below.step BW.out hb1)
                   replace XB := Lib.hid (XB.out.below hb1 XB.out.lt)
                   replace YB := Lib.hid (YB.out.below hb1 YB.out.lt)
                   replace ZB := Lib.hid (ZB.out.below hb1 ZB.out.lt)
                   have x0v1 : v1.cell? ⟨g, 0, none⟩ = some (.bool false) := Blk.cell XB.out 0
                   have x1v1 : v1.cell? ⟨g, 1, none⟩ = some (.slice ax nx cx) := Blk.cell XB.out 1
                   have x2v1 : v1.cell? ⟨g, 2, none⟩ = some (.slice bx mx dx) := Blk.cell XB.out 2
                   have y0v1 : v1.cell? ⟨g + 1, 0, none⟩ = some (.bool false) := Blk.cell YB.out 0
                   have y1v1 : v1.cell? ⟨g + 1, 1, none⟩ = some (.slice ay ny cy) := Blk.cell YB.out 1
                   have y2v1 : v1.cell? ⟨g + 1, 2, none⟩ = some (.slice oy my dy) := Blk.cell YB.out 2
                   clear hb1 Q1)
                | (go_at_call 17
                   refine (Q2.out _ BW.out).mono ?_
                   rintro r v2 ⟨rfl, hb2⟩
                   replace BW := Lib.hid (Below.step BW.out hb2)
                   replace XB := Lib.hid (XB.out.below hb2 XB.out.lt)
                   replace YB := Lib.hid (YB.out.below hb2 YB.out.lt)
                   replace ZB := Lib.hid (ZB.out.below hb2 ZB.out.lt)
                   have x0v2 : v2.cell? ⟨g, 0, none⟩ = some (.bool false) := Blk.cell XB.out 0
                   have x1v2 : v2.cell? ⟨g, 1, none⟩ = some (.slice ax nx cx) := Blk.cell XB.out 1
                   have x2v2 : v2.cell? ⟨g, 2, none⟩ = some (.slice bx mx dx) := Blk.cell XB.out 2
                   have y0v2 : v2.cell? ⟨g + 1, 0, none⟩ = some (.bool false) := Blk.cell YB.out 0
                   have y1v2 : v2.cell? ⟨g + 1, 1, none⟩ = some (.slice ay ny cy) := Blk.cell YB.out 1
                   have y2v2 : v2.cell? ⟨g + 1, 2, none⟩ = some (.slice oy my dy) := Blk.cell YB.out 2
                   clear hb2 Q2)
                | (go_at_call 46
                   refine (Q3.out _ BW.out).mono ?_
                   rintro r v3 ⟨rfl, hb3⟩
                   replace BW := Lib.hid (Below.step BW.out hb3)
                   replace XB := Lib.hid (XB.out.below hb3 XB.out.lt)
                   replace YB := Lib.hid (YB.out.below hb3 YB.out.lt)
                   replace ZB := Lib.hid (ZB.out.below hb3 ZB.out.lt)
                   have x0v3 : v3.cell? ⟨g, 0, none⟩ = some (.bool false) := Blk.cell XB.out 0
                   have x1v3 : v3.cell? ⟨g, 1, none⟩ = some (.slice ax nx cx) := Blk.cell XB.out 1
                   have x2v3 : v3.cell? ⟨g, 2, none⟩ = some (.slice bx mx dx) := Blk.cell XB.out 2
                   have y0v3 : v3.cell? ⟨g + 1, 0, none⟩ = some (.bool false) := Blk.cell YB.out 0
                   have y1v3 : v3.cell? ⟨g + 1, 1, none⟩ = some (.slice ay ny cy) := Blk.cell YB.out 1
                   have y2v3 : v3.cell? ⟨g + 1, 2, none⟩ = some (.slice oy my dy) := Blk.cell YB.out 2
                   clear hb3 Q3)
                | (go_at_call 47
                   refine (Q4.out _ BW.out).mono ?_
                   rintro r v4 ⟨rfl, hb4⟩
                   replace BW := Lib.hid (Below.step BW.out hb4)
                   replace XB := Lib.hid (XB.out.below hb4 XB.out.lt)
                   replace YB := Lib.hid (YB.out.below hb4 YB.out.lt)
                   replace ZB := Lib.hid (ZB.out.below hb4 ZB.out.lt)
                   have x0v4 : v4.cell? ⟨g, 0, none⟩ = some (.bool false) := Blk.cell XB.out 0
                   have x1v4 : v4.cell? ⟨g, 1, none⟩ = some (.slice ax nx cx) := Blk.cell XB.out 1
                   have x2v4 : v4.cell? ⟨g, 2, none⟩ = some (.slice bx mx dx) := Blk.cell XB.out 2
                   have y0v4 : v4.cell? ⟨g + 1, 0, none⟩ = some (.bool false) := Blk.cell YB.out 0
                   have y1v4 : v4.cell? ⟨g + 1, 1, none⟩ = some (.slice ay ny cy) := Blk.cell YB.out 1
                   have y2v4 : v4.cell? ⟨g + 1, 2, none⟩ = some (.slice oy my dy) := Blk.cell YB.out 2
                   clear hb4 Q4)
                | (go_at_call 45
                   refine (C1.out _ BW.out).mono ?_
                   rintro r v5 ⟨p5, s5, q5, t5, k5, l5, rfl, hs5, hr5, hb5⟩
                   have ZL := Lib.hid ZB.out.lt
                   have A5 := Lib.hid hs5
                   have R5 := Lib.hid hr5
                   replace BW := Lib.hid (Below.step BW.out hb5)
                   replace XB := Lib.hid (XB.out.below hb5 XB.out.lt)
                   replace YB := Lib.hid (YB.out.below hb5 YB.out.lt)
                   replace ZB := Lib.hid (ZB.out.below hb5 ZB.out.lt)
                   clear hb5 hs5 hr5 C1)
                | ((with_reducible refine store_res_at 4 42 (g + 1 + 1) x.inh p5 s5 q5 t5 k5 l5 false (.slice none 0 0) (.slice none 0 0) ?_ ?_ ZB.out ?_); (· rfl); (· rfl)))
              exact GivesRes.row2 (x := (x, 0)) (p := 4) (u := 5) (er := 0) rfl rfl rfl rfl rfl ZB.out A5.out R5.out ZL.out BW.out (by have := HG.out; omega)
end Go.Proofs.YtlmndmfebgaidaaGreatDoor
namespace Go.Proofs.YtlmndmfebgaidaaGreatDoor
open Go.RowKit
set_option linter.unusedVariables false
theorem gives_copye {w W W0 : World} {tmps : Array Value} {fn : Func} {p u : Tmp} {x : T × Int} {er : Int} {A : Option Addr} {n c : Nat} {K : Option Addr} {m d : Nat} (hx : x.2 = er) (hf : fn.results = #[.cell p 29, .tmp u]) (hp : tmps.getD p undef = .pointer (some ⟨w.heap.size, 0, none⟩)) (hu : tmps.getD u undef = .int .i64 er) (hrb : RB w W) (hin : x.1.InP (W0.heap.size ≤ ·) W (.agg #[.int .i64 x.1.tag, .slice A n c, .slice K m d])) (hW : w.heap.size < W0.heap.size) :
    bodyPost Tryz.prog fn (GivesNodeE x w) .ret { tmps := tmps, defers := [] } (boxed w W (.int .i64 x.1.tag) (.slice A n c) (.slice K m d)) := by
  obtain ⟨h1, h2⟩ := hrb.boxed (.int .i64 x.1.tag) (.slice A n c) (.slice K m d)
  have h := results_nodee (P := Tryz.prog) hf tmps (boxed w W (.int .i64 x.1.tag) (.slice A n c) (.slice K m d)) w.heap.size 29 #[.int .i64 x.1.tag, .slice A n c, .slice K m d] (0, 0) _ hp h1 Tryz.underlying29 rfl Tryz.sizeNode3
  rw [hu, ← hx] at h
  exact bodyPost_ret h rfl ⟨A, n, c, K, m, d, rfl, boxed_in hin hW _ _ _, h2⟩
set_option maxHeartbeats 1000000 in
theorem uint1_any (x : Int) (w : World) (h0 : 0 ≤ x) (h1 : x ≤ 18446744073709551615) : Calls Tryz.prog 121 #[.int .u64 x] w (GivesNodeE (intT x, 0) w) := by
  have S0 := Lib.hid (RB.start w)
  go_enter Tryz.func121, Tryz.ntmps121
  go_wp2_with fail
  refine (int_any x _ h0 h1).mono ?_
  rintro e w3 ⟨A, n3, c3, K, m3, d3, rfl, hin, hb3⟩
  have S3 := Lib.hid (S0.out.go hb3)
  have IN := Lib.hid hin
  have W2 := Lib.hid (S0.out.box.lt)
  obtain ⟨p0, p1, p2, f0, f1, f2⟩ := S3.out.box.six
  clear hin hb3
  go_wp2_with fail
  exact gives_copye (x := (intT x, 0)) rfl rfl rfl rfl S3.out IN.out W2.out
set_option maxHeartbeats 2000000 in
set_option maxRecDepth 100000 in
theorem uint_any (t : T) (v : Value) (w : World) (hin : t.In w v) (hwt : t.body.length ≤ 1000000) : Calls Tryz.prog 109 #[v] w (GivesUint (uintZ t) w) := by
  obtain ⟨A, n, c, K, m, d, rfl, hw, hr, hn, hc, hm, hm', hks⟩ := hin.open
  have B2 := Lib.hid (Box.start hin)
  have GZ : Hid (uintZ t = if (numZ 0 t.body).2 = true ∧ sameT t (intT (numZ 0 t.body).1) = true then ((numZ 0 t.body).1, 0) else (0, 2)) := rfl
  have NR := numZ_range t.body hr.2.1 0 (by omega) (by omega)
  have hl := hr.1
  have CN := Lib.hid (num_any A n c t.body _ (hr.below B2.out.below) (by omega))
  obtain ⟨g0, g1, g2⟩ := B2.out.cells
  clear hr hks hc hin hm hm' hw hn hl
  generalize (numZ 0 t.body).1 = x at *
  generalize hz : (numZ 0 t.body).2 = is at *
  clear hz
  go_enter Tryz.func109, Tryz.ntmps109
  generalize hw2 : w.alloc (.cells #[.int .i64 t.tag, .slice A n c, .slice K m d] 29) = w2 at *
  go_wp2_with fail
  refine CN.out.mono ?_
  rintro e w3 ⟨rfl, rfl⟩
  clear hw2 CN
  cases is
  · have F : Hid (uintZ t = (0, 2)) := by rw [GZ.out]; simp [Hid]
    clear GZ
    go_wp2_with fail
    go_ret2
    exact GivesUint.of F.out B2.out.below
  have GX : Hid (uintZ t = if sameT t (intT x) = true then (x, 0) else (0, 2)) := by rw [GZ.out]; simp [Hid]
  clear GZ
  have CX := Lib.hid (exact_u64 t _ w3 (intT x, 0) x rfl B2.out.has (fun W hW => (uint1_any x W NR.1 NR.2).mono fun e w' h => h.has))
  go_wp2_with fail
  refine CX.out.mono ?_
  intro e w4 h4
  clear CX
  rcases h4.ways with ⟨hok, rfl, hb4⟩ | ⟨hok, rfl, hb4⟩
  · have F : Hid (uintZ t = (x, 0)) := by
      rw [GX.out, if_pos ((same_iff _ _).2 ((ok_iff _ _).1 hok).2.symm)]
      exact Lib.hid rfl
    have B4 := Lib.hid (Below.step B2.out.below hb4)
    clear hok hb4 h4 GX
    go_wp2_with fail
    go_ret2
    exact GivesUint.of F.out B4.out
  · have F : Hid (uintZ t = (0, 2)) := by
      rw [GX.out, if_neg (fun k => (ok_iff_not _ _).1 hok ⟨rfl, ((same_iff _ _).1 k).symm⟩)]
      exact Lib.hid rfl
    have B4 := Lib.hid (Below.step B2.out.below hb4)
    clear hok hb4 h4 GX
    go_wp2_with fail
    go_ret2
    exact GivesUint.of F.out B4.out
end Go.Proofs.YtlmndmfebgaidaaGreatDoor
