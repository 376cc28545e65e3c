/-
  Merged texts: RpC, ReD, RpD, RpE, RpG.
-/
import Derived.Test.YtlmndmfebgaidaaGreatDoorGnP
import Derived.Test.YtlmndmfebgaidaaGreatDoorGnK
import Derived.Test.YtlmndmfebgaidaaGreatDoorGnN
import Derived.Test.YtlmndmfebgaidaaGreatDoorGnH
namespace Go.Proofs.YtlmndmfebgaidaaGreatDoor
open Go.RowKit
set_option linter.unusedVariables false
set_option linter.unusedSimpArgs false
set_option maxRecDepth 100000
def KidsAt (P : Nat → Prop) (w : World) (A : Option Addr) (n c : Nat) (ts : List T) : Prop := ts.length = n ∧ (A = none → n = 0 ∧ c = 0) ∧ (0 < n → ∃ b off, A = some ⟨b, off, none⟩ ∧ b < w.heap.size ∧ T.InPAll P w ts b off)
def GivesKids (ts : List T) (w : World) (e : Ending) (w' : World) : Prop := ∃ A n c, e = .returned (.slice A n c) ∧ KidsAt (w.heap.size ≤ ·) w' A n c ts ∧ Below w.heap.size w w'
theorem KidsAt.nil (P : Nat → Prop) (w : World) : KidsAt P w none 0 0 [] := ⟨rfl, fun _ => ⟨rfl, rfl⟩, fun h => absurd h (by omega)⟩
theorem T.InPAll.keep {P Q : Nat → Prop} {w w' : World} (hP : ∀ b, b < w.heap.size → P b → Q b ∧ w'.heap[b]? = w.heap[b]?) (hs : w.heap.size ≤ w'.heap.size) {ts : List T} {b off : Nat} (hb : w'.heap[b]? = w.heap[b]?) (h : T.InPAll P w ts b off) : T.InPAll Q w' ts b off :=
  T.InPAll.of fun i hi => by
    obtain ⟨v0, v1, v2, h0, h1, h2, h3⟩ := h.at i hi
    refine ⟨v0, v1, v2, ?_, ?_, ?_, T.InP.keep hP hs _ h3⟩
    · rw [← h0]; simp only [World.cell?, hb]
    · rw [← h1]; simp only [World.cell?, hb]
    · rw [← h2]; simp only [World.cell?, hb]
theorem KidsAt.below {P Q : Nat → Prop} {w w' : World} {A : Option Addr} {n c : Nat} {ts : List T} (h : KidsAt P w A n c ts) (hb : Below w.heap.size w w') (hq : ∀ b, b < w.heap.size → P b → Q b) : KidsAt Q w' A n c ts := by
  refine ⟨h.1, h.2.1, fun h0 => ?_⟩
  obtain ⟨b, off, e, hlt, ha⟩ := h.2.2 h0
  exact ⟨b, off, e, Nat.lt_of_lt_of_le hlt hb.size, T.InPAll.keep (fun x hx hp => ⟨hq x hx hp, hb.block x hx⟩) hb.size (hb.block b hlt) ha⟩
theorem T.InPAll.cells {P : Nat → Prop} {w : World} : ∀ {ts : List T} {b off : Nat}, T.InPAll P w ts b off → ∃ xs : List Value, xs.length = ts.length * 3 ∧ (∀ j u, xs[j]? = some u → w.cell? ⟨b, off + j, none⟩ = some u) ∧ (∀ u ∈ xs, u.oneCell' = true) ∧
    ∀ i (h : i < ts.length), ∃ v0 v1 v2 : Value, xs[i * 3]? = some v0 ∧ xs[i * 3 + 1]? = some v1 ∧ xs[i * 3 + 2]? = some v2 ∧ (ts[i]).InP P w (.agg #[v0, v1, v2])
  | [], _, _, _ => ⟨[], rfl, fun j u h => by simp at h, fun u h => by simp at h, fun i h => absurd h (by simp)⟩
  | t :: r, b, off, h => by
    unfold T.InPAll at h
    obtain ⟨⟨v0, v1, v2, h0, h1, h2, h3⟩, hr⟩ := h
    obtain ⟨xs, l, hc, ho, hi⟩ := T.InPAll.cells hr
    obtain ⟨A, n, c, K, m, d, e⟩ := h3.form
    simp only [Value.agg.injEq] at e
    have e' := congrArg Array.toList e
    simp only [List.cons.injEq, and_true] at e'
    refine ⟨v0 :: v1 :: v2 :: xs, by simp only [List.length_cons, l]; omega, fun j u hu => ?_, fun u hu => ?_, fun i hi' => ?_⟩
    · rcases j with _ | _ | _ | j
      · simp only [List.getElem?_cons_zero, Option.some.injEq] at hu
        rw [← hu]; exact h0
      · simp only [List.getElem?_cons_succ, List.getElem?_cons_zero, Option.some.injEq] at hu
        rw [← hu]; exact h1
      · simp only [List.getElem?_cons_succ, List.getElem?_cons_zero, Option.some.injEq] at hu
        rw [← hu]; exact h2
      · simp only [List.getElem?_cons_succ] at hu
        have := hc j u hu
        rw [show off + (j + 1 + 1 + 1) = off + 3 + j by omega]
        exact this
    · simp only [List.mem_cons] at hu
      rcases hu with rfl | rfl | rfl | hu
      · rw [e'.1]; rfl
      · rw [e'.2.1]; rfl
      · rw [e'.2.2]; rfl
      · exact ho u hu
    · rcases i with _ | i
      · exact ⟨v0, v1, v2, rfl, rfl, rfl, h3⟩
      · obtain ⟨u0, u1, u2, k0, k1, k2, k3⟩ := hi i (by simpa using hi')
        refine ⟨u0, u1, u2, ?_, ?_, ?_, k3⟩
        · rw [show (i + 1) * 3 = i * 3 + 1 + 1 + 1 by omega]; exact k0
        · rw [show (i + 1) * 3 + 1 = i * 3 + 1 + 1 + 1 + 1 by omega]; exact k1
        · rw [show (i + 1) * 3 + 2 = i * 3 + 2 + 1 + 1 + 1 by omega]; exact k2
structure KOut (w : World) (B : Nat) (u : World) (V : Value) (ks : List T) : Prop where
  bel : Below w.heap.size w u
  lo : w.heap.size ≤ B
  hi : B ≤ u.heap.size
  row : ∃ xs : List Value, u.ownsRow B 29 3 V ks.length xs ∧ ∀ i (h : i < ks.length), ∃ v0 v1 v2 : Value, xs[i * 3]? = some v0 ∧ xs[i * 3 + 1]? = some v1 ∧ xs[i * 3 + 2]? = some v2 ∧ (ks[i]).InP (fun b => B ≤ b ∧ V.ownBlock ≠ some b) u (.agg #[v0, v1, v2])
theorem KOut.start {w u : World} {B : Nat} (hb : Below w.heap.size w u) (h1 : w.heap.size ≤ B) (h2 : B ≤ u.heap.size) : KOut w B u (.slice none 0 0) [] :=
  ⟨hb, h1, h2, [], World.ownsRow_nil _ _ _ _, fun i h => absurd h (by simp)⟩
theorem KOut.lt {w u : World} {B b : Nat} {V : Value} {ks : List T} (h : KOut w B u V ks) (e : V.ownBlock = some b) : B ≤ b ∧ b < u.heap.size := by
  obtain ⟨xs, h1, _⟩ := h.row
  exact h1.lt b e
theorem KOut.form {w u : World} {B : Nat} {V : Value} {ks : List T} (h : KOut w B u V ks) : ∃ A c, V = .slice A ks.length c := by
  obtain ⟨xs, h1, _⟩ := h.row
  rcases h1.2 with ⟨e, h0⟩ | ⟨g, cap, cur, e, _⟩
  · exact ⟨none, 0, by rw [h0]; exact e⟩
  · exact ⟨_, cap, e⟩
theorem KOut.over {w u u' : World} {B : Nat} {V : Value} {ks : List T} (h : KOut w B u V ks) (ho : Over B u u') (hb : Below w.heap.size w u') : KOut w B u' V ks := by
  refine ⟨hb, h.lo, Nat.le_trans h.hi ho.1, ?_⟩
  obtain ⟨xs, h1, h2⟩ := h.row
  refine ⟨xs, ⟨h1.1, ?_⟩, fun i hi => ?_⟩
  · rcases h1.2 with h' | ⟨g, cap, cur, e, a1, a2, a3⟩
    · exact .inl h'
    · exact .inr ⟨g, cap, cur, e, a1, (ho.2 g a1 (Array.getElem?_eq_some_iff.1 a2).1).trans a2, a3⟩
  · obtain ⟨v0, v1, v2, e0, e1, e2, hin⟩ := h2 i hi
    exact ⟨v0, v1, v2, e0, e1, e2, T.InP.keep (fun b hb hp => ⟨hp, ho.2 b hp.1 hb⟩) ho.1 _ hin⟩
theorem KOut.below {w u u' : World} {B : Nat} {V : Value} {ks : List T} (h : KOut w B u V ks) (hb : Below u.heap.size u u') : KOut w B u' V ks := h.over (Over.below hb) (Below.step h.bel hb)
theorem KOut.done {w u : World} {B : Nat} {V : Value} {ks : List T} (h : KOut w B u V ks) {z : Int} (hz : (Lit.int .i64 z).wf = true) : (T.node z [] ks).InP (B ≤ ·) u (.agg #[.int .i64 z, .slice none 0 0, V]) := by
  obtain ⟨xs, hown, hks⟩ := h.row
  unfold T.InP
  rcases hown.2 with ⟨e, h0⟩ | ⟨g', cap, cur, e, h1, h2, h3, h4, h5⟩
  · rw [e, show ks = [] from List.eq_nil_of_length_eq_zero h0]
    exact ⟨none, 0, 0, none, 0, 0, rfl, hz, Row.nil _ _, Nat.zero_le _, fun _ => rfl, rfl, Nat.zero_le _, fun h => absurd h (by omega), fun h => absurd h (by omega)⟩
  · refine ⟨none, 0, 0, some ⟨g', 0, none⟩, ks.length, cap, by rw [e], hz, Row.nil _ _, Nat.zero_le _, fun _ => rfl, rfl, Nat.le_trans h3 h4, fun h => absurd h (by omega), fun _ => ⟨g', 0, rfl, (Array.getElem?_eq_some_iff.1 h2).1, h1, T.InPAll.of fun i hi => ?_⟩⟩
    obtain ⟨u0, u1, u2, e0, e1, e2, hin'⟩ := hks i hi
    rw [e] at hown
    refine ⟨u0, u1, u2, ?_, ?_, ?_, T.InP.keep (fun b _ hp => ⟨hp.1, rfl⟩) (Nat.le_refl _) _ hin'⟩
    · rw [Nat.zero_add, hown.cellAt _ (by omega)]; exact e0
    · rw [Nat.zero_add, hown.cellAt _ (by omega)]; exact e1
    · rw [Nat.zero_add, hown.cellAt _ (by omega)]; exact e2
theorem kout_append {w u : World} {B : Nat} {V : Value} {ks ts : List T} {A : Option Addr} {n c : Nat} (h : KOut w B u V ks) (k : KidsAt (fun b => B ≤ b ∧ V.ownBlock ≠ some b) u A n c ts) (hl : ks.length + n ≤ 100000) (ty : TypeId) :
    ∃ V' u', (Builtin.append_ #[27, 27] ty #[V, .slice A n c]).run Tryz.prog u = .ok V' u' ∧ KOut w B u' V' (ks ++ ts) ∧ u.heap.size ≤ u'.heap.size ∧ Below B u u' ∧ ∀ x, x < u.heap.size → V.ownBlock ≠ some x → u'.heap[x]? = u.heap[x]? := by
  obtain ⟨i0, hi5, hz0, hz1, hz2⟩ := info_parts Tryz.infoNode
  obtain ⟨xs, hown, hks⟩ := h.row
  cases A with
  | none =>
    obtain ⟨rfl, rfl⟩ := k.2.1 rfl
    obtain rfl : ts = [] := List.eq_nil_of_length_eq_zero k.1
    refine ⟨V, u, run_append_owned_none (P := Tryz.prog) (w := u) B 27 ty 29 i0 3 Tryz.underlying27 hi5 V ks.length xs hown, ?_, Nat.le_refl _, Below.refl _ _, fun _ _ _ => rfl⟩
    rw [List.append_nil]
    exact h
  | some ad =>
    have hsrc : ∃ ns : List Value, ns.length = ts.length * 3 ∧ (∀ j v, ns[j]? = some v → u.cell? (ad.add j) = some v) ∧ (∀ v ∈ ns, v.oneCell' = true) ∧ ∀ i (h : i < ts.length), ∃ v0 v1 v2 : Value, ns[i * 3]? = some v0 ∧ ns[i * 3 + 1]? = some v1 ∧ ns[i * 3 + 2]? = some v2 ∧ (ts[i]).InP (fun b => B ≤ b ∧ V.ownBlock ≠ some b) u (.agg #[v0, v1, v2]) := by
      rcases Nat.eq_zero_or_pos n with h0 | h0
      · have e : ts = [] := List.eq_nil_of_length_eq_zero (by rw [k.1]; exact h0)
        subst e
        exact ⟨[], rfl, fun j v h => by simp at h, fun v h => by simp at h, fun i h => absurd h (by simp)⟩
      · obtain ⟨b, off, e, hlt, ha⟩ := k.2.2 h0
        injection e with e
        subst e
        obtain ⟨ns, l, h1, h2, h3⟩ := ha.cells
        exact ⟨ns, l, fun j v hv => by rw [Addr.add_lit]; exact h1 j v hv, h2, h3⟩
    obtain ⟨ns, nl, n1, n2, n3⟩ := hsrc
    obtain ⟨V', u', hr, h1, hg1, _, hat⟩ := run_append_own_at (P := Tryz.prog) (w := u) B 27 ty 29 i0 _ 3 56 Tryz.underlying27 hi5 hz0 hz1 hz2 rfl (by decide) V ks.length xs hown ad n c ns (by rw [nl, k.1]) n1 n2 (by unfold maxLen; omega) (by omega) h.hi
    have hkeep : ∀ b, b < u.heap.size → V.ownBlock ≠ some b → u'.heap[b]? = u.heap[b]? := fun b hb hne => hg1.block b hb (fun e => hne e.symm)
    have hlow : Below B u u' := ⟨hg1.os, hg1.tape, hg1.output, hg1.size, fun x hx => hkeep x (Nat.lt_of_lt_of_le hx h.hi) (fun e => by have := (h.lt e).1; omega)⟩
    have hAp : ∀ b, b < u.heap.size → (B ≤ b ∧ V.ownBlock ≠ some b) → (B ≤ b ∧ V'.ownBlock ≠ some b) ∧ u'.heap[b]? = u.heap[b]? := by
      intro b hb hp
      refine ⟨⟨hp.1, ?_⟩, hkeep b hb hp.2⟩
      rcases hat with h' | h'
      · rw [h']
        exact hp.2
      · rw [h']
        intro e
        injection e with e
        omega
    have hxl : xs.length = ks.length * 3 := hown.1
    refine ⟨V', u', hr, ⟨Below.trans h.bel (Below.mono hlow h.lo), h.lo, Nat.le_trans h.hi hg1.size, xs ++ ns, by rw [List.length_append, k.1]; exact h1, fun i hi => ?_⟩, hg1.size, hlow, hkeep⟩
    rw [List.length_append] at hi
    rcases Nat.lt_or_ge i ks.length with hlt | hge
    · obtain ⟨v0, v1, v2, e0, e1, e2, hin⟩ := hks i hlt
      refine ⟨v0, v1, v2, ?_, ?_, ?_, ?_⟩
      · rw [List.getElem?_append_left (by omega)]; exact e0
      · rw [List.getElem?_append_left (by omega)]; exact e1
      · rw [List.getElem?_append_left (by omega)]; exact e2
      · rw [List.getElem_append_left hlt]
        exact T.InP.keep hAp hg1.size _ hin
    · obtain ⟨v0, v1, v2, e0, e1, e2, hin⟩ := n3 (i - ks.length) (by omega)
      refine ⟨v0, v1, v2, ?_, ?_, ?_, ?_⟩
      · rw [List.getElem?_append_right (by omega), hxl, show i * 3 - ks.length * 3 = (i - ks.length) * 3 by omega]; exact e0
      · rw [List.getElem?_append_right (by omega), hxl, show i * 3 + 1 - ks.length * 3 = (i - ks.length) * 3 + 1 by omega]; exact e1
      · rw [List.getElem?_append_right (by omega), hxl, show i * 3 + 2 - ks.length * 3 = (i - ks.length) * 3 + 2 by omega]; exact e2
      · rw [List.getElem_append_right hge]
        exact T.InP.keep hAp hg1.size _ hin
theorem op_kout_append {o : Oper} {a : Act} {K : Act → World → Prop} {Q : Exit → Act → World → Prop} {w u : World} {B : Nat} {V : Value} {ks ts : List T} {A : Option Addr} {n c : Nat} (h : KOut w B u V ks) (s x : Operand)
    (hop : o.op = .call { callee := .builtin .append, args := #[s, x], argTypes := #[27, 27] }) (hs : a.eval s = V) (hx : a.eval x = .slice A n c) (k : KidsAt (fun b => B ≤ b ∧ V.ownBlock ≠ some b) u A n c ts) (hl : ks.length + n ≤ 100000)
    (hK : ∀ V' u', KOut w B u' V' (ks ++ ts) → u.heap.size ≤ u'.heap.size → Below B u u' → (∀ x, x < u.heap.size → V.ownBlock ≠ some x → u'.heap[x]? = u.heap[x]?) → K (a.put o.dst V') u') : o.wp Tryz.prog a u K Q := by
  obtain ⟨V', u', hr, h1, h2, h3, h4⟩ := kout_append h k hl o.type
  refine op_of_run V' u' ?_ (hK V' u' h1 h2 h3 h4)
  unfold execOp
  simp only [hop, resolve, invoke, builtin, Sem.run_bind, Sem.run_pure, Result.andThen_ok, List.map_toArray, List.map_cons, List.map_nil, hs, hx, hr]
theorem kout_append_at {ops : Array Oper} {rest : List Oper} {a : Act} {Q : Exit → Act → World → Prop} {dst : Option Tmp} {t' : TypeId} {pos : String} {aft : Array Edge} {w u : World} {B : Nat} {V : Value} {ks ts : List T} {A : Option Addr} {n c : Nat} (s x : Nat) (h : KOut w B u V ks) (hs : a.eval (.tmp s) = V) (hx : a.eval (.tmp x) = .slice A n c) (k : KidsAt (fun b => B ≤ b ∧ V.ownBlock ≠ some b) u A n c ts) (hl : ks.length + n ≤ 100000)
    (hK : ∀ V' u', KOut w B u' V' (ks ++ ts) → u.heap.size ≤ u'.heap.size → Below B u u' → (∀ x, x < u.heap.size → V.ownBlock ≠ some x → u'.heap[x]? = u.heap[x]?) → wpList Tryz.prog ops Q rest (a.put dst V') u') :
    wpList Tryz.prog ops Q ({ dst := dst, op := .call { callee := .builtin .append, args := #[.tmp s, .tmp x], argTypes := #[27, 27] }, type := t', pos := pos, after := aft, guard := none } :: rest) a u :=
  wpList_plain rfl fun K hK2 => op_kout_append h (.tmp s) (.tmp x) rfl hs hx k hl (fun V' u' h1 h2 h3 h4 => hK2 _ _ (hK V' u' h1 h2 h3 h4))
theorem built_two (a0 a1 a2 b0 b1 b2 : Value) : Tryz.prog.builtSlice 29 2 [(0, .agg #[a0, a1, a2]), (1, .agg #[b0, b1, b2])] = some #[a0, a1, a2, b0, b1, b2] := by kernel_rfl
theorem built_oneN (a0 a1 a2 : Value) : Tryz.prog.builtSlice 29 1 [(0, .agg #[a0, a1, a2])] = some #[a0, a1, a2] := by kernel_rfl
theorem op_two_kids {o : Oper} {a : Act} {K : Act → World → Prop} {Q : Exit → Act → World → Prop} {u : World} {P : Nat → Prop} {t1 t2 : T} {a0 a1 a2 b0 b1 b2 : Value} (h1 : t1.InP P u (.agg #[a0, a1, a2])) (h2 : t2.InP P u (.agg #[b0, b1, b2])) (parts : Array (Nat × Operand)) (ho : o.op = .buildSlice 27 2 parts)
    (hps : (parts.map fun (i, x) => (i, a.eval x)).toList = [(0, .agg #[a0, a1, a2]), (1, .agg #[b0, b1, b2])]) (hK : ∀ H u', KidsAt P u' (some ⟨H, 0, none⟩) 2 2 [t1, t2] → Below u.heap.size u u' → K (a.put o.dst (.slice (some ⟨H, 0, none⟩) 2 2)) u') : o.wp Tryz.prog a u K Q := by
  refine op_buildSlice 27 29 2 parts ho Tryz.underlying27 _ _ (built_two a0 a1 a2 b0 b1 b2) hps (hK u.heap.size _ ⟨rfl, (fun e => by cases e), fun _ => ⟨_, 0, rfl, by simp, T.InPAll.of fun i hi => ?_⟩⟩ (box_below _ _))
  have hc := fun j => Blk.cell (Blk.new u 29 #[a0, a1, a2, b0, b1, b2]) j
  have hb := box_below u (.cells #[a0, a1, a2, b0, b1, b2] 29)
  rcases (show i = 0 ∨ i = 1 by simp only [List.length_cons, List.length_nil] at hi; omega) with rfl | rfl
  · exact ⟨_, _, _, hc 0, hc 1, hc 2, T.InP.below hb (fun _ h => h) _ h1⟩
  · exact ⟨_, _, _, hc 3, hc 4, hc 5, T.InP.below hb (fun _ h => h) _ h2⟩
theorem one_kid_at {ops : Array Oper} {rest : List Oper} {a : Act} {Q : Exit → Act → World → Prop} {dst : Option Tmp} {t' : TypeId} {pos : String} {aft : Array Edge} {u : World} {P : Nat → Prop} {t : T} {a0 a1 a2 : Value} (k : Nat) (h : t.InP P u (.agg #[a0, a1, a2])) (hx : a.eval (.tmp k) = .agg #[a0, a1, a2])
    (hK : ∀ H u', KidsAt P u' (some ⟨H, 0, none⟩) 1 1 [t] → Below u.heap.size u u' → wpList Tryz.prog ops Q rest (a.put dst (.slice (some ⟨H, 0, none⟩) 1 1)) u') :
    wpList Tryz.prog ops Q ({ dst := dst, op := .buildSlice 27 1 #[(0, .tmp k)], type := t', pos := pos, after := aft, guard := none } :: rest) a u := by
  refine wpList_plain rfl fun K hK2 => op_buildSlice 27 29 1 #[(0, .tmp k)] rfl Tryz.underlying27 _ _ (built_oneN a0 a1 a2) (by simp only [List.map_toArray, List.map_cons, List.map_nil, hx]) (hK2 _ _ (hK u.heap.size _ ⟨rfl, (fun e => by cases e), fun _ => ⟨_, 0, rfl, by simp, T.InPAll.of fun i hi => ?_⟩⟩ (box_below _ _)))
  have hc := fun j => Blk.cell (Blk.new u 29 #[a0, a1, a2]) j
  have hb := box_below u (.cells #[a0, a1, a2] 29)
  obtain rfl : i = 0 := by simp only [List.length_cons, List.length_nil] at hi; omega
  exact ⟨_, _, _, hc 0, hc 1, hc 2, T.InP.below hb (fun _ h => h) _ h⟩
end Go.Proofs.YtlmndmfebgaidaaGreatDoor
namespace Go.Proofs.YtlmndmfebgaidaaGreatDoor
open Go.RowKit
set_option linter.unusedVariables false
set_option linter.unusedSimpArgs false
set_option maxRecDepth 100000
theorem out_nil8 {w : World} {o : Obj} : Out (w.alloc o) ((w.alloc o).alloc (.cells #[] 5)) (.slice (some ⟨w.heap.size + 1, 0, none⟩) 0 0) [] := by
  have h := Out.made (W0 := w.alloc o) 0 (by omega)
  rw [show (w.alloc o).heap.size = w.heap.size + 1 by simp, show madeCells #[.int .u8 0] 0 = #[] by simp [madeCells]] at h
  exact h
theorem GivesNode.wider {t : T} {w w1 w' : World} {e : Ending} (hb : Below w.heap.size w w1) (h : GivesNode t w1 e w') : GivesNode t w e w' := by
  obtain ⟨A, n, c, K, m, d, e, hin, hb'⟩ := h
  exact ⟨A, n, c, K, m, d, e, T.InP.keep (fun b _ hp => ⟨Nat.le_trans hb.size hp, rfl⟩) (Nat.le_refl _) _ hin, Below.step hb hb'⟩
theorem arr_row {w : World} {g : Nat} {t : TypeId} {A : List Int} (hA : Sixteen A) (h : Blk w g t (acells A).toArray) (n : Nat) (hn : n ≤ 16) : Row w (some ⟨g, 0, none⟩) n (A.take n) := by
  refine ⟨by rw [List.length_take, hA.1]; omega, fun x hx => hA.2 x (List.mem_of_mem_take hx), fun h0 => ⟨g, 0, rfl, h.lt, fun i hi => ?_⟩⟩
  rw [Nat.zero_add, Blk.cell h i, List.getElem?_toArray]
  unfold acells
  rw [List.getElem?_map, List.getElem?_take, if_pos hi, List.getElem?_eq_getElem (by rw [hA.1]; omega)]
  rfl
theorem gives_leaf1 {w w1 W W0 : World} {tmps : Array Value} {fn : Func} {p : Tmp} {z : Int} {zs : List Int} {a : Option Addr} {c : Nat} (hw : w1.heap.size = w.heap.size + 1) (hb1 : Below w.heap.size w w1) (hf : fn.results = #[.cell p 29]) (hp : tmps.getD p undef = .pointer (some ⟨w.heap.size + 1, 0, none⟩)) (hrb : RB w1 W) (ho : Out W0 W (.slice a zs.length c) zs) (hW : w1.heap.size < W0.heap.size) (hz : (Lit.int .i64 z).wf = true) (hb : ∀ x ∈ zs, 0 ≤ x ∧ x ≤ 255) (hn : zs.length ≤ 1000000) :
    bodyPost Tryz.prog fn (GivesNode (.node z zs []) w) .ret { tmps := tmps, defers := [] } (((W.setCell ⟨w.heap.size + 1, 0, none⟩ (.int .i64 z)).setCell ⟨w.heap.size + 1, 1, none⟩ (.slice a zs.length c)).setCell ⟨w.heap.size + 1, 2, none⟩ (.slice none 0 0)) := by
  obtain ⟨h1, h2⟩ := hrb.boxed (.int .i64 z) (.slice a zs.length c) (.slice none 0 0)
  obtain ⟨a', c', e, hr⟩ := ho.row hb
  injection e with e1 e2 e3
  subst e1
  have h3 := boxed_row (w := w1) hr (fun h0 => by
    obtain ⟨b, off, e, hb⟩ := out_off ho h0
    exact ⟨b, off, e, by omega⟩) (.int .i64 z) (.slice a zs.length c) (.slice none 0 0)
  unfold boxed at h1 h2 h3
  simp only [hw] at h1 h2 h3
  refine bodyPost_ret (results_cell_row hf _ _ (w.heap.size + 1) 29 #[.int .i64 z, .slice a zs.length c, .slice none 0 0] (0, 0) _ hp h1 Tryz.underlying29 rfl Tryz.sizeNode3) rfl ⟨a, zs.length, c, none, 0, 0, rfl, leaf_inP hz h3 hn ho.nilc (fun h0 => by
    obtain ⟨b, off, e, hb⟩ := out_off ho h0
    exact ⟨b, off, e, by omega⟩), hb1.trans (h2.mono (by omega))⟩
set_option maxHeartbeats 2000000 in
theorem rbytes13_any (v : Bool) (A : List Int) (w : World) (hA : Sixteen A) : Calls Tryz.prog 31 #[.bool v, .agg (acells A).toArray] w (GivesNode (addrT v A) w) := by
  have BX := Lib.hid (Blk.new w 41 (acells A).toArray)
  have BW := Lib.hid (box_below w (.cells (acells A).toArray 41))
  have HW : (w.alloc (.cells (acells A).toArray 41)).heap.size = w.heap.size + 1 := by simp
  go_enter Tryz.func31, Tryz.ntmps31
  generalize hw1 : w.alloc (.cells (acells A).toArray 41) = w1 at *
  have S0 := Lib.hid (RB.start w1)
  have hE := out_nil8 (w := w1) (o := .cells #[.int .i64 0, .slice none 0 0, .slice none 0 0] 29)
  have hB1 := Blk.alloc BX.out (.cells #[.int .i64 0, .slice none 0 0, .slice none 0 0] 29)
  rw [HW] at hE
  have W2 : Hid (w1.heap.size < (w1.alloc (.cells #[.int .i64 0, .slice none 0 0, .slice none 0 0] 29)).heap.size) := Lib.hid (by simp)
  cases v with
  | false =>
    have R2 := Lib.hid (arr_row hA hB1 4 (by decide))
    have NL : Hid ((A.take 4).length = 4) := Lib.hid R2.out.1
    have GB : Hid (∀ x ∈ A.take 4, 0 ≤ x ∧ x ≤ 255) := Lib.hid R2.out.2.1
    have R3 := Lib.hid (R2.out.below (box_below _ (.cells #[] 5)))
    have S3 := Lib.hid (S0.out.go (box_below _ (.cells #[] 5)))
    have E3 := Lib.hid hE
    have EA : Hid (addrT false A = .node 4 (A.take 4) []) := Lib.hid rfl
    clear R2 hB1 hE
    generalize A.take 4 = zs at *
    go_wp2_with (at_builtin; go_must (refine out_append (W0 := w1.alloc (.cells #[.int .i64 0, .slice none 0 0, .slice none 0 0] 29)) (L := []) (zs := zs) rfl _ _ rfl rfl E3.out rfl R3.out (fun e => by cases e) (by simp) ?_; intro V4 w4 ho4; rw [List.nil_append] at ho4; have O4 := Lib.hid ho4; have S4 := Lib.hid (S0.out.go ho4.2); obtain ⟨p0, p1, p2, f0, f1, f2⟩ := S4.out.box.six; rw [HW] at p0 p1 p2 f0 f1 f2; obtain ⟨b4, c4, rfl, hr4⟩ := ho4.row GB.out; clear ho4))
    rw [EA.out]
    exact gives_leaf1 HW BW.out rfl rfl S4.out O4.out W2.out rfl GB.out (by rw [NL.out]; decide)
  | true =>
    have R2 := Lib.hid (arr_row hA hB1 16 (by decide))
    have NL : Hid ((A.take 16).length = 16) := Lib.hid R2.out.1
    have GB : Hid (∀ x ∈ A.take 16, 0 ≤ x ∧ x ≤ 255) := Lib.hid R2.out.2.1
    have R3 := Lib.hid (R2.out.below (box_below _ (.cells #[] 5)))
    have S3 := Lib.hid (S0.out.go (box_below _ (.cells #[] 5)))
    have E3 := Lib.hid hE
    have EA : Hid (addrT true A = .node 4 (A.take 16) []) := Lib.hid rfl
    clear R2 hB1 hE
    generalize A.take 16 = zs at *
    go_wp2_with (at_builtin; go_must (refine out_append (W0 := w1.alloc (.cells #[.int .i64 0, .slice none 0 0, .slice none 0 0] 29)) (L := []) (zs := zs) rfl _ _ rfl rfl E3.out rfl R3.out (fun e => by cases e) (by simp) ?_; intro V4 w4 ho4; rw [List.nil_append] at ho4; have O4 := Lib.hid ho4; have S4 := Lib.hid (S0.out.go ho4.2); obtain ⟨p0, p1, p2, f0, f1, f2⟩ := S4.out.box.six; rw [HW] at p0 p1 p2 f0 f1 f2; obtain ⟨b4, c4, rfl, hr4⟩ := ho4.row GB.out; clear ho4))
    rw [EA.out]
    exact gives_leaf1 HW BW.out rfl rfl S4.out O4.out W2.out rfl GB.out (by rw [NL.out]; decide)
end Go.Proofs.YtlmndmfebgaidaaGreatDoor
namespace Go.Proofs.YtlmndmfebgaidaaGreatDoor
open Go.RowKit
set_option linter.unusedVariables false
set_option linter.unusedSimpArgs false
set_option maxRecDepth 100000
set_option maxHeartbeats 1000000 in
theorem cloneO_any (b : Addr) (n ca : Nat) (zs : List Int) (w : World) (hr : Row w (some b) n zs) (hn : n ≤ 1000000) : Calls Tryz.prog 83 #[.slice (some b) n ca] w fun e w' => ∃ V, e = .returned V ∧ Out w w' V zs := by
  have q22 : ∀ (w : World) (a : Option Addr) (n c n' c' : Nat), (binOp .eql 26 (.slice a n c) (.slice none n' c')).run Tryz.prog w = .ok (.bool a.isNone) w := fun w a n c n' c' => Lib.run_eql_slice_nil w _ _ a n c n' c' Tryz.underlying26
  have RX := Lib.hid (hr.below ((Below.refl w.heap.size w).alloc (Nat.le_refl _) (.cells #[] 5)))
  clear hr
  go_enter Tryz.func83, Tryz.ntmps83
  go_wp2_with (at_builtin; go_must (refine out_append (W0 := w) (L := []) (zs := zs) rfl _ _ rfl rfl (out_zero w) rfl RX.out (fun e => by cases e) (by simp; omega) ?_; intro V1 w1 ho1; rw [List.nil_append] at ho1; have HO := Lib.hid ho1; clear ho1))
  go_ret
  exact ⟨_, rfl, HO.out⟩
def famV (v : Bool) : Array Value := #[.bool v, .int .i64 (famW v : Int)]
theorem gives_leafX {w W : World} {tmps : Array Value} {fn : Func} {p : Tmp} {z : Int} {zs : List Int} {a : Option Addr} {c g : Nat} {x0 x1 x2 : Value} (hf : fn.results = #[.cell p 29]) (hp : tmps.getD p undef = .pointer (some ⟨g, 0, none⟩)) (hb : Blk W g 29 #[x0, x1, x2]) (hr : Row W a zs.length zs) (hnil : a = none → c = 0) (hfar : 0 < zs.length → ∃ b off, a = some ⟨b, off, none⟩ ∧ w.heap.size ≤ b ∧ b ≠ g) (hbel : Below w.heap.size w W) (hg : w.heap.size ≤ g) (hz : (Lit.int .i64 z).wf = true) (hn : zs.length ≤ 1000000) :
    bodyPost Tryz.prog fn (GivesNode (.node z zs []) w) .ret { tmps := tmps, defers := [] } (((W.setCell ⟨g, 0, none⟩ (.int .i64 z)).setCell ⟨g, 1, none⟩ (.slice a zs.length c)).setCell ⟨g, 2, none⟩ (.slice none 0 0)) := by
  have h1 : Blk (((W.setCell ⟨g, 0, none⟩ (.int .i64 z)).setCell ⟨g, 1, none⟩ (.slice a zs.length c)).setCell ⟨g, 2, none⟩ (.slice none 0 0)) g 29 #[.int .i64 z, .slice a zs.length c, .slice none 0 0] := ((Blk.set hb 0 _).set 1 _).set 2 _
  have h3 : Row (((W.setCell ⟨g, 0, none⟩ (.int .i64 z)).setCell ⟨g, 1, none⟩ (.slice a zs.length c)).setCell ⟨g, 2, none⟩ (.slice none 0 0)) a zs.length zs := by
    refine ⟨hr.1, hr.2.1, fun h0 => ?_⟩
    obtain ⟨b, off, e, hlt, hc⟩ := hr.2.2 h0
    obtain ⟨b', off', e', _, hne⟩ := hfar h0
    rw [e] at e'
    obtain ⟨rfl, rfl⟩ : b = b' ∧ off = off' := by simpa using e'
    refine ⟨b, off, e, by simpa using hlt, fun i hi => (World.cell?_of_block (a := ⟨b, off + i, none⟩) ?_).trans (hc i hi)⟩
    show _ = W.heap[b]?
    rw [heap_setCell_other _ _ _ _ hne, heap_setCell_other _ _ _ _ hne, heap_setCell_other _ _ _ _ hne]
  exact bodyPost_ret (results_cell_row hf _ _ g 29 #[.int .i64 z, .slice a zs.length c, .slice none 0 0] (0, 0) _ hp h1 Tryz.underlying29 rfl Tryz.sizeNode3) rfl ⟨a, zs.length, c, none, 0, 0, rfl, leaf_inP hz h3 hn hnil (fun h0 => by
    obtain ⟨b, off, e, hb, _⟩ := hfar h0
    exact ⟨b, off, e, hb⟩), ((hbel.setCell (p := ⟨g, 0, none⟩) hg _).setCell (p := ⟨g, 1, none⟩) hg _).setCell (p := ⟨g, 2, none⟩) hg _⟩
set_option maxHeartbeats 2000000 in
theorem address13_any (v : Bool) (A : List Int) (w : World) (hA : Sixteen A) : Calls Tryz.prog 53 #[.agg (famV v), .agg (acells A).toArray] w (GivesNode (addrT v A) w) := by
  have ws1 : (w.alloc (.cells (famV v) 58)).heap.size = w.heap.size + 1 := by simp
  have ws2 : ((w.alloc (.cells (famV v) 58)).alloc (.cells (acells A).toArray 41)).heap.size = w.heap.size + 1 + 1 := by simp
  have K0 := Blk.alloc (Blk.alloc (Blk.new w 58 (famV v)) (.cells (acells A).toArray 41)) (.cells #[.int .i64 0, .slice none 0 0, .slice none 0 0] 29)
  have K1 := Blk.alloc (Blk.new (w.alloc (.cells (famV v) 58)) 41 (acells A).toArray) (.cells #[.int .i64 0, .slice none 0 0, .slice none 0 0] 29)
  have K2 := Blk.new ((w.alloc (.cells (famV v) 58)).alloc (.cells (acells A).toArray 41)) 29 #[.int .i64 0, .slice none 0 0, .slice none 0 0]
  rw [ws1] at K1
  rw [ws2] at K2
  have BW := Lib.hid (Below.step (Below.step (box_below w (.cells (famV v) 58)) (box_below _ (.cells (acells A).toArray 41))) (box_below _ (.cells #[.int .i64 0, .slice none 0 0, .slice none 0 0] 29)))
  generalize hw2 : ((w.alloc (.cells (famV v) 58)).alloc (.cells (acells A).toArray 41)).alloc (.cells #[.int .i64 0, .slice none 0 0, .slice none 0 0] 29) = w2 at *
  obtain ⟨g, hg⟩ : ∃ g, w.heap.size = g := ⟨_, rfl⟩
  have HG := Lib.hid hg
  rw [hg] at K0 K1 K2
  have f1 : w2.cell? ⟨g, 1, none⟩ = some (.int .i64 (famW v : Int)) := Blk.cell K0 1
  have BN := Lib.hid K2
  clear ws1 ws2 K0 K2
  cases v with
  | false =>
    have R2 := Lib.hid (arr_row hA K1 4 (by decide))
    have NL : Hid ((A.take 4).length = 4) := Lib.hid R2.out.1
    have GB : Hid (∀ x ∈ A.take 4, 0 ≤ x ∧ x ≤ 255) := Lib.hid R2.out.2.1
    have CL := Lib.hid (cloneO_any ⟨g + 1, 0, none⟩ 4 16 (A.take 4) w2 R2.out (by decide))
    have EA : Hid (addrT false A = .node 4 (A.take 4) []) := Lib.hid rfl
    have f2 : w2.cell? ⟨g, 1, none⟩ = some (.int .i64 4) := f1
    clear R2 K1 f1
    generalize A.take 4 = zs at *
    have TH : Hid (∀ j, j < 16 → True) := Lib.hid (fun _ _ => trivial)
    go_enter Tryz.func53, Tryz.ntmps53
    go_upto_region 1 with fail
    clear hw2
    go_wp2_with (first
      | (go_at_call 83
         refine CL.out.mono ?_
         rintro e w4 ⟨V4, rfl, ho4⟩
         obtain ⟨b4, c4, rfl, hr4⟩ := ho4.row GB.out
         have HF := Lib.hid (fun (h0 : 0 < zs.length) => out_off ho4 h0)
         have R4 := Lib.hid hr4
         have N4 := Lib.hid ho4.nilc
         replace BW := Lib.hid (Below.step BW.out ho4.2)
         have LT := Lib.hid BN.out.lt
         replace BN := Lib.hid (BN.out.below ho4.2 BN.out.lt)
         obtain ⟨p0, p1, p2, f0, f1, f2⟩ := Blk.six (show Blk _ _ _ #[.int .i64 0, .slice none 0 0, .slice none 0 0] from BN.out)
         clear hr4 ho4 CL))
    rw [EA.out]
    exact gives_leafX rfl rfl BN.out R4.out N4.out (fun h0 => by
      obtain ⟨b, off, e, hb⟩ := HF.out h0
      have := HG.out
      have := LT.out
      exact ⟨b, off, e, by omega, by omega⟩) BW.out (by have := HG.out; omega) rfl (by rw [NL.out]; decide)
  | true =>
    have R2 := Lib.hid (arr_row hA K1 16 (by decide))
    have NL : Hid ((A.take 16).length = 16) := Lib.hid R2.out.1
    have GB : Hid (∀ x ∈ A.take 16, 0 ≤ x ∧ x ≤ 255) := Lib.hid R2.out.2.1
    have CL := Lib.hid (cloneO_any ⟨g + 1, 0, none⟩ 16 16 (A.take 16) w2 R2.out (by decide))
    have EA : Hid (addrT true A = .node 4 (A.take 16) []) := Lib.hid rfl
    have f2 : w2.cell? ⟨g, 1, none⟩ = some (.int .i64 16) := f1
    clear R2 K1 f1
    generalize A.take 16 = zs at *
    have TH : Hid (∀ j, j < 16 → True) := Lib.hid (fun _ _ => trivial)
    go_enter Tryz.func53, Tryz.ntmps53
    go_upto_region 1 with fail
    clear hw2
    go_wp2_with (first
      | (go_at_call 83
         refine CL.out.mono ?_
         rintro e w4 ⟨V4, rfl, ho4⟩
         obtain ⟨b4, c4, rfl, hr4⟩ := ho4.row GB.out
         have HF := Lib.hid (fun (h0 : 0 < zs.length) => out_off ho4 h0)
         have R4 := Lib.hid hr4
         have N4 := Lib.hid ho4.nilc
         replace BW := Lib.hid (Below.step BW.out ho4.2)
         have LT := Lib.hid BN.out.lt
         replace BN := Lib.hid (BN.out.below ho4.2 BN.out.lt)
         obtain ⟨p0, p1, p2, f0, f1, f2⟩ := Blk.six (show Blk _ _ _ #[.int .i64 0, .slice none 0 0, .slice none 0 0] from BN.out)
         clear hr4 ho4 CL))
    rw [EA.out]
    exact gives_leafX rfl rfl BN.out R4.out N4.out (fun h0 => by
      obtain ⟨b, off, e, hb⟩ := HF.out h0
      have := HG.out
      have := LT.out
      exact ⟨b, off, e, by omega, by omega⟩) BW.out (by have := HG.out; omega) rfl (by rw [NL.out]; decide)
theorem two_kids_done {w u : World} {t1 t2 : T} {H : Nat} (h : KidsAt (w.heap.size ≤ ·) u (some ⟨H, 0, none⟩) 2 2 [t1, t2]) (hb : Below w.heap.size w u) : GivesKids [t1, t2] w (.returned (.slice (some ⟨H, 0, none⟩) 2 2)) u := ⟨_, _, _, rfl, h, hb⟩
theorem T.InP.wid {w w1 u : World} {t : T} {v : Value} (h : t.InP (w1.heap.size ≤ ·) u v) (hb : Below w.heap.size w w1) : t.InP (w.heap.size ≤ ·) u v := T.InP.keep (fun b _ hp => ⟨Nat.le_trans hb.size hp, rfl⟩) (Nat.le_refl _) _ h
theorem yields_part16 {o : Oper} {a : Act} {W : World} (x : Operand) (ho : o.op = .load 41 x) (b off : Nat) (A : List Int) (hA : Sixteen A) (hx : a.eval x = .pointer (some ⟨b, off, none⟩)) (hc : W.rangeAt b off (acells A)) : (execOp a.eval o).run Tryz.prog W = .ok (.value (.agg (acells A).toArray)) W :=
  yields_part 41 x ho b off (acells A) _ hx hc Tryz.underlying41 rfl (Tryz.sizeA hA.1)
theorem span_rangeL {w : World} {g : Nat} {s : SpanZ} (hs : SixS s) (h : Blk w g 62 (scells s)) : w.rangeAt g 1 (acells s.lo) ∧ w.rangeAt g 17 (acells s.hi) := by
  have hl : (acells s.lo).length = 16 := by unfold acells; rw [List.length_map]; exact hs.1.1
  constructor
  · intro i v hv
    have hi : i < 16 := by have := (List.getElem?_eq_some_iff.1 hv).1; omega
    rw [Blk.cell h (1 + i)]
    show (scL s).toArray[1 + i]? = _
    rw [List.getElem?_toArray, Nat.add_comm 1 i]
    unfold scL
    rw [List.getElem?_cons_succ, List.getElem?_append_left (by omega)]
    exact hv
  · intro i v hv
    rw [Blk.cell h (17 + i)]
    show (scL s).toArray[17 + i]? = _
    rw [List.getElem?_toArray, show 17 + i = (16 + i) + 1 by omega]
    unfold scL
    rw [List.getElem?_cons_succ, List.getElem?_append_right (by omega), hl, show 16 + i - 16 = i by omega]
    exact hv
theorem Tryz.sizeFam (v : Bool) : (Tryz.prog.info? 58).map (·.size) = some (famV v).size := by kernel_rfl
set_option maxHeartbeats 4000000 in
theorem ends13_any (v : Bool) (s : SpanZ) (w : World) (hs : SixS s) : Calls Tryz.prog 28 #[.agg (famV v), .agg (scells s)] w (GivesKids (if s.v = v then spanT s else []) w) := by
  have K0 := Blk.alloc (Blk.new w 58 (famV v)) (.cells (scells s) 62)
  have K1 := Blk.new (w.alloc (.cells (famV v) 58)) 62 (scells s)
  rw [show (w.alloc (.cells (famV v) 58)).heap.size = w.heap.size + 1 by simp] at K1
  have BW := Lib.hid (Below.step (box_below w (.cells (famV v) 58)) (box_below _ (.cells (scells s) 62)))
  generalize hw2 : (w.alloc (.cells (famV v) 58)).alloc (.cells (scells s) 62) = w2 at *
  obtain ⟨g, hg⟩ : ∃ g, w.heap.size = g := ⟨_, rfl⟩
  have HG := Lib.hid hg
  rw [hg] at K0 K1
  have c0 : w2.cell? ⟨g, 0, none⟩ = some (.bool v) := Blk.cell K0 0
  have c1 : w2.cell? ⟨g + 1, 0, none⟩ = some (.bool s.v) := Blk.cell K1 0
  have FB := Lib.hid K0
  have SB := Lib.hid K1
  have HS := Lib.hid hs
  have C1 := Lib.hid (fun W => address13_any v s.lo W hs.1)
  have C2 := Lib.hid (fun W => address13_any v s.hi W hs.2)
  have E0 : Hid (s.v ≠ v → (if s.v = v then spanT s else []) = []) := Lib.hid (fun h => if_neg h)
  have E1 : Hid (s.v = v → (if s.v = v then spanT s else []) = [addrT v s.lo, addrT v s.hi]) := Lib.hid (fun h => by rw [if_pos h, ← h]; rfl)
  have SZ := Lib.hid (Tryz.sizeFam v)
  clear K0 K1 hs
  generalize (if s.v = v then spanT s else []) = z at *
  generalize hFV : famV v = FV at *
  clear hFV
  generalize hSC : scells s = SC at *
  have ESC := Lib.hid hSC
  clear hSC
  go_enter Tryz.func28, Tryz.ntmps28
  go_upto_region 1 with fail
  clear hw2
  by_cases hv : s.v = v
  · have e := E1.out hv
    subst e
    have t0 : (s.v != v) = false := by rw [hv]; simp
    have t1 : (s.v == v) = true := by rw [hv]; simp
    clear E0 E1
    go_upto_region 3 with fail
    clear c0 c1 t0 t1
    refine wp_region_ord Ext Ext.refl (fun _ _ _ => Ext.trans) ((0, false) :: (1, false) :: (2, false) :: (4, false) :: (5, false) :: (6, false) :: (3, true) :: (7, true) :: (8, true) :: (9, false) :: []) (by kernel_rfl) (by kernel_rfl) rfl (by kernel_rfl) (fun _ _ _ _ _ h => h) ?_
    change wpOrd _ _ _ _ _ _ (w2.drewN 1)
    have D1 := drewN_below w2 1
    replace BW := Lib.hid (Below.step BW.out D1)
    replace FB := Lib.hid (FB.out.below D1 FB.out.lt)
    replace SB := Lib.hid (SB.out.below D1 SB.out.lt)
    clear D1
    generalize w2.drewN 1 = w3 at *
    have RG : Hid (∀ W, Ext w3 W → W.rangeAt (g + 1) 1 (acells s.lo) ∧ W.rangeAt (g + 1) 17 (acells s.hi)) := Lib.hid (fun W hW => span_rangeL HS.out (by rw [ESC.out]; exact SB.out.below hW SB.out.lt))
    have SL := Lib.hid HS.out.1
    have SH := Lib.hid HS.out.2
    repeat (first
      | (refine ord_skip rfl (by rfl) ?_; simp only [Act.put, List.setIfInBounds_toArray, List.set_cons_zero, List.set_cons_succ])
      | (refine ord_take _ rfl (by rfl) (fun W hW => yields_row 58 (.tmp 2) rfl g 58 FV _ rfl (FB.out.below hW FB.out.lt) Tryz.underlying58 rfl SZ.out) ?_; simp only [Act.put, List.setIfInBounds_toArray, List.set_cons_zero, List.set_cons_succ])
      | (refine ord_take _ rfl (by rfl) (fun W hW => yields_part16 (.tmp 11) rfl (g + 1) 1 s.lo SL.out rfl (RG.out W hW).1) ?_; simp only [Act.put, List.setIfInBounds_toArray, List.set_cons_zero, List.set_cons_succ])
      | (refine ord_take _ rfl (by rfl) (fun W hW => yields_part16 (.tmp 15) rfl (g + 1) 17 s.hi SH.out rfl (RG.out W hW).2) ?_; simp only [Act.put, List.setIfInBounds_toArray, List.set_cons_zero, List.set_cons_succ])
      | (refine ord_take _ rfl (by rfl) (fun W hW => by go_simp; first | done | rfl) ?_; simp only [Act.put, List.setIfInBounds_toArray, List.set_cons_zero, List.set_cons_succ])
      | (refine ord_sole rfl (by rfl) (fun K1 hK1 => ?_)
         refine op_two_kids I1.out I2.out _ rfl (by kernel_rfl) ?_
         intro H u3 hk3 hb3
         refine hK1 _ _ hb3 ?_
         have KA := Lib.hid hk3
         replace BW := Lib.hid (Below.step BW.out hb3)
         clear hK1 K1 hk3 hb3 I1 I2
         try simp only [Act.put, List.setIfInBounds_toArray, List.set_cons_zero, List.set_cons_succ])
      | (refine ord_sole rfl (by rfl) (fun K1 hK1 => ?_)
         go_simp
         refine (C1.out _).mono ?_
         rintro e v1 ⟨A1, n1, c1, L1, m1, d1, rfl, hin1, hb1⟩
         refine hK1 _ _ hb1 ?_
         have I1 := Lib.hid (T.InP.wid hin1 BW.out)
         replace BW := Lib.hid (Below.step BW.out hb1)
         clear hK1 K1 hin1 hb1 C1
         try simp only [Act.put, List.setIfInBounds_toArray, List.set_cons_zero, List.set_cons_succ])
      | (refine ord_sole rfl (by rfl) (fun K1 hK1 => ?_)
         go_simp
         refine (C2.out _).mono ?_
         rintro e v2 ⟨A2, n2, c2, L2, m2, d2, rfl, hin2, hb2⟩
         refine hK1 _ _ hb2 ?_
         have I2 := Lib.hid (T.InP.wid hin2 BW.out)
         replace I1 := Lib.hid (T.InP.below hb2 (fun _ h => h) _ I1.out)
         replace BW := Lib.hid (Below.step BW.out hb2)
         clear hK1 K1 hin2 hb2 C2
         try simp only [Act.put, List.setIfInBounds_toArray, List.set_cons_zero, List.set_cons_succ]))
    refine ord_end ?_
    go_wp2_with fail
    go_ret
    exact two_kids_done KA.out BW.out
  · have e := E0.out hv
    subst e
    have t0 : (s.v != v) = true := by simpa using hv
    have t1 : (s.v == v) = false := by simpa using hv
    clear E0 E1
    go_wp2_with fail
    go_ret
    exact ⟨none, 0, 0, rfl, KidsAt.nil _ _, BW.out⟩
set_option maxHeartbeats 4000000 in
theorem numEnds13_any (p : Nat × Nat) (w : World) (hp : OkR p) : Calls Tryz.prog 30 #[.agg (rcells p)] w (GivesKids (rangeT p) w) := by
  have K0 := Blk.new w 54 (rcells p)
  have BW := Lib.hid (box_below w (.cells (rcells p) 54))
  generalize hw2 : w.alloc (.cells (rcells p) 54) = w2 at *
  obtain ⟨g, hg⟩ : ∃ g, w.heap.size = g := ⟨_, rfl⟩
  have HG := Lib.hid hg
  rw [hg] at K0
  have RB := Lib.hid K0
  have q1 : IntKind.u64.wrap (p.1 : Int) = (p.1 : Int) := IntWalk.u64_in _ (by have := hp.1; omega)
  have q2 : IntKind.u64.wrap (p.2 : Int) = (p.2 : Int) := IntWalk.u64_in _ (by have := hp.2; omega)
  have C1 := Lib.hid (fun W => int_any (p.1 : Int) W (by omega) (by have := hp.1; omega))
  have C2 := Lib.hid (fun W => int_any (p.2 : Int) W (by omega) (by have := hp.2; omega))
  have EZ : Hid (rangeT p = [intT (p.1 : Int), intT (p.2 : Int)]) := Lib.hid rfl
  rw [EZ.out]
  clear K0 EZ hp
  go_enter Tryz.func30, Tryz.ntmps30
  go_upto_region 1 with fail
  clear hw2
  refine wp_region_ord Ext Ext.refl (fun _ _ _ => Ext.trans) ((0, false) :: (1, false) :: (2, false) :: (4, false) :: (5, false) :: (6, false) :: (3, true) :: (7, true) :: (8, true) :: (9, false) :: []) (by kernel_rfl) (by kernel_rfl) rfl (by kernel_rfl) (fun _ _ _ _ _ h => h) ?_
  change wpOrd _ _ _ _ _ _ (w2.drewN 1)
  have D1 := drewN_below w2 1
  replace BW := Lib.hid (Below.step BW.out D1)
  replace RB := Lib.hid (RB.out.below D1 RB.out.lt)
  clear D1
  generalize w2.drewN 1 = w3 at *
  repeat (first
    | (refine ord_skip rfl (by rfl) ?_; simp only [Act.put, List.setIfInBounds_toArray, List.set_cons_zero, List.set_cons_succ])
    | (refine ord_take _ rfl (by rfl) (fun W hW => yields_u32 (.tmp 3) rfl g 0 (.int .u32 (p.1 : Int)) rfl (Blk.cell (RB.out.below hW RB.out.lt) 0)) ?_; simp only [Act.put, List.setIfInBounds_toArray, List.set_cons_zero, List.set_cons_succ])
    | (refine ord_take _ rfl (by rfl) (fun W hW => yields_u32 (.tmp 7) rfl g 1 (.int .u32 (p.2 : Int)) rfl (Blk.cell (RB.out.below hW RB.out.lt) 1)) ?_; simp only [Act.put, List.setIfInBounds_toArray, List.set_cons_zero, List.set_cons_succ])
    | (refine ord_take _ rfl (by rfl) (fun W hW => by go_simp; first | done | rfl) ?_; simp only [Act.put, List.setIfInBounds_toArray, List.set_cons_zero, List.set_cons_succ])
    | (refine ord_sole rfl (by rfl) (fun K1 hK1 => ?_)
       refine op_two_kids I1.out I2.out _ rfl (by kernel_rfl) ?_
       intro H u3 hk3 hb3
       refine hK1 _ _ hb3 ?_
       have KA := Lib.hid hk3
       replace BW := Lib.hid (Below.step BW.out hb3)
       clear hK1 K1 hk3 hb3 I1 I2
       try simp only [Act.put, List.setIfInBounds_toArray, List.set_cons_zero, List.set_cons_succ])
    | (refine ord_sole rfl (by rfl) (fun K1 hK1 => ?_)
       go_simp
       refine (C1.out _).mono ?_
       rintro e v1 ⟨A1, n1, c1, L1, m1, d1, rfl, hin1, hb1⟩
       refine hK1 _ _ hb1 ?_
       have I1 := Lib.hid (T.InP.wid hin1 BW.out)
       replace BW := Lib.hid (Below.step BW.out hb1)
       clear hK1 K1 hin1 hb1 C1
       try simp only [Act.put, List.setIfInBounds_toArray, List.set_cons_zero, List.set_cons_succ])
    | (refine ord_sole rfl (by rfl) (fun K1 hK1 => ?_)
       go_simp
       refine (C2.out _).mono ?_
       rintro e v2 ⟨A2, n2, c2, L2, m2, d2, rfl, hin2, hb2⟩
       refine hK1 _ _ hb2 ?_
       have I2 := Lib.hid (T.InP.wid hin2 BW.out)
       replace I1 := Lib.hid (T.InP.below hb2 (fun _ h => h) _ I1.out)
       replace BW := Lib.hid (Below.step BW.out hb2)
       clear hK1 K1 hin2 hb2 C2
       try simp only [Act.put, List.setIfInBounds_toArray, List.set_cons_zero, List.set_cons_succ]))
  refine ord_end ?_
  go_wp2_with fail
  go_ret
  exact two_kids_done KA.out BW.out
end Go.Proofs.YtlmndmfebgaidaaGreatDoor
namespace Go.Proofs.YtlmndmfebgaidaaGreatDoor
open Go.RowKit
set_option linter.unusedVariables false
set_option linter.unusedSimpArgs false
set_option maxRecDepth 100000
def StillV (t : Nat) (V : Value) (a b : World) : Prop := a.heap.size ≤ b.heap.size ∧ ∀ c, c < a.heap.size → c ≠ t → V.ownBlock ≠ some c → b.heap[c]? = a.heap[c]?
theorem StillV.refl (t : Nat) (V : Value) (a : World) : StillV t V a a := ⟨Nat.le_refl _, fun _ _ _ _ => rfl⟩
theorem StillV.trans {t : Nat} {V : Value} (a b c : World) (h : StillV t V a b) (k : StillV t V b c) : StillV t V a c := ⟨Nat.le_trans h.1 k.1, fun x h1 h2 h3 => (k.2 x (Nat.lt_of_lt_of_le h1 h.1) h2 h3).trans (h.2 x h1 h2 h3)⟩
theorem StillV.below {t : Nat} {V : Value} {a b : World} (h : Below a.heap.size a b) : StillV t V a b := ⟨h.size, fun x h1 _ _ => h.block x h1⟩
theorem StillV.cellS (t j : Nat) (V : Value) (a : World) (v : Value) : StillV t V a (a.setCell ⟨t, j, none⟩ v) := ⟨by simp, fun x _ h2 _ => heap_setCell_other a ⟨t, j, none⟩ x v h2⟩
theorem famT_more (v : Bool) (l : List SpanZ) (s : SpanZ) : famT v (l ++ [s]) = famT v l ++ (if s.v = v then spanT s else []) := by
  unfold famT
  rw [List.filter_append, List.flatMap_append]
  split
  · rename_i h
    rw [List.filter_cons_of_pos (by rw [h]; simp)]
    simp
  · rename_i h
    rw [List.filter_cons_of_neg (by simpa using h)]
    simp
theorem famT_len (v : Bool) (l : List SpanZ) : (famT v l).length ≤ 2 * l.length := by
  unfold famT
  have h := List.length_filter_le (fun s : SpanZ => s.v == v) l
  have e : ∀ m : List SpanZ, (m.flatMap spanT).length = 2 * m.length := by
    intro m
    induction m with
    | nil => rfl
    | cons x r ih =>
      rw [List.flatMap_cons, List.length_append, ih, List.length_cons]
      show 2 + 2 * r.length = _
      omega
  rw [e]
  omega
theorem rangesT_more (l : List (Nat × Nat)) (s : Nat × Nat) : (l ++ [s]).flatMap rangeT = l.flatMap rangeT ++ rangeT s := by simp
theorem rangesT_len (l : List (Nat × Nat)) : (l.flatMap rangeT).length ≤ 2 * l.length := by
  induction l with
  | nil => simp
  | cons x r ih =>
    rw [List.flatMap_cons, List.length_append, List.length_cons]
    show 2 + _ ≤ _
    omega
theorem kids_far {P : Nat → Prop} {w u : World} {B : Nat} {V : Value} {A : Option Addr} {n c : Nat} {ts : List T} (h : KidsAt (w.heap.size ≤ ·) u A n c ts) (hB : B ≤ w.heap.size) (hV : ∀ b, V.ownBlock = some b → b < w.heap.size) : KidsAt (fun b => B ≤ b ∧ V.ownBlock ≠ some b) u A n c ts :=
  KidsAt.below h (Below.refl _ _) (fun b _ hb => ⟨Nat.le_trans hB hb, fun e => by have := hV b e; omega⟩)
theorem storeNode_at {ops : Array Oper} {rest : List Oper} {a : Act} {w : World} {Q : Exit → Act → World → Prop} {t' : TypeId} {pos : String} {aft : Array Edge} (k j : Nat) (g : Nat) (b : Int) (a1 : Option Addr) (n1 c1 : Nat) (a2 : Option Addr) (n2 c2 : Nat) {u : Int} {x y : Value} (hx : a.eval (.tmp k) = .pointer (some ⟨g, 0, none⟩)) (hy : a.eval (.tmp j) = .agg (nodeC b (.slice a1 n1 c1) (.slice a2 n2 c2))) (hg : Blk w g 29 (nodeC u x y))
    (h : wpList Tryz.prog ops Q rest a (w.setRow g (nodeC b (.slice a1 n1 c1) (.slice a2 n2 c2)))) :
    wpList Tryz.prog ops Q ({ dst := none, op := .store 29 (.tmp k) (.tmp j), type := t', pos := pos, after := aft, guard := none } :: rest) a w :=
  wpList_store_rowTo rfl 29 (.tmp k) (.tmp j) rfl rfl g _ hx hy 29 _ hg (Tryz.sizeNd _ _ _) rfl (nodeC_one _ _ _ _ _ _ _) h
theorem gives_nodeX {w W : World} {tmps : Array Value} {fn : Func} {p : Tmp} {t : T} {g B : Nat} {z : Int} {A : Option Addr} {n c : Nat} {K : Option Addr} {m d : Nat} {x0 : Int} {x1 x2 : Value} (hf : fn.results = #[.cell p 29]) (hp : tmps.getD p undef = .pointer (some ⟨g, 0, none⟩))
    (hb : Blk W g 29 (nodeC x0 x1 x2)) (hin : t.InP (B ≤ ·) W (.agg #[.int .i64 z, .slice A n c, .slice K m d])) (hg : w.heap.size ≤ g) (hg2 : g < B) (hbel : Below w.heap.size w W) :
    bodyPost Tryz.prog fn (GivesNode t w) .ret { tmps := tmps, defers := [] } (W.setRow g (nodeC z (.slice A n c) (.slice K m d))) := by
  obtain ⟨A1, n1, c1, K1, m1, d1, e⟩ := hin.form
  have ez : z = t.tag := by
    simp only [Value.agg.injEq] at e
    have e' := congrArg Array.toList e
    simp only [List.cons.injEq, Value.int.injEq, true_and] at e'
    exact e'.1
  subst ez
  have ov := Over.rowS (B := B) W (nodeC t.tag (.slice A n c) (.slice K m d)) hg2
  exact bodyPost_ret (results_cell_row hf _ _ g 29 (nodeC t.tag (.slice A n c) (.slice K m d)) (0, 0) _ hp (setRow_heap _ _ _ _ 29 _ hb) Tryz.underlying29 rfl (Tryz.sizeNd _ _ _)) rfl ⟨A, n, c, K, m, d, rfl, T.InP.keep (fun x hx hp => ⟨Nat.le_trans hg (Nat.le_of_lt (Nat.lt_of_lt_of_le hg2 hp)), ov.2 x hp hx⟩) ov.1 _ hin, below_setRow hbel hg _⟩
def endsT (v : Bool) (s : SpanZ) : List T := if s.v = v then spanT s else []
theorem endsT_len (v : Bool) (s : SpanZ) : (endsT v s).length ≤ 2 := by
  unfold endsT
  split <;> simp [spanT]
def rngsT (l : List (Nat × Nat)) : List T := l.flatMap rangeT
theorem rngsT_more (l : List (Nat × Nat)) (s : Nat × Nat) : rngsT (l ++ [s]) = rngsT l ++ rangeT s := rangesT_more l s
theorem rngsT_len (l : List (Nat × Nat)) : (rngsT l).length ≤ 2 * l.length := rangesT_len l
set_option maxHeartbeats 4000000 in
theorem listS_any (v : Bool) (a : Option Addr) (n c : Nat) (L : List SpanZ) (w : World) (hr : SpArg w a n c L) (hn : n ≤ 40000) : Calls Tryz.prog 27 #[.slice a n c, .func (.func 28) #[.agg (famV v)] #[]] w (GivesNode (.node 48 [] (famT v L)) w) := by
  have CE := Lib.hid (fun s W (hs : SixS s) => ends13_any v s W hs)
  have SR := Lib.hid hr.1
  have HN := Lib.hid hn
  have HL := Lib.hid hr.1.1
  have ws1 : (w.alloc (.cells (nodeC 0 (.slice none 0 0) (.slice none 0 0)) 29)).heap.size = w.heap.size + 1 := by simp
  have K0 := Blk.alloc (nodebox w 0 (.slice none 0 0) (.slice none 0 0)) (.cells (nodeC 48 (.slice none 0 0) (.slice none 0 0)) 29)
  have K1 := nodebox (w.alloc (.cells (nodeC 0 (.slice none 0 0) (.slice none 0 0)) 29)) 48 (.slice none 0 0) (.slice none 0 0)
  have bw := Below.step (boxR_below w (.cells (nodeC 0 (.slice none 0 0) (.slice none 0 0)) 29)) (boxR_below _ (.cells (nodeC 48 (.slice none 0 0) (.slice none 0 0)) 29))
  rw [ws1] at K1
  have KO : Hid (KOut w (w.heap.size + 2) ((w.alloc (.cells (nodeC 0 (.slice none 0 0) (.slice none 0 0)) 29)).alloc (.cells (nodeC 48 (.slice none 0 0) (.slice none 0 0)) 29)) (.slice none 0 0) []) := Lib.hid (KOut.start bw (by omega) (by simp))
  clear hr hn bw
  go_enter Tryz.func27, Tryz.ntmps27
  go_upto_region 2 with (first
    | (with_reducible refine allocNode_at ?_)
    | ((with_reducible refine storeNode_new 5 8 (w.alloc (.cells (nodeC 0 (.slice none 0 0) (.slice none 0 0)) 29)) 48 none 0 0 none 0 0 ?_ ?_ ?_ ?_); (· rfl); (· rfl); (· rfl)))
  generalize (w.alloc (.cells (nodeC 0 (.slice none 0 0) (.slice none 0 0)) 29)).alloc (.cells (nodeC 48 (.slice none 0 0) (.slice none 0 0)) 29) = w2 at *
  try rw [ws1]
  obtain ⟨g, hg⟩ : ∃ g, w.heap.size = g := ⟨_, rfl⟩
  have HG := Lib.hid hg
  rw [hg] at K0 K1 KO
  have ZB := Lib.hid K0
  have LB := Lib.hid K1
  clear K0 K1 ws1
  go_wp2_with fail
  go_loopw [11] (fun iV wr => ∃ (k : Nat) (V : Value), iV = .int .i64 (k : Int) ∧ k ≤ n ∧ KOut w (g + 2) wr V (famT v (L.take k)) ∧ Blk wr (g + 1) 29 (nodeC 48 (.slice none 0 0) V) ∧ Blk wr g 29 (nodeC 0 (.slice none 0 0) (.slice none 0 0))) (fun iV _ => ((n : Int) - intOf iV).toNat)
  case atStart => exact ⟨0, _, rfl, Nat.zero_le _, KO.out, LB.out, ZB.out⟩
  case round =>
    obtain ⟨k, V, rfl, hk, hko, hlb, hzb⟩ := hrel
    clear KO LB ZB
    have KO := Lib.hid hko
    have LB := Lib.hid hlb
    have ZB := Lib.hid hzb
    clear hko hlb hzb
    by_cases hlt : k < n
    · have t0 : decide ((k : Int) < (n : Int)) = true := decide_eq_true (by omega)
      have t0' : decide (k < n) = true := decide_eq_true hlt
      obtain ⟨bA, oA, rfl, _⟩ := SR.out.form (by omega)
      have kl : k < L.length := by rw [HL.out]; exact hlt
      have i0 : (0 : Int) ≤ (k : Int) := by omega
      have i1 : (k : Int) < (n : Int) := by omega
      have kI : IntKind.i64.wrap ((k : Int) + 1) = (k : Int) + 1 := IntWalk.i64_in _ (by have := HN.out; omega)
      have RG := Lib.hid ((SR.out.below KO.out.bel).range k kl)
      have SX := Lib.hid (SR.out.2.1 _ (List.getElem_mem kl))
      have EN : Hid (famT v (L.take (k + 1)) = famT v (L.take k) ++ endsT v L[k]) := Lib.hid (by rw [List.take_succ_eq_append_getElem kl]; exact famT_more v _ _)
      have LE : Hid ((famT v (L.take k)).length + (endsT v L[k]).length ≤ 100000) := Lib.hid (by
        have h1 := famT_len v (L.take k)
        rw [List.length_take] at h1
        have h2 : (endsT v L[k]).length ≤ 2 := by exact endsT_len v _
        have := HN.out
        omega)
      generalize L[k] = s at *
      have LS : Hid ((Tryz.prog.info? 62).map (·.size) = some (scL s).length) := Lib.hid (by rw [scL_len SX.out, Tryz.sizeS SX.out, scells_size SX.out])
      have AZ : Hid (SBlk (wr.alloc (.cells (scells zeroS) 62)) wr.heap.size zeroS) := Lib.hid (sbox wr zeroS)
      have SS := Lib.hid (Tryz.sizeS SX.out)
      go_upto_region 5 with (first
        | ((with_reducible refine load_span_at 13 bA (oA + k * 33) (scL s) ?_ RG.out LS.out ?_); (· rfl); rw [scL_arr])
        | (with_reducible refine alloc_span_at ?_)
        | ((with_reducible refine store_span_at 7 14 wr.heap.size zeroS s zeroS_six SX.out ?_ ?_ AZ.out ?_); (· rfl); (· rfl); rw [alloc_setRow]))
      generalize hw4 : wr.alloc (.cells (scells s) 62) = w4 at *
      have EB0 : Hid (Blk w4 wr.heap.size 62 (scells s)) := Lib.hid (by rw [← hw4]; exact Blk.new wr 62 (scells s))
      have bb : Below wr.heap.size wr w4 := by rw [← hw4]; exact boxR_below wr _
      have VL : Hid (∀ b, V.ownBlock = some b → b < wr.heap.size) := Lib.hid (fun b e => (KO.out.lt e).2)
      have GL : Hid (g + 1 < wr.heap.size) := Lib.hid LB.out.lt
      replace KO := Lib.hid (KO.out.below bb)
      replace LB := Lib.hid (LB.out.below bb LB.out.lt)
      replace ZB := Lib.hid (ZB.out.below bb ZB.out.lt)
      clear bb hw4 RG AZ LS
      obtain ⟨h, hh⟩ : ∃ h, wr.heap.size = h := ⟨_, rfl⟩
      rw [hh] at EB0 VL GL
      try rw [hh]
      refine wp_region_plan (StillV (g + 1) V) (StillV.refl _ _) StillV.trans (.take 0 (.take 2 (.take 3 (.fork 1 (.sole 4 (.sole 5 (.take 6 (.sole 7 .fin)))) 4 (.sole 1 (.sole 5 (.take 6 (.sole 7 .fin)))))))) (by kernel_rfl) (by kernel_rfl) rfl (by kernel_rfl) (fun _ _ _ _ _ h => h) ?_
      change wpPlan _ _ _ _ _ _ (w4.drewN 1)
      have D1 := drewN_below w4 1
      replace KO := Lib.hid (KO.out.below D1)
      replace LB := Lib.hid (LB.out.below D1 LB.out.lt)
      replace ZB := Lib.hid (ZB.out.below D1 ZB.out.lt)
      replace EB0 := Lib.hid (EB0.out.below D1 EB0.out.lt)
      clear D1
      generalize w4.drewN 1 = wd at *
      have EK : Hid (∀ W, StillV (g + 1) V wd W → Blk W h 62 (scells s)) := Lib.hid (fun W hW => (hW.2 h EB0.out.lt (by have := GL.out; omega) (fun e => by have := VL.out h e; omega)).trans EB0.out)
      have VL2 : Hid (∀ b, V.ownBlock = some b → b < wd.heap.size) := Lib.hid (fun b e => Nat.lt_trans (VL.out b e) EB0.out.lt)
      have BL2 : Hid (g + 2 ≤ wd.heap.size) := Lib.hid (by have := GL.out; have := EB0.out.lt; omega)
      clear EB0 VL
      repeat' (first
        | (refine plan_take _ rfl (by rfl) (fun W hW => yields_row 62 (.tmp 7) rfl h 62 (scells s) _ rfl (EK.out W hW) Tryz.underlying62 rfl SS.out) ?_; simp only [Act.put, List.setIfInBounds_toArray, List.set_cons_zero, List.set_cons_succ])
        | (refine plan_take _ rfl (by rfl) (fun W hW => by go_simp; first | done | rfl) ?_; simp only [Act.put, List.setIfInBounds_toArray, List.set_cons_zero, List.set_cons_succ])
        | (refine plan_fork ?_ ?_)
        | ((first | refine plan_sole (sole_take rfl (by rfl) (fun K1 hK1 => ?_)) | refine sole_take rfl (by rfl) (fun K1 hK1 => ?_))
           refine op_of_run _ _ (yields_nodes (.tmp 15) rfl (g + 1) 2 V rfl (Blk.cell LB.out 2)) ?_
           refine hK1 _ _ (StillV.refl _ _ _) ?_
           clear hK1 K1
           try simp only [Act.put, List.setIfInBounds_toArray, List.set_cons_zero, List.set_cons_succ])
        | ((first | refine plan_sole (sole_take rfl (by rfl) (fun K1 hK1 => ?_)) | refine sole_take rfl (by rfl) (fun K1 hK1 => ?_))
           refine op_kout_append KO.out (.tmp 16) (.tmp 19) rfl rfl rfl KA.out LE.out ?_
           intro V6 w6 ho6 hs6 hb6 hf6
           refine hK1 _ _ ⟨hs6, fun c hc _ hne => hf6 c hc hne⟩ ?_
           have K6 := Lib.hid ho6
           have L6 := Lib.hid (LB.out.below hb6 (by omega))
           have Z6 := Lib.hid (ZB.out.below hb6 (by omega))
           clear hK1 K1 ho6 hs6 hb6 hf6 KA KO LB ZB
           try simp only [Act.put, List.setIfInBounds_toArray, List.set_cons_zero, List.set_cons_succ])
        | ((first | refine plan_sole (sole_take rfl (by rfl) (fun K1 hK1 => ?_)) | refine sole_take rfl (by rfl) (fun K1 hK1 => ?_))
           obtain ⟨A6, c6, hV6⟩ := K6.out.form
           refine op_store_cell 27 (.tmp 21) (.tmp 20) rfl rfl (g + 1) 2 V6 rfl rfl L6.out (show 2 < 3 by decide) (by kernel_rfl) (by rw [hV6]; rfl) (by rw [hV6]; rfl) ?_
           refine hK1 _ _ (StillV.cellS _ _ _ _ _) ?_
           clear hK1 K1 hV6
           have K7 := Lib.hid (K6.out.over (Over.cell (B := g + 2) (g := g + 1) (j := 2) w6 V6 (by omega)) (Below.setCell K6.out.bel (p := ⟨g + 1, 2, none⟩) (by have := HG.out; show _ ≤ g + 1; omega) V6))
           have L7 : Hid (Blk (w6.setCell ⟨g + 1, 2, none⟩ V6) (g + 1) 29 (nodeC 48 (.slice none 0 0) V6)) := Lib.hid (Blk.set L6.out 2 V6)
           have Z7 := Lib.hid (show Blk (w6.setCell ⟨g + 1, 2, none⟩ V6) g _ _ from (heap_setCell_other w6 ⟨g + 1, 2, none⟩ g V6 (by show g ≠ g + 1; omega)).trans Z6.out)
           clear K6 L6 Z6
           generalize w6.setCell ⟨g + 1, 2, none⟩ V6 = w7 at *
           try simp only [Act.put, List.setIfInBounds_toArray, List.set_cons_zero, List.set_cons_succ])
        | ((first | refine plan_sole (sole_take rfl (by rfl) (fun K1 hK1 => ?_)) | refine sole_take rfl (by rfl) (fun K1 hK1 => ?_))
           go_simp
           refine (CE.out s _ SX.out).mono ?_
           rintro e w5 ⟨A5, n5, c5, rfl, hk5, hb5⟩
           refine hK1 _ _ (StillV.below hb5) ?_
           obtain rfl := hk5.1
           have KA := Lib.hid (kids_far (P := fun _ => True) (B := g + 2) (V := V) hk5 BL2.out VL2.out)
           replace KO := Lib.hid (KO.out.below hb5)
           replace LB := Lib.hid (LB.out.below hb5 LB.out.lt)
           replace ZB := Lib.hid (ZB.out.below hb5 ZB.out.lt)
           clear hK1 K1 hk5 hb5 CE
           try simp only [Act.put, List.setIfInBounds_toArray, List.set_cons_zero, List.set_cons_succ])
        | refine plan_end ?_)
      all_goals (
        go_wp2_with fail
        go_roundw
        (case rel => exact ⟨k + 1, V6, by go_num, by omega, by rw [EN.out]; exact K7.out, L7.out, Z7.out⟩)
        (case measure => simp only [intOf]; omega))
    · have t0 : decide ((k : Int) < (n : Int)) = false := decide_eq_false (by omega)
      have t0' : decide (k < n) = false := decide_eq_false hlt
      have EL : Hid (L.take k = L) := Lib.hid (List.take_of_length_le (by rw [HL.out]; omega))
      rw [EL.out] at KO
      obtain ⟨A6, c6, rfl⟩ := KO.out.form
      have IN := Lib.hid (KO.out.done (z := 48) rfl)
      generalize (famT v L).length = q at *
      go_wp2_with (first
        | (refine load_node_any (by rfl) (.tmp 5) rfl (g + 1) rfl LB.out ?_)
        | ((with_reducible refine storeNode_at 4 23 g 48 none 0 0 A6 q c6 ?_ ?_ ZB.out ?_); (· rfl); (· rfl)))
      exact gives_nodeX rfl rfl ZB.out IN.out (by have := HG.out; omega) (by omega) KO.out.bel
set_option maxHeartbeats 4000000 in
theorem listR_any (a : Option Addr) (n c : Nat) (L : List (Nat × Nat)) (w : World) (hr : RgArg w a n c L) (hn : n ≤ 40000) : Calls Tryz.prog 29 #[.slice a n c, .func (.func 30) #[] #[]] w (GivesNode (.node 48 [] (rngsT L)) w) := by
  have CE := Lib.hid (fun s W (hs : OkR s) => numEnds13_any s W hs)
  have SR := Lib.hid hr.1
  have HN := Lib.hid hn
  have HL := Lib.hid hr.1.1
  have ws1 : (w.alloc (.cells (nodeC 0 (.slice none 0 0) (.slice none 0 0)) 29)).heap.size = w.heap.size + 1 := by simp
  have K0 := Blk.alloc (nodebox w 0 (.slice none 0 0) (.slice none 0 0)) (.cells (nodeC 48 (.slice none 0 0) (.slice none 0 0)) 29)
  have K1 := nodebox (w.alloc (.cells (nodeC 0 (.slice none 0 0) (.slice none 0 0)) 29)) 48 (.slice none 0 0) (.slice none 0 0)
  have bw := Below.step (boxR_below w (.cells (nodeC 0 (.slice none 0 0) (.slice none 0 0)) 29)) (boxR_below _ (.cells (nodeC 48 (.slice none 0 0) (.slice none 0 0)) 29))
  rw [ws1] at K1
  have KO : Hid (KOut w (w.heap.size + 2) ((w.alloc (.cells (nodeC 0 (.slice none 0 0) (.slice none 0 0)) 29)).alloc (.cells (nodeC 48 (.slice none 0 0) (.slice none 0 0)) 29)) (.slice none 0 0) []) := Lib.hid (KOut.start bw (by omega) (by simp))
  clear hr hn bw
  go_enter Tryz.func29, Tryz.ntmps29
  go_upto_region 2 with (first
    | (with_reducible refine allocNode_at ?_)
    | ((with_reducible refine storeNode_new 5 8 (w.alloc (.cells (nodeC 0 (.slice none 0 0) (.slice none 0 0)) 29)) 48 none 0 0 none 0 0 ?_ ?_ ?_ ?_); (· rfl); (· rfl); (· rfl)))
  generalize (w.alloc (.cells (nodeC 0 (.slice none 0 0) (.slice none 0 0)) 29)).alloc (.cells (nodeC 48 (.slice none 0 0) (.slice none 0 0)) 29) = w2 at *
  try rw [ws1]
  obtain ⟨g, hg⟩ : ∃ g, w.heap.size = g := ⟨_, rfl⟩
  have HG := Lib.hid hg
  rw [hg] at K0 K1 KO
  have ZB := Lib.hid K0
  have LB := Lib.hid K1
  clear K0 K1 ws1
  go_wp2_with fail
  go_loopw [11] (fun iV wr => ∃ (k : Nat) (V : Value), iV = .int .i64 (k : Int) ∧ k ≤ n ∧ KOut w (g + 2) wr V (rngsT (L.take k)) ∧ Blk wr (g + 1) 29 (nodeC 48 (.slice none 0 0) V) ∧ Blk wr g 29 (nodeC 0 (.slice none 0 0) (.slice none 0 0))) (fun iV _ => ((n : Int) - intOf iV).toNat)
  case atStart => exact ⟨0, _, rfl, Nat.zero_le _, KO.out, LB.out, ZB.out⟩
  case round =>
    obtain ⟨k, V, rfl, hk, hko, hlb, hzb⟩ := hrel
    clear KO LB ZB
    have KO := Lib.hid hko
    have LB := Lib.hid hlb
    have ZB := Lib.hid hzb
    clear hko hlb hzb
    by_cases hlt : k < n
    · have t0 : decide ((k : Int) < (n : Int)) = true := decide_eq_true (by omega)
      have t0' : decide (k < n) = true := decide_eq_true hlt
      obtain ⟨bA, oA, rfl, _⟩ := SR.out.form (by omega)
      have kl : k < L.length := by rw [HL.out]; exact hlt
      have i0 : (0 : Int) ≤ (k : Int) := by omega
      have i1 : (k : Int) < (n : Int) := by omega
      have kI : IntKind.i64.wrap ((k : Int) + 1) = (k : Int) + 1 := IntWalk.i64_in _ (by have := HN.out; omega)
      have RG := Lib.hid ((SR.out.below KO.out.bel).range k kl)
      have SX := Lib.hid (SR.out.2.1 _ (List.getElem_mem kl))
      have EN : Hid (rngsT (L.take (k + 1)) = rngsT (L.take k) ++ rangeT L[k]) := Lib.hid (by rw [List.take_succ_eq_append_getElem kl]; exact rngsT_more _ _)
      have LE : Hid ((rngsT (L.take k)).length + (rangeT L[k]).length ≤ 100000) := Lib.hid (by
        have h1 := rngsT_len (L.take k)
        rw [List.length_take] at h1
        have h2 : (rangeT L[k]).length ≤ 2 := by exact Nat.le_refl _
        have := HN.out
        omega)
      generalize L[k] = s at *
      skip
      go_upto_region 5 with (first
        | ((with_reducible refine load_range_at 13 bA (oA + k * 2) s ?_ RG.out ?_); (· rfl))
        | (with_reducible refine allocR_at ?_)
        | ((with_reducible refine storeR_at 7 14 wr s ?_ ?_ ?_ ?_); (· rfl); (· rfl); (· rfl)))
      generalize hw4 : wr.alloc (.cells (rcells s) 54) = w4 at *
      have EB0 : Hid (Blk w4 wr.heap.size 54 (rcells s)) := Lib.hid (by rw [← hw4]; exact Blk.new wr 54 (rcells s))
      have bb : Below wr.heap.size wr w4 := by rw [← hw4]; exact boxR_below wr _
      have VL : Hid (∀ b, V.ownBlock = some b → b < wr.heap.size) := Lib.hid (fun b e => (KO.out.lt e).2)
      have GL : Hid (g + 1 < wr.heap.size) := Lib.hid LB.out.lt
      replace KO := Lib.hid (KO.out.below bb)
      replace LB := Lib.hid (LB.out.below bb LB.out.lt)
      replace ZB := Lib.hid (ZB.out.below bb ZB.out.lt)
      clear bb hw4 RG 
      obtain ⟨h, hh⟩ : ∃ h, wr.heap.size = h := ⟨_, rfl⟩
      rw [hh] at EB0 VL GL
      try rw [hh]
      refine wp_region_plan (StillV (g + 1) V) (StillV.refl _ _) StillV.trans (.take 0 (.take 2 (.take 3 (.fork 1 (.sole 4 (.sole 5 (.take 6 (.sole 7 .fin)))) 4 (.sole 1 (.sole 5 (.take 6 (.sole 7 .fin)))))))) (by kernel_rfl) (by kernel_rfl) rfl (by kernel_rfl) (fun _ _ _ _ _ h => h) ?_
      change wpPlan _ _ _ _ _ _ (w4.drewN 1)
      have D1 := drewN_below w4 1
      replace KO := Lib.hid (KO.out.below D1)
      replace LB := Lib.hid (LB.out.below D1 LB.out.lt)
      replace ZB := Lib.hid (ZB.out.below D1 ZB.out.lt)
      replace EB0 := Lib.hid (EB0.out.below D1 EB0.out.lt)
      clear D1
      generalize w4.drewN 1 = wd at *
      have EK : Hid (∀ W, StillV (g + 1) V wd W → Blk W h 54 (rcells s)) := Lib.hid (fun W hW => (hW.2 h EB0.out.lt (by have := GL.out; omega) (fun e => by have := VL.out h e; omega)).trans EB0.out)
      have VL2 : Hid (∀ b, V.ownBlock = some b → b < wd.heap.size) := Lib.hid (fun b e => Nat.lt_trans (VL.out b e) EB0.out.lt)
      have BL2 : Hid (g + 2 ≤ wd.heap.size) := Lib.hid (by have := GL.out; have := EB0.out.lt; omega)
      clear EB0 VL
      repeat' (first
        | (refine plan_take _ rfl (by rfl) (fun W hW => yields_row 54 (.tmp 7) rfl h 54 (rcells s) _ rfl (EK.out W hW) Tryz.underlying54 rfl (by kernel_rfl)) ?_; simp only [Act.put, List.setIfInBounds_toArray, List.set_cons_zero, List.set_cons_succ])
        | (refine plan_take _ rfl (by rfl) (fun W hW => by go_simp; first | done | rfl) ?_; simp only [Act.put, List.setIfInBounds_toArray, List.set_cons_zero, List.set_cons_succ])
        | (refine plan_fork ?_ ?_)
        | ((first | refine plan_sole (sole_take rfl (by rfl) (fun K1 hK1 => ?_)) | refine sole_take rfl (by rfl) (fun K1 hK1 => ?_))
           refine op_of_run _ _ (yields_nodes (.tmp 15) rfl (g + 1) 2 V rfl (Blk.cell LB.out 2)) ?_
           refine hK1 _ _ (StillV.refl _ _ _) ?_
           clear hK1 K1
           try simp only [Act.put, List.setIfInBounds_toArray, List.set_cons_zero, List.set_cons_succ])
        | ((first | refine plan_sole (sole_take rfl (by rfl) (fun K1 hK1 => ?_)) | refine sole_take rfl (by rfl) (fun K1 hK1 => ?_))
           refine op_kout_append KO.out (.tmp 16) (.tmp 19) rfl rfl rfl KA.out LE.out ?_
           intro V6 w6 ho6 hs6 hb6 hf6
           refine hK1 _ _ ⟨hs6, fun c hc _ hne => hf6 c hc hne⟩ ?_
           have K6 := Lib.hid ho6
           have L6 := Lib.hid (LB.out.below hb6 (by omega))
           have Z6 := Lib.hid (ZB.out.below hb6 (by omega))
           clear hK1 K1 ho6 hs6 hb6 hf6 KA KO LB ZB
           try simp only [Act.put, List.setIfInBounds_toArray, List.set_cons_zero, List.set_cons_succ])
        | ((first | refine plan_sole (sole_take rfl (by rfl) (fun K1 hK1 => ?_)) | refine sole_take rfl (by rfl) (fun K1 hK1 => ?_))
           obtain ⟨A6, c6, hV6⟩ := K6.out.form
           refine op_store_cell 27 (.tmp 21) (.tmp 20) rfl rfl (g + 1) 2 V6 rfl rfl L6.out (show 2 < 3 by decide) (by kernel_rfl) (by rw [hV6]; rfl) (by rw [hV6]; rfl) ?_
           refine hK1 _ _ (StillV.cellS _ _ _ _ _) ?_
           clear hK1 K1 hV6
           have K7 := Lib.hid (K6.out.over (Over.cell (B := g + 2) (g := g + 1) (j := 2) w6 V6 (by omega)) (Below.setCell K6.out.bel (p := ⟨g + 1, 2, none⟩) (by have := HG.out; show _ ≤ g + 1; omega) V6))
           have L7 : Hid (Blk (w6.setCell ⟨g + 1, 2, none⟩ V6) (g + 1) 29 (nodeC 48 (.slice none 0 0) V6)) := Lib.hid (Blk.set L6.out 2 V6)
           have Z7 := Lib.hid (show Blk (w6.setCell ⟨g + 1, 2, none⟩ V6) g _ _ from (heap_setCell_other w6 ⟨g + 1, 2, none⟩ g V6 (by show g ≠ g + 1; omega)).trans Z6.out)
           clear K6 L6 Z6
           generalize w6.setCell ⟨g + 1, 2, none⟩ V6 = w7 at *
           try simp only [Act.put, List.setIfInBounds_toArray, List.set_cons_zero, List.set_cons_succ])
        | ((first | refine plan_sole (sole_take rfl (by rfl) (fun K1 hK1 => ?_)) | refine sole_take rfl (by rfl) (fun K1 hK1 => ?_))
           go_simp
           refine (CE.out s _ SX.out).mono ?_
           rintro e w5 ⟨A5, n5, c5, rfl, hk5, hb5⟩
           refine hK1 _ _ (StillV.below hb5) ?_
           obtain rfl := hk5.1
           have KA := Lib.hid (kids_far (P := fun _ => True) (B := g + 2) (V := V) hk5 BL2.out VL2.out)
           replace KO := Lib.hid (KO.out.below hb5)
           replace LB := Lib.hid (LB.out.below hb5 LB.out.lt)
           replace ZB := Lib.hid (ZB.out.below hb5 ZB.out.lt)
           clear hK1 K1 hk5 hb5 CE
           try simp only [Act.put, List.setIfInBounds_toArray, List.set_cons_zero, List.set_cons_succ])
        | refine plan_end ?_)
      all_goals (
        go_wp2_with fail
        go_roundw
        (case rel => exact ⟨k + 1, V6, by go_num, by omega, by rw [EN.out]; exact K7.out, L7.out, Z7.out⟩)
        (case measure => simp only [intOf]; omega))
    · have t0 : decide ((k : Int) < (n : Int)) = false := decide_eq_false (by omega)
      have t0' : decide (k < n) = false := decide_eq_false hlt
      have EL : Hid (L.take k = L) := Lib.hid (List.take_of_length_le (by rw [HL.out]; omega))
      rw [EL.out] at KO
      obtain ⟨A6, c6, rfl⟩ := KO.out.form
      have IN := Lib.hid (KO.out.done (z := 48) rfl)
      generalize (rngsT L).length = q at *
      go_wp2_with (first
        | (refine load_node_any (by rfl) (.tmp 5) rfl (g + 1) rfl LB.out ?_)
        | ((with_reducible refine storeNode_at 4 23 g 48 none 0 0 A6 q c6 ?_ ?_ ZB.out ?_); (· rfl); (· rfl)))
      exact gives_nodeX rfl rfl ZB.out IN.out (by have := HG.out; omega) (by omega) KO.out.bel
end Go.Proofs.YtlmndmfebgaidaaGreatDoor
namespace Go.Proofs.YtlmndmfebgaidaaGreatDoor
open Go.RowKit
set_option linter.unusedVariables false
set_option linter.unusedSimpArgs false
set_option maxRecDepth 100000
def KidsIn (w : World) (K : Option Addr) (m : Nat) (ts : List T) : Prop := ts.length = m ∧ ∀ i, i < m → ∃ (p : T) (b off : Nat) (z : Int) (A : Option Addr) (n c : Nat) (K' : Option Addr) (m' d' : Nat), ts[i]? = some p ∧ K = some ⟨b, off, none⟩ ∧ b < w.heap.size ∧
    w.rangeAt b (off + i * 3) [.int .i64 z, .slice A n c, .slice K' m' d'] ∧ p.In w (.agg (nodeC z (.slice A n c) (.slice K' m' d')))
theorem KidsIn.below {w w' : World} {K : Option Addr} {m : Nat} {ts : List T} (h : KidsIn w K m ts) (hb : Below w.heap.size w w') : KidsIn w' K m ts := by
  refine ⟨h.1, fun i hi => ?_⟩
  obtain ⟨p, b, off, z, A, n, c, K', m', d', h1, h2, h3, h4, h5⟩ := h.2 i hi
  exact ⟨p, b, off, z, A, n, c, K', m', d', h1, h2, Nat.lt_of_lt_of_le h3 hb.size, range_below h4 hb h3, T.In.below hb p h5⟩
theorem T.In.kidsIn {w : World} {t : T} {z : Int} {A : Option Addr} {n c : Nat} {K : Option Addr} {m d : Nat} (h : t.In w (.agg #[.int .i64 z, .slice A n c, .slice K m d])) : KidsIn w K m t.kids := by
  obtain ⟨A1, n1, c1, K1, m1, d1, e, _, _, _, _, hm, _, hk⟩ := h.open
  simp only [Value.agg.injEq] at e
  have e' := congrArg Array.toList e
  simp only [List.cons.injEq, and_true, Value.slice.injEq, true_and] at e'
  obtain ⟨_, _, rfl, rfl, rfl⟩ := e'
  refine ⟨hm, fun i hi => ?_⟩
  obtain ⟨b, off, rfl, hb, v0, v1, v2, h0, h1, h2, h3⟩ := hk i hi
  obtain ⟨z', A', n', c', K', m', d', rfl, rfl, rfl⟩ := h3.form
  have hi' : i < t.kids.length := by omega
  rw [List.getElem?_eq_getElem hi', Option.getD_some] at h3
  refine ⟨t.kids[i], b, off, z', A', n', c', K', m', d', List.getElem?_eq_getElem hi', rfl, hb, fun j v hv => ?_, h3⟩
  rcases j with _ | _ | _ | j
  · simp only [List.getElem?_cons_zero, Option.some.injEq] at hv
    rw [← hv]; exact h0
  · simp only [List.getElem?_cons_succ, List.getElem?_cons_zero, Option.some.injEq] at hv
    rw [← hv]; exact h1
  · simp only [List.getElem?_cons_succ, List.getElem?_cons_zero, Option.some.injEq] at hv
    rw [← hv]; exact h2
  · simp at hv
theorem load_nodeM_at {ops : Array Oper} {rest : List Oper} {a : Act} {w : World} {Q : Exit → Act → World → Prop} {dst : Option Tmp} {t' : TypeId} {pos : String} {aft : Array Edge} (k : Nat) (b o : Nat) (z : Int) (A : Option Addr) (n c : Nat) (K : Option Addr) (m d : Nat) (hx : a.eval (.tmp k) = .pointer (some ⟨b, o, none⟩)) (hc : w.rangeAt b o [.int .i64 z, .slice A n c, .slice K m d])
    (h : wpList Tryz.prog ops Q rest (a.put dst (.agg (nodeC z (.slice A n c) (.slice K m d)))) w) :
    wpList Tryz.prog ops Q ({ dst := dst, op := .load 29 (.tmp k), type := t', pos := pos, after := aft, guard := none } :: rest) a w :=
  wpList_load_mid rfl 29 (.tmp k) rfl b o hx [.int .i64 z, .slice A n c, .slice K m d] _ hc Tryz.underlying29 rfl (by kernel_rfl) h
set_option maxHeartbeats 4000000 in
theorem equalF_any (xs ys : List T) (K K2 : Option Addr) (m d m2 d2 : Nat) (w : World) (hm : m ≤ maxLen) (hx : KidsIn w K m xs) (hy : KidsIn w K2 m2 ys) (ih : ∀ x ∈ xs, ∀ (y : T) (u v : Value) (w : World), x.In w u → y.In w v → Calls Tryz.prog 34 #[u, v] w fun e w' => e = .returned (.bool (sameT x y)) ∧ Below w.heap.size w w') :
    Calls Tryz.prog 63 #[.slice K m d, .slice K2 m2 d2, .func (.func 34) #[] #[]] w fun e w' => e = .returned (.bool ((xs.length == ys.length) && sameAll xs ys)) ∧ Below w.heap.size w w' := by
  have HX := Lib.hid hx
  have HY := Lib.hid hy
  have IH := Lib.hid ih
  have LX := Lib.hid hx.1
  have LY := Lib.hid hy.1
  unfold maxLen at hm
  clear hx hy ih
  go_enter Tryz.func63, Tryz.ntmps63
  by_cases e3 : m = m2
  rotate_left
  · have F : Hid (((xs.length == ys.length) && sameAll xs ys) = false) := Lib.hid (by rw [LX.out, LY.out]; simp [e3])
    have t3 : ((m : Int) != (m2 : Int)) = true := by simp; omega
    clear e3
    go_wp2_with fail
    go_ret
    exact ⟨ret_bool F.out.symm, Below.refl _ _⟩
  subst e3
  have SA : Hid (((xs.length == ys.length) && sameAll xs ys) = sameAll (xs.drop 0) (ys.drop 0)) := Lib.hid (by rw [LX.out, LY.out]; simp)
  obtain ⟨r0, hr0⟩ : ∃ r0, ((xs.length == ys.length) && sameAll xs ys) = r0 := ⟨_, rfl⟩
  rw [hr0] at SA ⊢
  clear hr0
  go_wp2_with fail
  go_loopw [17] (fun i wr => ∃ k : Nat, k ≤ m ∧ i = .int .i64 (k : Int) ∧ r0 = sameAll (xs.drop k) (ys.drop k) ∧ Below w.heap.size w wr) (fun i _ => m - (intOf i).toNat)
  case atStart => exact ⟨0, by omega, rfl, SA.out, Below.refl _ _⟩
  case round =>
    obtain ⟨k, hk, rfl, hs, hb⟩ := hrel
    have HS := Lib.hid hs
    have BW := Lib.hid hb
    clear hs hb SA
    by_cases hlt : k < m
    · have t0 : decide ((k : Int) < (m : Int)) = true := decide_eq_true (by omega)
      have t0' : decide (k < m) = true := decide_eq_true hlt
      have i0 : (0 : Int) ≤ (k : Int) := by omega
      have i1 : (k : Int) < (m : Int) := by omega
      have kI : IntKind.i64.wrap ((k : Int) + 1) = (k : Int) + 1 := IntWalk.i64_in _ (by omega)
      obtain ⟨p, b, off, z, A, n, c, K', m', d', hp, rfl, hlb, hrg, hpin⟩ := (HX.out.below BW.out).2 k hlt
      obtain ⟨q, b2, off2, z2, A2, n2, c2, K2', m2', d2', hq, rfl, hlb2, hrg2, hqin⟩ := (HY.out.below BW.out).2 k hlt
      have ST := Lib.hid (HS.out.trans (same_drop hp hq))
      have R1 := Lib.hid hrg
      have b4 := boxR_below wr (.cells (nodeC z (.slice A n c) (.slice K' m' d')) 29)
      have R2 := Lib.hid (range_below hrg2 b4 hlb2)
      have b5 := boxR_below (wr.alloc (.cells (nodeC z (.slice A n c) (.slice K' m' d')) 29)) (.cells (nodeC z2 (.slice A2 n2 c2) (.slice K2' m2' d2')) 29)
      have B8 := Lib.hid (Blk.alloc (nodebox wr z (.slice A n c) (.slice K' m' d')) (.cells (nodeC z2 (.slice A2 n2 c2) (.slice K2' m2' d2')) 29))
      have B9 := nodebox (wr.alloc (.cells (nodeC z (.slice A n c) (.slice K' m' d')) 29)) z2 (.slice A2 n2 c2) (.slice K2' m2' d2')
      rw [show (wr.alloc (.cells (nodeC z (.slice A n c) (.slice K' m' d')) 29)).heap.size = wr.heap.size + 1 by simp] at B9
      have BB := Below.step b4 b5
      have CI := Lib.hid (IH.out p (List.mem_of_getElem? hp) q _ _ _ (T.In.below BB p hpin) (T.In.below BB q hqin))
      have B9 := Lib.hid B9
      replace BW := Lib.hid (Below.step BW.out BB)
      clear HS hp hq hpin hqin hrg hrg2 hlb hlb2 b4 b5 BB
      go_upto_region 7 with (first
        | ((with_reducible refine load_nodeM_at 20 b (off + k * 3) z A n c K' m' d' ?_ R1.out ?_); (· rfl))
        | ((with_reducible refine load_nodeM_at 24 b2 (off2 + k * 3) z2 A2 n2 c2 K2' m2' d2' ?_ R2.out ?_); (· rfl))
        | (with_reducible refine allocNode_at ?_)
        | ((with_reducible refine storeNode_new 8 21 wr z A n c K' m' d' ?_ ?_ ?_ ?_); (· rfl); (· rfl); (· rfl))
        | ((with_reducible refine storeNode_new 9 25 (wr.alloc (.cells (nodeC z (.slice A n c) (.slice K' m' d')) 29)) z2 A2 n2 c2 K2' m2' d2' ?_ ?_ ?_ ?_); (· rfl); (· rfl); (· rfl)))
      clear R1 R2
      generalize (wr.alloc (.cells (nodeC z (.slice A n c) (.slice K' m' d')) 29)).alloc (.cells (nodeC z2 (.slice A2 n2 c2) (.slice K2' m2' d2')) 29) = w6 at *
      obtain ⟨h8, hh8⟩ : ∃ h8, wr.heap.size = h8 := ⟨_, rfl⟩
      rw [hh8] at B8 B9
      cases hsame : sameT p q
      · have F : Hid (r0 = false) := Lib.hid (by rw [ST.out, hsame]; rfl)
        rw [hsame] at CI
        clear ST hsame
        go_wp2_with (first
          | (refine load_node_any (by rfl) (.tmp 8) rfl h8 rfl B8.out ?_)
          | (refine load_node_any (by rfl) (.tmp 9) rfl (h8 + 1) rfl B9.out ?_)
          | (go_at_call 34
             refine CI.out.mono ?_
             rintro e w7 ⟨rfl, hb7⟩
             replace BW := Lib.hid (Below.step BW.out hb7)
             clear hb7 CI))
        go_ret
        exact ⟨ret_bool F.out.symm, BW.out⟩
      · have N : Hid (r0 = sameAll (xs.drop (k + 1)) (ys.drop (k + 1))) := Lib.hid (by rw [ST.out, hsame]; simp)
        rw [hsame] at CI
        clear ST hsame
        go_wp2_with (first
          | (refine load_node_any (by rfl) (.tmp 8) rfl h8 rfl B8.out ?_)
          | (refine load_node_any (by rfl) (.tmp 9) rfl (h8 + 1) rfl B9.out ?_)
          | (go_at_call 34
             refine CI.out.mono ?_
             rintro e w7 ⟨rfl, hb7⟩
             replace BW := Lib.hid (Below.step BW.out hb7)
             clear hb7 CI))
        go_roundw
        case rel => exact ⟨k + 1, by omega, by go_num, N.out, BW.out⟩
        case measure => simp [intOf]; omega
    · have F : Hid (r0 = true) := Lib.hid (by rw [HS.out, same_end (by rw [LX.out]; omega)])
      have t0 : decide ((k : Int) < (m : Int)) = false := decide_eq_false (by omega)
      have t0' : decide (k < m) = false := decide_eq_false hlt
      clear HS
      go_wp2_with fail
      go_ret
      exact ⟨ret_bool F.out.symm, BW.out⟩
set_option maxHeartbeats 4000000 in
theorem equal13_any (x : T) : ∀ (y : T) (u v : Value) (w : World), x.In w u → y.In w v →
    Calls Tryz.prog 34 #[u, v] w fun e w' => e = .returned (.bool (sameT x y)) ∧ Below w.heap.size w w' := by
  refine T.each (p := fun x => ∀ (y : T) (u v : Value) (w : World), x.In w u → y.In w v → Calls Tryz.prog 34 #[u, v] w fun e w' => e = .returned (.bool (sameT x y)) ∧ Below w.heap.size w w') ?_ x
  clear x
  intro x ih y u v w hx hy
  obtain ⟨A, n, c, K, m, d, rfl, wx, rx, hn, hc, hm, hm', hks⟩ := hx.open
  obtain ⟨A2, n2, c2, K2, m2, d2, rfl, wy, ry, hn2, hc2, hk2, hm2, hks2⟩ := hy.open
  change Calls _ _ #[.agg (nodeC x.tag (.slice A n c) (.slice K m d)), .agg (nodeC y.tag (.slice A2 n2 c2) (.slice K2 m2 d2))] w _
  have K0 := Blk.alloc (nodebox w x.tag (.slice A n c) (.slice K m d)) (.cells (nodeC y.tag (.slice A2 n2 c2) (.slice K2 m2 d2)) 29)
  have K1 := nodebox (w.alloc (.cells (nodeC x.tag (.slice A n c) (.slice K m d)) 29)) y.tag (.slice A2 n2 c2) (.slice K2 m2 d2)
  rw [show (w.alloc (.cells (nodeC x.tag (.slice A n c) (.slice K m d)) 29)).heap.size = w.heap.size + 1 by simp] at K1
  have bw := Below.step (boxR_below w (.cells (nodeC x.tag (.slice A n c) (.slice K m d)) 29)) (boxR_below _ (.cells (nodeC y.tag (.slice A2 n2 c2) (.slice K2 m2 d2)) 29))
  have C1 := Lib.hid (fun W (h : Below w.heap.size w W) => equal_any A A2 n n2 c c2 x.body y.body W (rx.below h) (ry.below h))
  have C2 := Lib.hid (fun W (h : Below w.heap.size w W) => equalF_any x.kids y.kids K K2 m d m2 d2 W hm' (hx.kidsIn.below h) (hy.kidsIn.below h) ih)
  have SE : Hid (sameT x y = ((x.tag == y.tag) && (decide (x.body = y.body) && ((x.kids.length == y.kids.length) && sameAll x.kids y.kids)))) := Lib.hid (by rw [sameT_eq, Bool.beq_eq_decide_eq x.body])
  have BW := Lib.hid bw
  generalize hw2 : (w.alloc (.cells (nodeC x.tag (.slice A n c) (.slice K m d)) 29)).alloc (.cells (nodeC y.tag (.slice A2 n2 c2) (.slice K2 m2 d2)) 29) = w2 at *
  obtain ⟨g, hg⟩ : ∃ g, w.heap.size = g := ⟨_, rfl⟩
  rw [hg] at K0 K1
  have x0 : w2.cell? ⟨g, 0, none⟩ = some (.int .i64 x.tag) := Blk.cell K0 0
  have y0 : w2.cell? ⟨g + 1, 0, none⟩ = some (.int .i64 y.tag) := Blk.cell K1 0
  have x1 : w2.cell? ⟨g, 1, none⟩ = some (.slice A n c) := Blk.cell K0 1
  have y1 : w2.cell? ⟨g + 1, 1, none⟩ = some (.slice A2 n2 c2) := Blk.cell K1 1
  have x2 : w2.cell? ⟨g, 2, none⟩ = some (.slice K m d) := Blk.cell K0 2
  have y2 : w2.cell? ⟨g + 1, 2, none⟩ = some (.slice K2 m2 d2) := Blk.cell K1 2
  clear K0 K1 bw hks hks2 hx hy ih wx wy rx ry hn hn2 hc hc2 hm hk2 hm' hm2
  generalize ((x.kids.length == y.kids.length) && sameAll x.kids y.kids) = r2 at *
  generalize decide (x.body = y.body) = r1 at *
  generalize sameT x y = r0 at *
  generalize x.tag = zx at *
  generalize y.tag = zy at *
  go_enter Tryz.func34, Tryz.ntmps34
  cases t1 : (zx == zy) with
  | false =>
    have e := SE.out
    rw [t1, Bool.false_and] at e
    subst e
    clear SE C1 C2
    go_wp2_with fail
    go_ret
    exact ⟨rfl, BW.out⟩
  | true =>
    have e := SE.out
    rw [t1, Bool.true_and] at e
    clear SE
    cases r1 with
    | false =>
      rw [Bool.false_and] at e
      subst e
      clear C2
      go_wp2_with (go_at_call 62; refine (C1.out _ BW.out).mono ?_; rintro e w3 ⟨rfl, rfl⟩; clear C1)
      go_ret
      exact ⟨rfl, BW.out⟩
    | true =>
      rw [Bool.true_and] at e
      subst e
      go_wp2_with (first
        | (go_at_call 62; refine (C1.out _ BW.out).mono ?_; rintro e w3 ⟨rfl, rfl⟩; clear C1)
        | (go_at_call 63; refine (C2.out _ BW.out).mono ?_; rintro e w4 ⟨rfl, hb4⟩; replace BW := Lib.hid (Below.step BW.out hb4); clear hb4 C2))
      go_ret
      exact ⟨rfl, BW.out⟩
end Go.Proofs.YtlmndmfebgaidaaGreatDoor
