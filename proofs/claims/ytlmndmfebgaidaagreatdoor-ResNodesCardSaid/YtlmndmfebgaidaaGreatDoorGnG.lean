/-
  Merged texts: AnP, AnQ, AnR, AnH, AnS, Tree, Weigh, Plain, TreeP, Sc1.
-/
import Derived.Test.YtlmndmfebgaidaaGreatDoorGnB
import Derived.Test.YtlmndmfebgaidaaGreatDoorGnA
import Derived.Deep.OwnRows
import Derived.Deep.MidRow
import Derived.Great.Walk
import Derived.Deep.Cut
import Derived.Deep.DeepCutAuto
import Derived.Deep.CutRange
import Derived.Test.YtlmndmfebgaidaaGreatDoorRows
import Derived.WalkKit
import Derived.WalkSpells
import Derived.WalkLawsBesides
import Derived.Deep.QuietTactic
import Derived.BigQuiet
import Derived.Lib.Hide
import Derived.Deep.LoopGhost
import Derived.Maps.AppendAt
import Derived.Laws.ResultCell
namespace Go.Proofs.YtlmndmfebgaidaaGreatDoor
set_option linter.unusedVariables false
theorem norm_valid : ∀ {l : List (Nat × Nat)}, NormZ l → ∀ p ∈ l, p.1 ≤ p.2
  | [], _, p, hp => by cases hp
  | q :: r, h, p, hp => by
    rcases List.mem_cons.1 hp with rfl | hp
    · exact h.1
    · exact norm_valid h.2.2 p hp
theorem norm_holds : ∀ {l : List (Nat × Nat)}, NormZ l → ∀ {a b : Nat}, a ≤ b → (∀ x, a ≤ x → x ≤ b → InZ x l) → ∃ q ∈ l, q.1 ≤ a ∧ b ≤ q.2
  | [], _, a, b, hab, h => absurd (h a (Nat.le_refl _) hab) inZ_nil
  | q :: r, hn, a, b, hab, h => by
    by_cases hq : a ≤ q.2
    · have h1 : q.1 ≤ a := norm_least hn (h a (Nat.le_refl _) hab)
      by_cases hb : b ≤ q.2
      · exact ⟨q, List.mem_cons_self, h1, hb⟩
      · exfalso
        rcases inZ_cons.1 (h (q.2 + 1) (by omega) (by omega)) with ⟨_, k⟩ | k
        · omega
        · have := norm_behind hn k
          omega
    · obtain ⟨s, hs, h1, h2⟩ := norm_holds hn.2.2 hab (fun x h1 h2 => by
        rcases inZ_cons.1 (h x h1 h2) with ⟨_, k⟩ | k
        · omega
        · exact k)
      exact ⟨s, List.mem_cons_of_mem _ hs, h1, h2⟩
def heldZ (y : List (Nat × Nat)) (p : Nat × Nat) : Bool := y.any fun q => decide (q.1 ≤ p.1) && decide (p.2 ≤ q.2)
def inN (a b : List (Nat × Nat)) : Bool := (joinZ a).all fun p => heldZ (joinZ b) p
theorem inN_is {a b : List (Nat × Nat)} : inN a b = true ↔ WithinZ a b := by
  unfold inN
  rw [List.all_eq_true]
  constructor
  · intro h x hx
    obtain ⟨p, hp, h1, h2⟩ := in_join.2 hx
    have k := h p hp
    unfold heldZ at k
    rw [List.any_eq_true] at k
    obtain ⟨q, hq, k⟩ := k
    rw [Bool.and_eq_true, decide_eq_true_iff, decide_eq_true_iff] at k
    exact in_join.1 ⟨q, hq, by omega, by omega⟩
  · intro h p hp
    have v := norm_valid (norm_join a) p hp
    obtain ⟨q, hq, h1, h2⟩ := norm_holds (norm_join b) v (fun x h1 h2 => in_join.2 (h x (in_join.1 ⟨p, hp, h1, h2⟩)))
    unfold heldZ
    rw [List.any_eq_true]
    exact ⟨q, hq, by rw [decide_eq_true h1, decide_eq_true h2]; rfl⟩
def Under (N : Nat) (l : List (Nat × Nat)) : Prop := ∀ p ∈ l, p.1 < N ∧ p.2 < N
theorem in_under {N : Nat} {l : List (Nat × Nat)} (h : Under N l) {x : Nat} (hx : InZ x l) : x < N := by
  obtain ⟨p, hp, _, h2⟩ := hx
  have := (h p hp).2
  omega
theorem sort_len' : ∀ (l row : List (Nat × Nat)), (sortZ row l).length ≤ row.length + l.length
  | [], row => Nat.le_refl _
  | p :: l, row => by
    unfold sortZ
    have := sort_len' l (if p.1 ≤ p.2 then insZ p row else row)
    have hi : ∀ r : List (Nat × Nat), (insZ p r).length = r.length + 1 := fun r => by
      induction r with
      | nil => rfl
      | cons q r ih =>
        unfold insZ
        split
        · rw [List.length_cons, ih, List.length_cons]
        · rfl
    rw [List.length_cons]
    split at this
    · rename_i hp
      rw [if_pos hp]
      rw [hi] at this
      omega
    · rename_i hp
      rw [if_neg hp]
      omega
theorem merge_len' : ∀ (l : List (Nat × Nat)) (c : Nat × Nat), (mergeZ c l).length ≤ l.length + 1
  | [], c => Nat.le_refl _
  | q :: r, c => by
    unfold mergeZ
    split
    · have := merge_len' r (c.1, max c.2 q.2)
      rw [List.length_cons]
      omega
    · have := merge_len' r q
      rw [List.length_cons, List.length_cons]
      omega
theorem join_len' (l : List (Nat × Nat)) : (joinZ l).length ≤ l.length := by
  have h := sort_len' l []
  rw [List.length_nil, Nat.zero_add] at h
  unfold joinZ
  split
  · exact Nat.zero_le _
  · rename_i c r e
    rw [e, List.length_cons] at h
    have := merge_len' r c
    omega
end Go.Proofs.YtlmndmfebgaidaaGreatDoor
namespace Go.Proofs.YtlmndmfebgaidaaGreatDoor
set_option linter.unusedVariables false
def leastL (at' : Nat) (m : Nat) : List (Nat × Nat) → Nat
  | [] => m
  | p :: r => leastL at' (if p.1 ≤ p.2 ∧ at' ≤ p.2 then min m (max p.1 at') else m) r
theorem least_spec (at' : Nat) : ∀ (l : List (Nat × Nat)) (m : Nat), (leastL at' m l = m ∨ (InZ (leastL at' m l) l ∧ at' ≤ leastL at' m l)) ∧ (∀ x, at' ≤ x → InZ x l → leastL at' m l ≤ x) ∧ leastL at' m l ≤ m
  | [], m => ⟨.inl rfl, fun x _ h => absurd h inZ_nil, Nat.le_refl _⟩
  | p :: r, m => by
    unfold leastL
    by_cases hp : p.1 ≤ p.2 ∧ at' ≤ p.2
    · rw [if_pos hp]
      obtain ⟨h1, h2, h3⟩ := least_spec at' r (min m (max p.1 at'))
      refine ⟨?_, fun x hx hi => ?_, by omega⟩
      · rcases h1 with h1 | ⟨h1, h4⟩
        · rcases Nat.le_total m (max p.1 at') with h | h
          · exact .inl (by omega)
          · rw [Nat.min_eq_right h] at h1 ⊢
            exact .inr ⟨inZ_cons.2 (.inl ⟨by omega, by omega⟩), by omega⟩
        · exact .inr ⟨inZ_cons.2 (.inr h1), h4⟩
      · rcases inZ_cons.1 hi with ⟨k1, k2⟩ | k
        · omega
        · exact h2 x hx k
    · rw [if_neg hp]
      obtain ⟨h1, h2, h3⟩ := least_spec at' r m
      refine ⟨?_, fun x hx hi => ?_, h3⟩
      · rcases h1 with h1 | ⟨h1, h4⟩
        · exact .inl h1
        · exact .inr ⟨inZ_cons.2 (.inr h1), h4⟩
      · rcases inZ_cons.1 hi with ⟨k1, k2⟩ | k
        · exact absurd ⟨by omega, by omega⟩ hp
        · exact h2 x hx k
theorem least_step {at' m i : Nat} {l : List (Nat × Nat)} (hi : i < l.length) : leastL at' m (l.drop i) = leastL at' (if (l[i]).1 ≤ (l[i]).2 ∧ at' ≤ (l[i]).2 then min m (max (l[i]).1 at') else m) (l.drop (i + 1)) := by
  rw [List.drop_eq_getElem_cons hi]
  rfl
def RestAt (l : List (Nat × Nat)) (at' : Nat) (D r : List (Nat × Nat)) : Prop := joinZ l = D ++ r ∧ (∀ x, at' ≤ x → (InZ x l ↔ InZ x r)) ∧ (∀ p ∈ r, at' ≤ p.1) ∧ NormZ r
theorem rest_start (l : List (Nat × Nat)) : RestAt l 0 [] (joinZ l) := ⟨rfl, fun x _ => in_join.symm, fun p _ => Nat.zero_le _, norm_join l⟩
theorem rest_none {l D : List (Nat × Nat)} {at' : Nat} (h : RestAt l at' D []) : D = joinZ l := by
  have := h.1
  rw [List.append_nil] at this
  exact this.symm
theorem rest_end {l D : List (Nat × Nat)} {at' N : Nat} (hu : Under N l) (h : RestAt l at' D []) : leastL at' N l = N := by
  rcases (least_spec at' l N).1 with e | ⟨e, k⟩
  · exact e
  · exact absurd ((h.2.1 _ k).1 e) inZ_nil
theorem rest_head {l D r : List (Nat × Nat)} {p : Nat × Nat} {at' N : Nat} (hu : Under N l) (h : RestAt l at' D (p :: r)) : leastL at' N l = p.1 ∧ p.1 < N ∧ p.2 < N ∧ p.1 ≤ p.2 ∧ at' ≤ p.1 := by
  have hp := h.2.2.1 p List.mem_cons_self
  have hv := h.2.2.2.1
  have i1 : InZ p.1 l := (h.2.1 p.1 hp).2 (inZ_cons.2 (.inl ⟨Nat.le_refl _, hv⟩))
  have i2 : InZ p.2 l := (h.2.1 p.2 (by omega)).2 (inZ_cons.2 (.inl ⟨hv, Nat.le_refl _⟩))
  have l1 := (least_spec at' l N).2.1 p.1 hp i1
  have b1 := in_under hu i1
  have b2 := in_under hu i2
  refine ⟨?_, b1, b2, hv, hp⟩
  rcases (least_spec at' l N).1 with e | ⟨e, k⟩
  · omega
  · have := norm_least h.2.2.2 ((h.2.1 _ k).1 e)
    omega
theorem rest_grow {l D r : List (Nat × Nat)} {p q : Nat × Nat} {at' hi : Nat} (h : RestAt l at' D (p :: r)) (h1 : p.1 ≤ hi) (h2 : hi ≤ p.2) (hq : q ∈ l) (k1 : q.1 ≤ hi + 1) (k2 : hi < q.2) : q.2 ≤ p.2 := by
  rcases Nat.lt_or_ge p.2 q.2 with c | c
  · exfalso
    have i : InZ (p.2 + 1) l := ⟨q, hq, by omega, by omega⟩
    have hp := h.2.2.1 p List.mem_cons_self
    rcases inZ_cons.1 ((h.2.1 (p.2 + 1) (by omega)).1 i) with ⟨_, k⟩ | k
    · omega
    · have := norm_behind h.2.2.2 k
      omega
  · exact c
theorem rest_stop {l D r : List (Nat × Nat)} {p : Nat × Nat} {at' hi : Nat} (h : RestAt l at' D (p :: r)) (h1 : p.1 ≤ hi) (h2 : hi ≤ p.2) (hn : ∀ q ∈ l, q.1 ≤ q.2 → q.1 ≤ hi + 1 → ¬ hi < q.2) : hi = p.2 := by
  rcases Nat.lt_or_ge hi p.2 with c | c
  · exfalso
    have hp := h.2.2.1 p List.mem_cons_self
    obtain ⟨q, hq, k1, k2⟩ := (h.2.1 (hi + 1) (by omega)).2 (inZ_cons.2 (.inl ⟨by omega, by omega⟩))
    exact hn q hq (by omega) k1 (by omega)
  · omega
theorem rest_next {l D r : List (Nat × Nat)} {p : Nat × Nat} {at' : Nat} (h : RestAt l at' D (p :: r)) : RestAt l (p.2 + 1) (D ++ [p]) r := by
  have hp := h.2.2.1 p List.mem_cons_self
  have hv := h.2.2.2.1
  refine ⟨by rw [h.1, List.append_assoc]; rfl, fun x hx => ?_, fun q hq => ?_, h.2.2.2.2.2⟩
  · rw [h.2.1 x (by omega), inZ_cons]
    exact ⟨fun k => k.elim (fun h => absurd h.2 (by omega)) id, fun k => .inr k⟩
  · have := h.2.2.2.2.1 q hq
    omega
end Go.Proofs.YtlmndmfebgaidaaGreatDoor
namespace Go.Proofs.YtlmndmfebgaidaaGreatDoor
open Go.RowKit
set_option maxRecDepth 100000
set_option linter.unusedVariables false
theorem boxR_below (w : World) (o : Obj) : Below w.heap.size w (w.alloc o) := (Below.refl _ _).alloc (Nat.le_refl _) o
def rcL (s : Nat × Nat) : List Value := [.int .u32 (s.1 : Int), .int .u32 (s.2 : Int)]
def rcells (s : Nat × Nat) : Array Value := (rcL s).toArray
def OkR (s : Nat × Nat) : Prop := s.1 < 4294967296 ∧ s.2 < 4294967296
theorem zeroR_ok : OkR (0, 0) := ⟨by decide, by decide⟩
theorem rcL_len {s : Nat × Nat} (h : OkR s) : (rcL s).length = 2 := rfl
theorem rcL_arr (s : Nat × Nat) : (rcL s).toArray = rcells s := rfl
theorem rcells_size {s : Nat × Nat} (h : OkR s) : (rcells s).size = 2 := rfl
theorem rcells_one (s : Nat × Nat) : (rcells s).all (·.oneCell') = true := by simp [rcells, rcL, Value.oneCell']
def flatR (L : List (Nat × Nat)) : List Value := L.flatMap rcL
def OkL (L : List (Nat × Nat)) : Prop := ∀ s ∈ L, OkR s
theorem flatR_len : ∀ {L : List (Nat × Nat)}, OkL L → (flatR L).length = L.length * 2
  | [], _ => rfl
  | s :: r, h => by
    show (rcL s ++ flatR r).length = _
    rw [List.length_append, rcL_len (h s (by simp)), flatR_len (fun x hx => h x (by simp [hx])), List.length_cons]
    omega
theorem flatR_app (L M : List (Nat × Nat)) : flatR (L ++ M) = flatR L ++ flatR M := List.flatMap_append
theorem flatR_at : ∀ {L : List (Nat × Nat)} (_ : OkL L) (j i : Nat) (hj : j < L.length), i < 2 → (flatR L)[j * 2 + i]? = (rcL (L[j]))[i]?
  | [], _, j, i, hj, _ => absurd hj (by simp)
  | s :: r, h, 0, i, hj, hi => by
    show (rcL s ++ flatR r)[0 * 2 + i]? = _
    rw [List.getElem?_append_left (by rw [rcL_len (h s (by simp))]; omega), Nat.zero_mul, Nat.zero_add]
    rfl
  | s :: r, h, j + 1, i, hj, hi => by
    show (rcL s ++ flatR r)[(j + 1) * 2 + i]? = _
    have l := rcL_len (h s (by simp))
    rw [List.getElem?_append_right (by rw [l]; omega), l, show (j + 1) * 2 + i - 2 = j * 2 + i by omega, flatR_at (fun x hx => h x (by simp [hx])) j i (by simpa using hj) hi]
    rfl
theorem flatR_one (L : List (Nat × Nat)) : ∀ u ∈ flatR L, u.oneCell' = true := by
  intro u hu
  obtain ⟨s, _, hs⟩ := List.mem_flatMap.1 hu
  exact (Array.all_eq_true_iff_forall_mem.1 (rcells_one s)) u (by rw [← rcL_arr]; exact List.mem_toArray.2 hs)
theorem flatR_take : ∀ {L : List (Nat × Nat)} (_ : OkL L) (k : Nat), k ≤ L.length → flatR (L.take k) = (flatR L).take (k * 2)
  | [], _, k, hk => by
    obtain rfl : k = 0 := by simpa using hk
    rfl
  | s :: r, h, 0, hk => by simp [flatR]
  | s :: r, h, k + 1, hk => by
    have l := rcL_len (h s (by simp))
    show rcL s ++ flatR (r.take k) = (rcL s ++ flatR r).take ((k + 1) * 2)
    rw [flatR_take (fun x hx => h x (by simp [hx])) k (by simpa using hk), List.take_append, l, List.take_of_length_le (l := rcL s) (by rw [l]; omega), show (k + 1) * 2 - 2 = k * 2 by omega]
def RgRow (w : World) (a : Option Addr) (n : Nat) (L : List (Nat × Nat)) : Prop :=
  L.length = n ∧ OkL L ∧ (0 < n → ∃ b off, a = some ⟨b, off, none⟩ ∧ b < w.heap.size ∧ ∀ i, i < n * 2 → w.cell? ⟨b, off + i, none⟩ = (flatR L)[i]?)
theorem RgRow.below {w w' : World} {a : Option Addr} {n : Nat} {L : List (Nat × Nat)} (h : RgRow w a n L) (hb : Below w.heap.size w w') : RgRow w' a n L := by
  refine ⟨h.1, h.2.1, fun hn => ?_⟩
  obtain ⟨b, off, e, hlt, hc⟩ := h.2.2 hn
  exact ⟨b, off, e, Nat.lt_of_lt_of_le hlt hb.size, fun i hi => (hb.cell (p := ⟨b, off + i, none⟩) hlt).trans (hc i hi)⟩
theorem RgRow.range {w : World} {b off n : Nat} {L : List (Nat × Nat)} (h : RgRow w (some ⟨b, off, none⟩) n L) (j : Nat) (hj : j < L.length) : w.rangeAt b (off + j * 2) (rcL L[j]) := by
  intro i v hv
  obtain ⟨b', off', e, _, hc⟩ := h.2.2 (by have := h.1; omega)
  injection e with e
  injection e with e1 e2
  subst e1 e2
  have s6 := h.2.1 _ (List.getElem_mem hj)
  have hi : i < 2 := by
    have := (List.getElem?_eq_some_iff.1 hv).1
    rwa [rcL_len s6] at this
  rw [Nat.add_assoc, hc (j * 2 + i) (by have := h.1; omega), flatR_at h.2.1 j i hj hi]
  exact hv
theorem RgRow.form {w : World} {a : Option Addr} {n : Nat} {L : List (Nat × Nat)} (h : RgRow w a n L) (h0 : 0 < n) : ∃ b off, a = some ⟨b, off, none⟩ ∧ b < w.heap.size := by
  obtain ⟨b, off, e, hlt, _⟩ := h.2.2 h0
  exact ⟨b, off, e, hlt⟩
theorem RgRow.nil (w : World) (a : Option Addr) : RgRow w a 0 [] := ⟨rfl, fun _ h => absurd h (by simp), fun h => absurd h (by omega)⟩
theorem RgRow.rest {w : World} {b off n : Nat} {L : List (Nat × Nat)} (h : RgRow w (some ⟨b, off, none⟩) n L) (k : Nat) (hk : k ≤ n) : RgRow w (some ⟨b, off + k * 2, none⟩) (n - k) (L.drop k) := by
  have hl := h.1
  refine ⟨by rw [List.length_drop]; omega, fun s hs => h.2.1 s (List.mem_of_mem_drop hs), fun h0 => ?_⟩
  obtain ⟨b', off', e, hb, hc⟩ := h.2.2 (by omega)
  injection e with e
  injection e with e1 e2
  subst e1 e2
  refine ⟨_, _, rfl, hb, fun i hi => ?_⟩
  have e : flatR L = (flatR (L.take k)) ++ flatR (L.drop k) := by rw [← flatR_app, List.take_append_drop]
  have l : (flatR (L.take k)).length = k * 2 := by rw [flatR_take h.2.1 k (by omega), List.length_take, flatR_len h.2.1]; omega
  rw [Nat.add_assoc, hc (k * 2 + i) (by omega), e, List.getElem?_append_right (by rw [l]; omega), l, show k * 2 + i - k * 2 = i by omega]
theorem Tryz.infoRange : (Tryz.prog.info? 54).map (fun i => (i.zero, i.size, i.bytes)) = some (some (.agg (rcells (0, 0))), 2, 8) := by kernel_rfl
def RgOut (W0 wr : World) (V : Value) (L : List (Nat × Nat)) : Prop := wr.ownsRow W0.heap.size 54 2 V L.length (flatR L) ∧ Below W0.heap.size W0 wr ∧ OkL L
theorem RgOut.below {W0 wr w' : World} {V : Value} {L : List (Nat × Nat)} (h : RgOut W0 wr V L) (hb : Below wr.heap.size wr w') : RgOut W0 w' V L := by
  refine ⟨⟨h.1.1, ?_⟩, Below.step h.2.1 hb, h.2.2⟩
  rcases h.1.2 with h' | ⟨g, cap, cur, e, h1, h2, h3⟩
  · exact .inl h'
  · exact .inr ⟨g, cap, cur, e, h1, (hb.block g (Array.getElem?_eq_some_iff.1 h2).1).trans h2, h3⟩
theorem RgOut.alloc {W0 wr : World} {V : Value} {L : List (Nat × Nat)} (h : RgOut W0 wr V L) (o : Obj) : RgOut W0 (wr.alloc o) V L := h.below (boxR_below _ _)
theorem RgOut.wider {w W0 wr : World} {V : Value} {L : List (Nat × Nat)} (h : RgOut W0 wr V L) (hb : Below w.heap.size w W0) : RgOut w wr V L := by
  refine ⟨⟨h.1.1, ?_⟩, Below.step hb h.2.1, h.2.2⟩
  rcases h.1.2 with h' | ⟨g, cap, cur, e, h1, h2⟩
  · exact .inl h'
  · exact .inr ⟨g, cap, cur, e, Nat.le_trans hb.size h1, h2⟩
theorem RgOut.start (w : World) : RgOut w w (.slice none 0 0) [] := ⟨World.ownsRow_nil _ _ _ _, Below.refl _ _, fun _ h => absurd h (by simp)⟩
theorem RgOut.row {W0 wr : World} {V : Value} {L : List (Nat × Nat)} (h : RgOut W0 wr V L) : ∃ a c, V = .slice a L.length c ∧ RgRow wr a L.length L ∧ (a = none → L = [] ∧ c = 0) := by
  rcases h.1.2 with ⟨rfl, h0⟩ | ⟨g, cap, cur, rfl, h1, h2, h3⟩
  · have : L = [] := List.eq_nil_of_length_eq_zero h0
    subst this
    exact ⟨none, 0, rfl, RgRow.nil _ _, fun _ => ⟨rfl, rfl⟩⟩
  · refine ⟨_, cap, rfl, ⟨rfl, h.2.2, fun hn => ⟨g, 0, rfl, (h.1.lt g rfl).2, fun i hi => ?_⟩⟩, fun e => by cases e⟩
    rw [Nat.zero_add, h.1.cellAt i hi]
theorem RgOut.form {W0 wr : World} {V : Value} {L : List (Nat × Nat)} (h : RgOut W0 wr V L) : (V = .slice none 0 0 ∧ L = []) ∨ ∃ g cap, V = .slice (some ⟨g, 0, none⟩) L.length cap ∧ W0.heap.size ≤ g ∧ g < wr.heap.size ∧ L.length ≤ cap := by
  rcases h.1.2 with ⟨rfl, h0⟩ | ⟨g, cap, cur, rfl, h1, h2, h3, _⟩
  · exact .inl ⟨rfl, List.eq_nil_of_length_eq_zero h0⟩
  · exact .inr ⟨g, cap, rfl, h1, (h.1.lt g rfl).2, h3⟩
theorem rg_append {ops : Array Oper} {rest : List Oper} {o : Oper} {a : Act} {Q : Exit → Act → World → Prop} {W0 w : World} {V : Value} {L zs : List (Nat × Nat)} {A : Option Addr} {m c : Nat} (hgd : o.guard = none) (s x : Operand)
    (hop : o.op = .call { callee := .builtin .append, args := #[s, x], argTypes := #[23, 23] }) (hs : a.eval s = V) (hout : RgOut W0 w V L) (hx : a.eval x = .slice A m c) (hr : RgRow w A m zs) (hA : A = none → m = 0 ∧ c = 0) (hl : L.length + m ≤ 100000)
    (h : ∀ V' w', RgOut W0 w' V' (L ++ zs) → wpList Tryz.prog ops Q rest (a.put o.dst V') w') : wpList Tryz.prog ops Q (o :: rest) a w := by
  obtain ⟨i0, hi5, hz0, hz1, hz2⟩ := info_parts Tryz.infoRange
  cases A with
  | none =>
    obtain ⟨rfl, rfl⟩ := hA rfl
    obtain rfl : zs = [] := List.eq_nil_of_length_eq_zero hr.1
    refine wpList_append_own_none hgd s x 23 hop W0.heap.size 54 i0 2 Tryz.underlying23 hi5 V L.length _ hs hout.1 hx ?_
    have := h V w (by simpa using hout)
    exact this
  | some ad =>
    have hcl : (flatR zs).length = m * 2 := by rw [flatR_len hr.2.1, hr.1]
    refine wpList_append_own _ hgd s x 23 hop W0.heap.size 54 i0 (.agg (rcells (0, 0))) 2 8 Tryz.underlying23 hi5 hz0 hz1 hz2 (rcells_size zeroR_ok) (by decide) V L.length (flatR L) hs hout.1 ad m c (flatR zs) hx hcl ?_ (flatR_one zs) (by unfold maxLen; omega) (by omega) hout.2.1.size ?_
    · intro j u hu
      have hj : j < m * 2 := by
        have := (List.getElem?_eq_some_iff.1 hu).1
        omega
      obtain ⟨b, off, e, _, hc⟩ := hr.2.2 (by omega)
      injection e with e
      subst e
      rw [Addr.add_lit, hc j hj]
      exact hu
    · intro V' w' hown hg _
      refine h V' w' ⟨?_, hout.2.1.grown hg hout.2.1.size (fun k hk => (hout.1.lt k hk).1), fun z hz => ?_⟩
      · rw [List.length_append, hr.1, flatR_app]
        exact hown
      · rcases List.mem_append.1 hz with hz | hz
        · exact hout.2.2 z hz
        · exact hr.2.1 z hz
theorem RgRow.lo {w : World} {b off n : Nat} {L : List (Nat × Nat)} (h : RgRow w (some ⟨b, off, none⟩) n L) (j : Nat) (hj : j < L.length) : w.cell? ⟨b, off + j * 2, none⟩ = some (.int .u32 ((L[j]).1 : Int)) := h.range j hj 0 _ rfl
theorem RgRow.hi {w : World} {b off n : Nat} {L : List (Nat × Nat)} (h : RgRow w (some ⟨b, off, none⟩) n L) (j : Nat) (hj : j < L.length) : w.cell? ⟨b, off + j * 2 + 1, none⟩ = some (.int .u32 ((L[j]).2 : Int)) := h.range j hj 1 _ rfl
def RgArg (w : World) (a : Option Addr) (n c : Nat) (L : List (Nat × Nat)) : Prop := RgRow w a n L ∧ (a = none → n = 0 ∧ c = 0)
theorem RgArg.below {w W : World} {a : Option Addr} {n c : Nat} {L : List (Nat × Nat)} (h : RgArg w a n c L) (hb : Below w.heap.size w W) : RgArg W a n c L := ⟨h.1.below hb, h.2⟩
theorem RgArg.under {w : World} {a : Option Addr} {n c : Nat} {L : List (Nat × Nat)} (h : RgArg w a n c L) : Under 4294967296 L := fun s hs => h.1.2.1 s hs
theorem RgOut.arg {W0 wr : World} {V : Value} {L : List (Nat × Nat)} (h : RgOut W0 wr V L) : ∃ a c, V = .slice a L.length c ∧ RgArg wr a L.length c L := by
  obtain ⟨a, c, hV, hr, hn⟩ := h.row
  exact ⟨a, c, hV, hr, fun e => by
    obtain ⟨h1, h2⟩ := hn e
    subst h1
    exact ⟨rfl, h2⟩⟩
theorem RgOut.under {W0 wr : World} {V : Value} {L : List (Nat × Nat)} (h : RgOut W0 wr V L) : Under 4294967296 L := fun s hs => h.2.2 s hs
def GivesRg (L : List (Nat × Nat)) (w : World) (e : Ending) (w' : World) : Prop := ∃ V, e = .returned V ∧ RgOut w w' V L
theorem rbox (w : World) (s : Nat × Nat) : Blk (w.alloc (.cells (rcells s) 54)) w.heap.size 54 (rcells s) := Blk.new _ _ _
theorem rg_one (w : World) {s : Nat × Nat} (hs : OkR s) : RgRow (w.alloc (.cells (rcells s) 54)) (some ⟨w.heap.size, 0, none⟩) 1 [s] := by
  refine ⟨rfl, fun x hx => by rw [List.mem_singleton.1 hx]; exact hs, fun _ => ⟨w.heap.size, 0, rfl, by simp, fun i hi => ?_⟩⟩
  rw [Nat.zero_add, Blk.cell (rbox w s) i]
  show (rcL s).toArray[i]? = (rcL s ++ [])[i]?
  rw [List.append_nil, List.getElem?_toArray]
theorem rbuilt_one (s : Nat × Nat) : Tryz.prog.builtSlice 54 1 [(0, .agg (rcells s))] = some (rcells s) := by kernel_rfl
theorem rbuilt (a b : Int) : Tryz.prog.built 54 [(0, .int .u32 a), (1, .int .u32 b)] = some #[.int .u32 a, .int .u32 b] := by kernel_rfl
end Go.Proofs.YtlmndmfebgaidaaGreatDoor
namespace Go.Proofs.YtlmndmfebgaidaaGreatDoor
open Go.RowKit
set_option linter.unusedVariables false
end Go.Proofs.YtlmndmfebgaidaaGreatDoor
namespace Go.Proofs.YtlmndmfebgaidaaGreatDoor
open Go.RowKit
set_option linter.unusedVariables false
def eqR (s t : Nat × Nat) : Bool := decide (s.1 = t.1 ∧ s.2 = t.2)
theorem eqR_is {s t : Nat × Nat} : eqR s t = true ↔ s = t := by
  unfold eqR
  rw [decide_eq_true_iff]
  exact ⟨fun ⟨h1, h2⟩ => Prod.ext h1 h2, fun e => by rw [e]; exact ⟨rfl, rfl⟩⟩
theorem part_r0 (s : Nat × Nat) (w : World) : (part 52 (rcells s) 0).run Tryz.prog w = .ok (.int .u32 (s.1 : Int)) w := by
  unfold part
  simp [isAgg, run_underlying Tryz.underlying52, rcells, rcL]
theorem part_r1 (s : Nat × Nat) (w : World) : (part 52 (rcells s) 1).run Tryz.prog w = .ok (.int .u32 (s.2 : Int)) w := by
  unfold part
  simp [isAgg, run_underlying Tryz.underlying52, rcells, rcL]
theorem two_range (s t : Nat × Nat) (w : World) : (Op.equalIn 10000 54 (.agg (rcells s)) (.agg (rcells t))).run Tryz.prog w = .ok (eqR s t) w := by
  rw [run_equalIn_struct w 9999 54 _ _ (by simp only [Program.fieldsOf, Tryz.underlying54]) (by kernel_rfl)]
  simp only [Program.fieldsOf, Tryz.underlying54, Op.eqFields]
  have q1 := run_equalIn_int w 9998 52 .u32 .u32 (s.1 : Int) (t.1 : Int) Tryz.underlying52
  have q2 := run_equalIn_int w 9998 52 .u32 .u32 (s.2 : Int) (t.2 : Int) Tryz.underlying52
  simp only [ne_eq, Sem.run_bind, part_r0, part_r1, q1, q2, Result.andThen_ok, Sem.run_ite, Sem.run_pure]
  unfold eqR
  by_cases e1 : s.1 = t.1
  · by_cases e2 : s.2 = t.2
    · simp [e1, e2]
    · simp [e1, e2]
      omega
  · have : ((s.1 : Int) == (t.1 : Int)) = false := by
      rw [beq_eq_false_iff_ne]
      omega
    simp [e1]
    omega
theorem run_neq_range (s t : Nat × Nat) (w : World) : (binOp .neq 54 (.agg (rcells s)) (.agg (rcells t))).run Tryz.prog w = .ok (.bool (!eqR s t)) w := by
  have e : (Op.equal 54 (.agg (rcells s)) (.agg (rcells t))).run Tryz.prog w = .ok (eqR s t) w := two_range s t w
  simp [binOp, go_sem, e]
theorem run_guardR_neq (x y : Operand) (cs ds : Array Value) (w : World) : (eqGuard .neq 54 x y (.agg cs) (.agg ds)).run Tryz.prog w = .ok () w := by
  unfold eqGuard
  simp [Sem.run_bind, Sem.run_pure, go_sem, Result.andThen]
theorem yields_neqR {o : Oper} {a : Act} {W : World} {s t : Nat × Nat} (x y : Operand) (ho : o.op = .binOp .neq 54 x y 54) (hx : a.eval x = .agg (rcells s)) (hy : a.eval y = .agg (rcells t)) : (execOp a.eval o).run Tryz.prog W = .ok (.value (.bool (!eqR s t))) W := by
  unfold execOp
  simp [ho, hx, hy, run_guardR_neq, run_neq_range, Result.andThen]
theorem yields_partR {P : Program} {o : Oper} {a : Act} {W : World} (ty : TypeId) (x : Operand) (ho : o.op = .load ty x) (b off : Nat) (cs : List Value) (d : TypeDesc) (hx : a.eval x = .pointer (some ⟨b, off, none⟩)) (hc : W.rangeAt b off cs)
    (hu : P.underlying ty = some d) (hd : d.isRow = true) (hi : (P.info? ty).map (·.size) = some cs.length) : (execOp a.eval o).run P W = .ok (.value (.agg cs.toArray)) W := by
  unfold execOp
  simp only [ho, hx, Instr.loadAt, Instr.sureAddr, Sem.run_bind, Sem.run_pure, Result.andThen_ok, run_loadVar_mid W b off ty cs d hc hu hd hi]
def eqLR (l m : List (Nat × Nat)) : Bool := decide (l = m)
theorem eqLR_step {l m : List (Nat × Nat)} {k : Nat} (hl : k < l.length) (hm : k < m.length) (ht : l.take k = m.take k) : (l[k] = m[k] → l.take (k + 1) = m.take (k + 1)) ∧ (l[k] ≠ m[k] → eqLR l m = false) := by
  refine ⟨fun e => ?_, fun e => decide_eq_false (fun h => e (by subst h; rfl))⟩
  rw [List.take_succ_eq_append_getElem hl, List.take_succ_eq_append_getElem hm, ht, e]
set_option maxHeartbeats 1000000 in
set_option maxRecDepth 100000 in
theorem rsame_any (a b : Option Addr) (n c m d : Nat) (L M : List (Nat × Nat)) (w : World) (hr : RgArg w a n c L) (hn : n ≤ 100000) (hs : RgArg w b m d M) :
    Calls Tryz.prog 38 #[.slice a n c, .slice b m d] w fun e w' => e = .returned (.bool (eqLR L M)) ∧ Below w.heap.size w w' := by
  have RL := Lib.hid hr.1
  have RM := Lib.hid hs.1
  have HL := Lib.hid hr.1.1
  have HM := Lib.hid hs.1.1
  have HN := Lib.hid hn
  clear hr hs hn
  have E0 : Hid (L.length ≠ M.length → eqLR L M = false) := Lib.hid (fun h => decide_eq_false (fun e => h (by rw [e])))
  have E1 : Hid (L = M → eqLR L M = true) := Lib.hid (fun e => decide_eq_true e)
  have ES := Lib.hid (fun k (hl : k < L.length) (hm : k < M.length) ht => eqLR_step hl hm ht)
  generalize eqLR L M = r0 at *
  go_enter Tryz.func38, Tryz.ntmps38
  by_cases hnm : n = m
  · subst hnm
    go_wp2_with fail
    go_loopw [5] (fun iV wr => ∃ k : Nat, iV = .int .i64 (k : Int) ∧ k ≤ n ∧ L.take k = M.take k ∧ Below w.heap.size w wr) (fun iV _ => ((n : Int) - intOf iV).toNat)
    case atStart => exact ⟨0, rfl, Nat.zero_le _, rfl, Below.refl _ _⟩
    case round =>
      obtain ⟨k, rfl, hk, he, hb⟩ := hrel
      have B5 := Lib.hid hb
      have E5 := Lib.hid he
      clear hb he
      by_cases hlt : k < n
      · have t0 : decide ((k : Int) < (n : Int)) = true := decide_eq_true (by omega)
        have t0' : decide (k < n) = true := decide_eq_true hlt
        obtain ⟨bA, oA, rfl, _⟩ := RL.out.form (by omega)
        obtain ⟨bB, oB, rfl, _⟩ := RM.out.form (by omega)
        have kl : k < L.length := by rw [HL.out]; exact hlt
        have km : k < M.length := by rw [HM.out]; exact hlt
        obtain ⟨e1, e2⟩ := ES.out k kl km E5.out
        have EY := Lib.hid e1
        have EN := Lib.hid e2
        have RG := Lib.hid (fun W (h : Below w.heap.size w W) => (RL.out.below h).range k kl)
        have SG := Lib.hid (fun W (h : Below w.heap.size w W) => (RM.out.below h).range k km)
        clear e1 e2 ES
        generalize L[k] = s at *
        generalize M[k] = t at *
        have LS : Hid ((Tryz.prog.info? 54).map (·.size) = some (rcL s).length) := Lib.hid (by kernel_rfl)
        have LT : Hid ((Tryz.prog.info? 54).map (·.size) = some (rcL t).length) := Lib.hid (by kernel_rfl)
        have i0 : (0 : Int) ≤ (k : Int) := by omega
        have i1 : (k : Int) < (n : Int) := by omega
        have kI : IntKind.i64.wrap ((k : Int) + 1) = (k : Int) + 1 := IntWalk.i64_in _ (by have := HN.out; omega)
        clear kl km
        go_upto_region 6 with fail
        have B6 : Hid (Below w.heap.size w wr.drew) := Lib.hid (Below.step B5.out (drewN_below wr 1))
        clear B5
        refine wp_region_ord Ext Ext.refl (fun _ _ _ => Ext.trans) ((0, false) :: (1, false) :: (2, false) :: (3, false) :: (4, false) :: (5, false) :: (6, false) :: (7, false) :: (8, false) :: []) (by kernel_rfl) (by kernel_rfl) rfl (by kernel_rfl) (fun _ _ _ _ _ h => h) ?_
        generalize wr.drew = w6 at *
        repeat (first
          | (refine ord_skip rfl (by rfl) ?_; simp only [Act.put, List.setIfInBounds_toArray, List.set_cons_zero, List.set_cons_succ])
          | (refine ord_take _ rfl (by rfl) (fun W hW => yields_neqR (.tmp 20) (.tmp 24) rfl rfl rfl) ?_; simp only [Act.put, List.setIfInBounds_toArray, List.set_cons_zero, List.set_cons_succ])
          | (refine ord_take (.agg (rcells s)) rfl (by rfl) (fun W hW => yields_partR 54 (.tmp 19) rfl bA (oA + k * 2) (rcL s) _ rfl (RG.out W (B6.out.trans (hW.mono B6.out.size))) Tryz.underlying54 rfl LS.out) ?_; simp only [Act.put, List.setIfInBounds_toArray, List.set_cons_zero, List.set_cons_succ])
          | (refine ord_take (.agg (rcells t)) rfl (by rfl) (fun W hW => yields_partR 54 (.tmp 23) rfl bB (oB + k * 2) (rcL t) _ rfl (SG.out W (B6.out.trans (hW.mono B6.out.size))) Tryz.underlying54 rfl LT.out) ?_; simp only [Act.put, List.setIfInBounds_toArray, List.set_cons_zero, List.set_cons_succ])
          | (refine ord_take _ rfl (by rfl) (fun W hW => by go_simp; first | done | rfl) ?_; simp only [Act.put, List.setIfInBounds_toArray, List.set_cons_zero, List.set_cons_succ]))
        refine ord_end ?_
        cases hq : eqR s t with
        | true =>
          have E6 := Lib.hid (EY.out (eqR_is.1 hq))
          go_wp2_with fail
          go_roundw
          case rel => exact ⟨k + 1, by go_num, by omega, E6.out, B6.out⟩
          case measure => simp only [intOf]; omega
        | false =>
          have e := EN.out (fun h => by rw [eqR_is.2 h] at hq; cases hq)
          subst e
          go_wp2_with fail
          go_ret
          exact ⟨rfl, B6.out⟩
      · have t0 : decide ((k : Int) < (n : Int)) = false := decide_eq_false (by omega)
        have t0' : decide (k < n) = false := decide_eq_false hlt
        have e := E5.out
        rw [List.take_of_length_le (by rw [HL.out]; omega), List.take_of_length_le (by rw [HM.out]; omega)] at e
        have e2 := E1.out e
        subst e2
        clear e
        go_wp2_with fail
        go_ret
        exact ⟨rfl, B5.out⟩
  · have e := E0.out (by rw [HL.out, HM.out]; exact hnm)
    subst e
    have t0 : ((n : Int) != (m : Int)) = true := by simp; omega
    go_wp2_with fail
    go_ret
    exact ⟨rfl, Below.refl _ _⟩
end Go.Proofs.YtlmndmfebgaidaaGreatDoor
namespace Go.Proofs.YtlmndmfebgaidaaGreatDoor
open Go.RowKit
inductive T where
  | node (tag : Int) (body : List Int) (kids : List T)
theorem T.all {p : T → Prop} (h : ∀ tag body kids, (∀ t ∈ kids, p t) → p (.node tag body kids)) (t : T) : p t :=
  T.rec (motive_1 := p) (motive_2 := fun l => ∀ t ∈ l, p t) (fun tag body kids ih => h tag body kids ih) (fun _ hm => absurd hm (by simp))
    (fun t r h1 h2 x hx => by
      rcases List.mem_cons.1 hx with e | hx
      · rw [e]
        exact h1
      · exact h2 x hx) t
mutual
def T.In (w : World) : T → Value → Prop
  | .node tag body kids, v => ∃ (A : Option Addr) (n c : Nat) (K : Option Addr) (m d : Nat), v = .agg #[.int .i64 tag, .slice A n c, .slice K m d] ∧ (Lit.int .i64 tag).wf = true ∧ Row w A n body ∧ n ≤ maxLen ∧ (A = none → c = 0) ∧ kids.length = m ∧ m ≤ maxLen ∧
      (0 < m → ∃ b off, K = some ⟨b, off, none⟩ ∧ b < w.heap.size ∧ T.InAll w kids b off)
def T.InAll (w : World) : List T → Nat → Nat → Prop
  | [], _, _ => True
  | t :: r, b, off => (∃ v0 v1 v2 : Value, w.cell? ⟨b, off, none⟩ = some v0 ∧ w.cell? ⟨b, off + 1, none⟩ = some v1 ∧ w.cell? ⟨b, off + 2, none⟩ = some v2 ∧ T.In w t (.agg #[v0, v1, v2])) ∧ T.InAll w r b (off + 3)
end
theorem T.InAll.at {w : World} : ∀ {ts : List T} {b off : Nat}, T.InAll w ts b off → ∀ (i : Nat) (h : i < ts.length), ∃ v0 v1 v2 : Value, w.cell? ⟨b, off + i * 3, none⟩ = some v0 ∧ w.cell? ⟨b, off + i * 3 + 1, none⟩ = some v1 ∧ w.cell? ⟨b, off + i * 3 + 2, none⟩ = some v2 ∧ T.In w ts[i] (.agg #[v0, v1, v2])
  | [], _, _, _, _, h => absurd h (by simp)
  | t :: r, b, off, h, 0, _ => by
    unfold T.InAll at h
    simpa using h.1
  | t :: r, b, off, h, i + 1, hi => by
    unfold T.InAll at h
    have := T.InAll.at h.2 i (by simpa using hi)
    rw [show off + 3 + i * 3 = off + (i + 1) * 3 by omega] at this
    simpa using this
theorem T.InAll.of {w : World} : ∀ {ts : List T} {b off : Nat}, (∀ (i : Nat) (h : i < ts.length), ∃ v0 v1 v2 : Value, w.cell? ⟨b, off + i * 3, none⟩ = some v0 ∧ w.cell? ⟨b, off + i * 3 + 1, none⟩ = some v1 ∧ w.cell? ⟨b, off + i * 3 + 2, none⟩ = some v2 ∧ T.In w ts[i] (.agg #[v0, v1, v2])) → T.InAll w ts b off
  | [], _, _, _ => by
    unfold T.InAll
    trivial
  | t :: r, b, off, h => by
    unfold T.InAll
    refine ⟨by
      have h0 := h 0 (by simp)
      rw [List.getElem_cons_zero, Nat.zero_mul, Nat.add_zero] at h0
      exact h0, T.InAll.of fun i hi => ?_⟩
    have := h (i + 1) (by simpa using hi)
    rw [show off + (i + 1) * 3 = off + 3 + i * 3 by omega] at this
    simpa using this
theorem T.In.below {w w' : World} (hb : Below w.heap.size w w') (t : T) : ∀ {v : Value}, t.In w v → t.In w' v := by
  refine T.all (p := fun t => ∀ {v : Value}, t.In w v → t.In w' v) ?_ t
  intro tag body kids ih v h
  unfold T.In at h ⊢
  obtain ⟨A, n, c, K, m, d, rfl, hw, hr, hn, hc, hm, hm', hk⟩ := h
  refine ⟨A, n, c, K, m, d, rfl, hw, hr.below hb, hn, hc, hm, hm', fun h0 => ?_⟩
  obtain ⟨b, off, e, hlt, ha⟩ := hk h0
  refine ⟨b, off, e, Nat.lt_of_lt_of_le hlt hb.size, T.InAll.of fun i hi => ?_⟩
  obtain ⟨v0, v1, v2, h0, h1, h2, h3⟩ := ha.at i hi
  exact ⟨v0, v1, v2, (hb.cell (p := ⟨b, off + i * 3, none⟩) hlt).trans h0, (hb.cell (p := ⟨b, off + i * 3 + 1, none⟩) hlt).trans h1, (hb.cell (p := ⟨b, off + i * 3 + 2, none⟩) hlt).trans h2, ih _ (List.getElem_mem hi) h3⟩
theorem T.In.drewN {w : World} {t : T} {v : Value} (h : t.In w v) (k : Nat) : t.In (w.drewN k) v := T.In.below (w := w) (w' := w.drewN k) ⟨rfl, rfl, rfl, Nat.le_refl _, fun _ _ => rfl⟩ t h
def T.tag : T → Int | .node t _ _ => t
def T.body : T → List Int | .node _ b _ => b
def T.kids : T → List T | .node _ _ k => k
theorem T.each {p : T → Prop} (h : ∀ t, (∀ k ∈ t.kids, p k) → p t) (t : T) : p t := T.all (fun tag body kids ih => h (.node tag body kids) ih) t
theorem T.In.open {w : World} {t : T} {v : Value} (h : t.In w v) : ∃ (A : Option Addr) (n c : Nat) (K : Option Addr) (m d : Nat), v = .agg #[.int .i64 t.tag, .slice A n c, .slice K m d] ∧ (Lit.int .i64 t.tag).wf = true ∧ Row w A n t.body ∧ n ≤ maxLen ∧ (A = none → c = 0) ∧ t.kids.length = m ∧ m ≤ maxLen ∧
      (∀ i, i < m → ∃ b off, K = some ⟨b, off, none⟩ ∧ b < w.heap.size ∧ ∃ v0 v1 v2 : Value, w.cell? ⟨b, off + i * 3, none⟩ = some v0 ∧ w.cell? ⟨b, off + i * 3 + 1, none⟩ = some v1 ∧ w.cell? ⟨b, off + i * 3 + 2, none⟩ = some v2 ∧ (t.kids[i]?.getD (.node 0 [] [])).In w (.agg #[v0, v1, v2])) := by
  obtain ⟨tag, body, kids⟩ := t
  unfold T.In at h
  obtain ⟨A, n, c, K, m, d, rfl, hw, hr, hn, hc, hm, hm', hk⟩ := h
  refine ⟨A, n, c, K, m, d, rfl, hw, hr, hn, hc, hm, hm', fun i hi => ?_⟩
  obtain ⟨b, off, e, hlt, ha⟩ := hk (by omega)
  have hi' : i < kids.length := by omega
  obtain ⟨v0, v1, v2, h⟩ := ha.at i hi'
  refine ⟨b, off, e, hlt, v0, v1, v2, ?_⟩
  simp only [T.kids, List.getElem?_eq_getElem hi', Option.getD_some]
  exact h
theorem T.In.form {w : World} {t : T} {v0 v1 v2 : Value} (h : t.In w (.agg #[v0, v1, v2])) : ∃ (z : Int) (A : Option Addr) (n c : Nat) (K : Option Addr) (m d : Nat), v0 = .int .i64 z ∧ v1 = .slice A n c ∧ v2 = .slice K m d := by
  obtain ⟨A, n, c, K, m, d, e, _⟩ := h.open
  simp only [Value.agg.injEq] at e
  have e' := congrArg Array.toList e
  simp only [List.cons.injEq, and_true] at e'
  exact ⟨_, A, n, c, K, m, d, e'.1, e'.2.1, e'.2.2⟩
structure Box (w wr : World) (g : Nat) (t : T) (A : Option Addr) (n c : Nat) (K : Option Addr) (m d : Nat) : Prop where
  base : w.heap.size ≤ g
  blk : Blk wr g 29 #[.int .i64 t.tag, .slice A n c, .slice K m d]
  below : Below w.heap.size w wr
  has : t.In wr (.agg #[.int .i64 t.tag, .slice A n c, .slice K m d])
theorem Box.start {w : World} {t : T} {A : Option Addr} {n c : Nat} {K : Option Addr} {m d : Nat} (h : t.In w (.agg #[.int .i64 t.tag, .slice A n c, .slice K m d])) : Box w (w.alloc (.cells #[.int .i64 t.tag, .slice A n c, .slice K m d] 29)) w.heap.size t A n c K m d :=
  ⟨Nat.le_refl _, Blk.new _ _ _, (Below.refl _ _).alloc (Nat.le_refl _) _, T.In.below ((Below.refl _ _).alloc (Nat.le_refl _) _) t h⟩
theorem Box.go {w wr w' : World} {g : Nat} {t : T} {A : Option Addr} {n c : Nat} {K : Option Addr} {m d : Nat} (h : Box w wr g t A n c K m d) (hb : Below wr.heap.size wr w') : Box w w' g t A n c K m d :=
  ⟨h.base, h.blk.below hb h.blk.lt, Below.step h.below hb, T.In.below hb t h.has⟩
theorem Box.cells {w wr : World} {g : Nat} {t : T} {A : Option Addr} {n c : Nat} {K : Option Addr} {m d : Nat} (h : Box w wr g t A n c K m d) : wr.cell? ⟨g, 0, none⟩ = some (.int .i64 t.tag) ∧ wr.cell? ⟨g, 1, none⟩ = some (.slice A n c) ∧ wr.cell? ⟨g, 2, none⟩ = some (.slice K m d) :=
  ⟨h.blk.cell 0, h.blk.cell 1, h.blk.cell 2⟩
theorem Box.kid {w wr : World} {g : Nat} {t : T} {A : Option Addr} {n c : Nat} {K : Option Addr} {m d : Nat} (h : Box w wr g t A n c K m d) (i : Nat) (hi : i < m) : ∃ (k : T) (b off : Nat) (z : Int) (A' : Option Addr) (n' c' : Nat) (K' : Option Addr) (m' d' : Nat), t.kids[i]? = some k ∧ K = some ⟨b, off, none⟩ ∧
    wr.cell? ⟨b, off + i * 3, none⟩ = some (.int .i64 z) ∧ wr.cell? ⟨b, off + i * 3 + 1, none⟩ = some (.slice A' n' c') ∧ wr.cell? ⟨b, off + i * 3 + 2, none⟩ = some (.slice K' m' d') ∧ k.In wr (.agg #[.int .i64 z, .slice A' n' c', .slice K' m' d']) := by
  obtain ⟨A1, n1, c1, K1, m1, d1, e, _, _, _, _, hm, _, hk⟩ := h.has.open
  simp only [Value.agg.injEq] at e
  have e' := congrArg Array.toList e
  simp only [List.cons.injEq, and_true, Value.slice.injEq, true_and] at e'
  obtain ⟨⟨rfl, rfl, rfl⟩, rfl, rfl, rfl⟩ := e'
  obtain ⟨b, off, rfl, hb, v0, v1, v2, h0, h1, h2, h3⟩ := hk i hi
  obtain ⟨z, A', n', c', K', m', d', rfl, rfl, rfl⟩ := h3.form
  have hi' : i < t.kids.length := by omega
  rw [List.getElem?_eq_getElem hi', Option.getD_some] at h3
  exact ⟨t.kids[i], b, off, z, A', n', c', K', m', d', List.getElem?_eq_getElem hi', rfl, h0, h1, h2, h3⟩
end Go.Proofs.YtlmndmfebgaidaaGreatDoor
namespace Go.Proofs.YtlmndmfebgaidaaGreatDoor
open Go.RowKit
mutual
def weighT : T → Nat → Int
  | .node _ body kids, deep => if 60 < deep then 30000 else weighAll kids deep (1 + (if (body.length : Int) < 30000 then (body.length : Int) else 30000))
def weighAll : List T → Nat → Int → Int
  | [], _, a => a
  | t :: r, deep, a => if a < 30000 then weighAll r deep (a + weighT t (deep + 1)) else a
end
theorem weighT_eq (t : T) (deep : Nat) : weighT t deep = if 60 < deep then 30000 else weighAll t.kids deep (1 + (if (t.body.length : Int) < 30000 then (t.body.length : Int) else 30000)) := by
  obtain ⟨tag, body, kids⟩ := t
  rw [weighT]
  rfl
theorem weigh_ge (t : T) : ∀ deep, 0 ≤ weighT t deep := by
  refine T.all (p := fun t => ∀ deep, 0 ≤ weighT t deep) ?_ t
  intro tag body kids ih deep
  have key : ∀ (ks : List T), (∀ k ∈ ks, ∀ deep, 0 ≤ weighT k deep) → ∀ a : Int, 0 ≤ a → 0 ≤ weighAll ks deep a := by
    intro ks
    induction ks with
    | nil => intro _ a ha; rw [weighAll]; exact ha
    | cons k r ihr =>
      intro hk a ha
      rw [weighAll]
      split
      · exact ihr (fun x hx => hk x (by simp [hx])) _ (by have := hk k (by simp) (deep + 1); omega)
      · exact ha
  rw [weighT]
  split
  · omega
  · exact key kids ih _ (by split <;> omega)
theorem weigh_le (t : T) : ∀ deep, deep ≤ 61 → weighT t deep ≤ 30001 * (62 - deep) := by
  refine T.all (p := fun t => ∀ deep, deep ≤ 61 → weighT t deep ≤ 30001 * (62 - deep)) ?_ t
  intro tag body kids ih deep hd
  rw [weighT]
  by_cases h : 60 < deep
  · rw [if_pos h]
    omega
  rw [if_neg h]
  have key : ∀ (ks : List T), (∀ k ∈ ks, ∀ deep : Nat, deep ≤ 61 → weighT k deep ≤ 30001 * (62 - deep)) → ∀ a : Int, a ≤ 30001 * (62 - deep) → weighAll ks deep a ≤ 30001 * (62 - deep) := by
    intro ks
    induction ks with
    | nil => intro _ a ha; rw [weighAll]; exact ha
    | cons k r ihr =>
      intro hk a ha
      rw [weighAll]
      split
      · refine ihr (fun x hx => hk x (by simp [hx])) _ ?_
        have := hk k (by simp) (deep + 1) (by omega)
        omega
      · exact ha
  exact key kids ih _ (by split <;> omega)
theorem weigh_kid {ks : List T} {i : Nat} {k : T} (h : ks[i]? = some k) (deep : Nat) (a : Int) : weighAll (ks.drop i) deep a = if a < 30000 then weighAll (ks.drop (i + 1)) deep (a + weighT k (deep + 1)) else a := by
  obtain ⟨hi, rfl⟩ := List.getElem?_eq_some_iff.1 h
  rw [List.drop_eq_getElem_cons hi, weighAll]
theorem weigh_end {ks : List T} {i : Nat} (h : ks.length ≤ i) (deep : Nat) (a : Int) : weighAll (ks.drop i) deep a = a := by
  rw [List.drop_of_length_le h, weighAll]
theorem weigh_stop (ks : List T) (deep : Nat) (a : Int) (h : ¬ a < 30000) : weighAll ks deep a = a := by
  cases ks with
  | nil => rw [weighAll]
  | cons k r => rw [weighAll, if_neg h]
theorem ret_int {k : IntKind} {a b : Int} (h : a = b) : Ending.returned (.int k a) = .returned (.int k b) := by rw [h]
theorem weigh_start {t : T} {deep n : Nat} (hn : t.body.length = n) (h : ¬ 60 < deep) (X : Int) (hX : (X = 1 + n ∧ (n : Int) ≤ 30000) ∨ (X = 30001 ∧ 30000 ≤ (n : Int))) : weighAll (t.kids.drop 0) deep X = weighT t deep := by
  have e : X = 1 + (if (t.body.length : Int) < 30000 then (t.body.length : Int) else 30000) := by
    rw [hn]
    split <;> omega
  rw [weighT_eq, if_neg h, List.drop_zero, ← e]
theorem weigh_bound (t : T) (deep : Nat) (h : deep ≤ 61) : 0 ≤ weighT t deep ∧ weighT t deep ≤ 30001 * (62 - deep) := ⟨weigh_ge t deep, weigh_le t deep h⟩
set_option maxHeartbeats 2000000 in
theorem weigh_any (t : T) : ∀ (v : Value) (deep : Nat) (w : World), t.In w v → deep ≤ 61 →
    Calls Tryz.prog 26 #[v, .int .i64 (deep : Int)] w fun e w' => e = .returned (.int .i64 (weighT t deep)) ∧ Below w.heap.size w w' := by
  refine T.each (p := fun t => ∀ (v : Value) (deep : Nat) (w : World), t.In w v → deep ≤ 61 → Calls Tryz.prog 26 #[v, .int .i64 (deep : Int)] w fun e w' => e = .returned (.int .i64 (weighT t deep)) ∧ Below w.heap.size w w') ?_ t
  clear t
  intro t ih v deep w hin hd
  obtain ⟨A, n, c, K, m, d, rfl, hw, hr, hn, hc, hm, hm', hks⟩ := hin.open
  have BX := Lib.hid (Box.start hin)
  have IH := Lib.hid ih
  have WT := Lib.hid (weighT_eq t deep)
  have HM := Lib.hid hm
  have BL := Lib.hid hr.1
  clear hin ih hw hr hc hm hks
  unfold maxLen at hn hm'
  by_cases h60 : 60 < deep
  · go_enter Tryz.func26, Tryz.ntmps26
    go_wp2_with fail
    go_ret
    exact ⟨ret_int (by rw [WT.out, if_pos h60]), (Below.refl _ _).alloc (Nat.le_refl _) _⟩
  go_enter Tryz.func26, Tryz.ntmps26
  go_wp2_with fail
  all_goals
    go_loopw [5, 6] (fun a i wr => ∃ (k : Nat) (z : Int), k ≤ m ∧ i = .int .i64 (k : Int) ∧ a = .int .i64 z ∧ 0 ≤ z ∧ z ≤ 30001 * (62 - deep) ∧ weighAll (t.kids.drop k) deep z = weighT t deep ∧ Box w wr w.heap.size t A n c K m d) (fun _ i _ => m - (intOf i).toNat)
    case atStart =>
      exact ⟨0, _, by omega, rfl, rfl, by omega, by omega, weigh_start BL.out h60 _ (by omega), BX.out⟩
    case round =>
      obtain ⟨k, z, hk, rfl, rfl, hz0, hz1, hw, hbox⟩ := hrel
      have HW := Lib.hid hw
      have HB := Lib.hid hbox
      obtain ⟨g0, g1, g2⟩ := hbox.cells
      clear hw hbox
      by_cases hlt : k < m
      · by_cases hzz : z < 30000
        · obtain ⟨x, b, off, zz, A', n', c', K', m', d', hx, rfl, c0, c1, c2, hxin⟩ := HB.out.kid k hlt
          have ST := Lib.hid ((weigh_kid hx deep z).symm.trans HW.out)
          have hbd := weigh_bound x (deep + 1) (by omega)
          have CI := Lib.hid (IH.out x (List.mem_of_getElem? hx) _ (deep + 1) wr hxin (by omega))
          clear hx hxin
          go_wp2_with (go_at_call 26; refine (CI.out).mono ?_; rintro e w2 ⟨rfl, hb2⟩; have HB2 := Lib.hid (HB.out.go hb2); clear hb2)
          go_roundw
          case rel => exact ⟨k + 1, _, by omega, by go_num, rfl, by omega, by omega, by rw [if_pos hzz] at ST; exact ST.out, HB2.out⟩
          case measure => simp [intOf]; omega
        · have E := Lib.hid ((weigh_stop _ deep z hzz).symm.trans HW.out)
          clear HW
          go_wp2_with fail
          go_ret
          exact ⟨ret_int E.out, HB.out.below⟩
      · have E := Lib.hid ((weigh_end (ks := t.kids) (i := k) (by rw [HM.out]; omega) deep z).symm.trans HW.out)
        clear HW
        go_wp2_with fail
        go_ret
        exact ⟨ret_int E.out, HB.out.below⟩
def lightT (t : T) : Bool := decide (weighT t 0 < 30000)
set_option maxHeartbeats 1000000 in
theorem light_any (t : T) (v : Value) (w : World) (hin : t.In w v) : Calls Tryz.prog 10 #[v] w fun e w' => e = .returned (.bool (lightT t)) ∧ Below w.heap.size w w' := by
  obtain ⟨A, n, c, K, m, d, rfl, _⟩ := hin.open
  have BX := Lib.hid (Box.start hin)
  clear hin
  go_enter Tryz.func10, Tryz.ntmps10
  go_wp2_with fail
  refine (weigh_any t _ 0 _ BX.out.has (by omega)).mono ?_
  rintro e w2 ⟨rfl, hb2⟩
  have B2 := Lib.hid (Below.step BX.out.below hb2)
  clear hb2 BX
  go_wp2_with fail
  go_ret
  exact ⟨rfl, B2.out⟩
end Go.Proofs.YtlmndmfebgaidaaGreatDoor
namespace Go.Proofs.YtlmndmfebgaidaaGreatDoor
open Go.RowKit
/- The plain weight, and the depth. -/
mutual
def wt : T → Int
  | .node _ b ks => 1 + b.length + wtAll ks
def wtAll : List T → Int
  | [] => 0
  | x :: r => wt x + wtAll r
end
mutual
def dp : T → Int
  | .node _ _ ks => 1 + dpAll ks
def dpAll : List T → Int
  | [] => 0
  | x :: r => if dpAll r < dp x then dp x else dpAll r
end
theorem wt_eq (t : T) : wt t = 1 + t.body.length + wtAll t.kids := by
  obtain ⟨tag, b, ks⟩ := t
  rw [wt]
  rfl
theorem dp_eq (t : T) : dp t = 1 + dpAll t.kids := by
  obtain ⟨tag, b, ks⟩ := t
  rw [dp]
  rfl
theorem wtAll_ge (ks : List T) (h : ∀ k ∈ ks, 1 ≤ wt k) : 0 ≤ wtAll ks := by
  induction ks with
  | nil => rw [wtAll]; omega
  | cons k r ih =>
    rw [wtAll]
    have := h k (by simp)
    have := ih (fun x hx => h x (by simp [hx]))
    omega
theorem wt_ge (t : T) : 1 ≤ wt t := by
  refine T.each (p := fun t => 1 ≤ wt t) ?_ t
  intro t ih
  have := wtAll_ge t.kids ih
  rw [wt_eq]
  omega
theorem wtAll_pos (ks : List T) : 0 ≤ wtAll ks := wtAll_ge ks (fun k _ => wt_ge k)
theorem wtAll_mem {ks : List T} {k : T} (h : k ∈ ks) : wt k ≤ wtAll ks := by
  induction ks with
  | nil => simp at h
  | cons x r ih =>
    rw [wtAll]
    rcases List.mem_cons.1 h with rfl | h
    · have := wtAll_pos r
      omega
    · have := ih h
      have := wt_ge x
      omega
theorem dpAll_le {ks : List T} {b : Int} (h0 : 0 ≤ b) (h : ∀ k ∈ ks, dp k ≤ b) : dpAll ks ≤ b := by
  induction ks with
  | nil => rw [dpAll]; exact h0
  | cons x r ih =>
    rw [dpAll]
    have := h x (by simp)
    have := ih (fun y hy => h y (by simp [hy]))
    split <;> omega
theorem weighAll_le (ks : List T) (deep : Nat) : ∀ a : Int, a ≤ weighAll ks deep a := by
  induction ks with
  | nil => intro a; rw [weighAll]; omega
  | cons k r ih =>
    intro a
    rw [weighAll]
    split
    · have := ih (a + weighT k (deep + 1))
      have := weigh_ge k (deep + 1)
      omega
    · omega
theorem light_plain (t : T) : ∀ deep : Nat, weighT t deep < 30000 → weighT t deep = wt t ∧ dp t + deep ≤ 61 := by
  refine T.each (p := fun t => ∀ deep : Nat, weighT t deep < 30000 → weighT t deep = wt t ∧ dp t + deep ≤ 61) ?_ t
  intro t ih deep h
  rw [weighT_eq] at h ⊢
  have h60 : ¬ 60 < deep := by
    intro h'
    rw [if_pos h'] at h
    omega
  rw [if_neg h60] at h ⊢
  have hle := weighAll_le t.kids deep (1 + (if (t.body.length : Int) < 30000 then (t.body.length : Int) else 30000))
  have hb : (t.body.length : Int) < 30000 := by
    rcases (show (t.body.length : Int) < 30000 ∨ 30000 ≤ (t.body.length : Int) by omega) with h' | h'
    · exact h'
    · rw [if_neg (by omega)] at hle h
      omega
  rw [if_pos hb] at h ⊢
  have key : ∀ ks : List T, (∀ k ∈ ks, ∀ deep : Nat, weighT k deep < 30000 → weighT k deep = wt k ∧ dp k + deep ≤ 61) → ∀ a : Int, 0 ≤ a → weighAll ks deep a < 30000 → weighAll ks deep a = a + wtAll ks ∧ dpAll ks + 1 + deep ≤ 61 := by
    intro ks
    induction ks with
    | nil => intro _ a _ h; rw [weighAll, wtAll, dpAll]; omega
    | cons k r ihr =>
      intro hk a ha h
      rw [weighAll] at h ⊢
      by_cases h3 : a < 30000
      · rw [if_pos h3] at h ⊢
        have h4 := weighAll_le r deep (a + weighT k (deep + 1))
        have h5 := weigh_ge k (deep + 1)
        obtain ⟨e1, e2⟩ := hk k (by simp) (deep + 1) (by omega)
        obtain ⟨e3, e4⟩ := ihr (fun x hx => hk x (by simp [hx])) _ (by omega) h
        rw [wtAll, dpAll]
        refine ⟨by omega, ?_⟩
        split <;> omega
      · rw [if_neg h3] at h
        omega
  obtain ⟨e1, e2⟩ := key t.kids ih _ (by omega) h
  rw [wt_eq, dp_eq]
  omega
theorem light_wt {t : T} (h : lightT t = true) : wt t < 30000 ∧ dp t ≤ 61 := by
  unfold lightT at h
  have h' := of_decide_eq_true h
  have := light_plain t 0 h'
  omega
/- Tags. -/
/- Lengths. -/
/- Sizes. -/
end Go.Proofs.YtlmndmfebgaidaaGreatDoor
namespace Go.Proofs.YtlmndmfebgaidaaGreatDoor
open Go.RowKit
mutual
def T.InP (P : Nat → Prop) (w : World) : T → Value → Prop
  | .node tag body kids, v => ∃ (A : Option Addr) (n c : Nat) (K : Option Addr) (m d : Nat), v = .agg #[.int .i64 tag, .slice A n c, .slice K m d] ∧ (Lit.int .i64 tag).wf = true ∧ Row w A n body ∧ n ≤ maxLen ∧ (A = none → c = 0) ∧ kids.length = m ∧ m ≤ maxLen ∧
      (0 < n → ∃ b off, A = some ⟨b, off, none⟩ ∧ P b) ∧ (0 < m → ∃ b off, K = some ⟨b, off, none⟩ ∧ b < w.heap.size ∧ P b ∧ T.InPAll P w kids b off)
def T.InPAll (P : Nat → Prop) (w : World) : List T → Nat → Nat → Prop
  | [], _, _ => True
  | t :: r, b, off => (∃ v0 v1 v2 : Value, w.cell? ⟨b, off, none⟩ = some v0 ∧ w.cell? ⟨b, off + 1, none⟩ = some v1 ∧ w.cell? ⟨b, off + 2, none⟩ = some v2 ∧ T.InP P w t (.agg #[v0, v1, v2])) ∧ T.InPAll P w r b (off + 3)
end
theorem T.InPAll.at {P : Nat → Prop} {w : World} : ∀ {ts : List T} {b off : Nat}, T.InPAll P w ts b off → ∀ (i : Nat) (h : i < ts.length), ∃ v0 v1 v2 : Value, w.cell? ⟨b, off + i * 3, none⟩ = some v0 ∧ w.cell? ⟨b, off + i * 3 + 1, none⟩ = some v1 ∧ w.cell? ⟨b, off + i * 3 + 2, none⟩ = some v2 ∧ T.InP P w ts[i] (.agg #[v0, v1, v2])
  | [], _, _, _, _, h => absurd h (by simp)
  | t :: r, b, off, h, 0, _ => by
    unfold T.InPAll at h
    simpa using h.1
  | t :: r, b, off, h, i + 1, hi => by
    unfold T.InPAll at h
    have := T.InPAll.at h.2 i (by simpa using hi)
    rw [show off + 3 + i * 3 = off + (i + 1) * 3 by omega] at this
    simpa using this
theorem T.InPAll.of {P : Nat → Prop} {w : World} : ∀ {ts : List T} {b off : Nat}, (∀ (i : Nat) (h : i < ts.length), ∃ v0 v1 v2 : Value, w.cell? ⟨b, off + i * 3, none⟩ = some v0 ∧ w.cell? ⟨b, off + i * 3 + 1, none⟩ = some v1 ∧ w.cell? ⟨b, off + i * 3 + 2, none⟩ = some v2 ∧ T.InP P w ts[i] (.agg #[v0, v1, v2])) → T.InPAll P w ts b off
  | [], _, _, _ => by
    unfold T.InPAll
    trivial
  | t :: r, b, off, h => by
    unfold T.InPAll
    refine ⟨by
      have h0 := h 0 (by simp)
      rw [List.getElem_cons_zero, Nat.zero_mul, Nat.add_zero] at h0
      exact h0, T.InPAll.of fun i hi => ?_⟩
    have := h (i + 1) (by simpa using hi)
    rw [show off + (i + 1) * 3 = off + 3 + i * 3 by omega] at this
    simpa using this
theorem T.InP.keep {P Q : Nat → Prop} {w w' : World} (hP : ∀ b, b < w.heap.size → P b → Q b ∧ w'.heap[b]? = w.heap[b]?) (hs : w.heap.size ≤ w'.heap.size) (t : T) : ∀ {v : Value}, t.InP P w v → t.InP Q w' v := by
  refine T.all (p := fun t => ∀ {v : Value}, t.InP P w v → t.InP Q w' v) ?_ t
  intro tag body kids ih v h
  unfold T.InP at h ⊢
  obtain ⟨A, n, c, K, m, d, rfl, hw, hr, hn, hc, hm, hm', hp, hk⟩ := h
  refine ⟨A, n, c, K, m, d, rfl, hw, ⟨hr.1, hr.2.1, fun h0 => ?_⟩, hn, hc, hm, hm', fun h0 => ?_, fun h0 => ?_⟩
  · obtain ⟨b, off, e, hb, hcell⟩ := hr.2.2 h0
    obtain ⟨b', off', e', hb'⟩ := hp h0
    rw [e] at e'
    obtain ⟨rfl, rfl⟩ : b = b' ∧ off = off' := by simpa using e'
    refine ⟨b, off, e, by omega, fun i hi => ?_⟩
    rw [← hcell i hi]
    simp only [World.cell?, (hP b hb hb').2]
  · obtain ⟨b, off, e, hb, _⟩ := hr.2.2 h0
    obtain ⟨b', off', e', hb'⟩ := hp h0
    rw [e] at e'
    obtain ⟨rfl, rfl⟩ : b = b' ∧ off = off' := by simpa using e'
    exact ⟨b, off, e, (hP b hb hb').1⟩
  · obtain ⟨b, off, e, hlt, hb, ha⟩ := hk h0
    refine ⟨b, off, e, by omega, (hP b hlt hb).1, T.InPAll.of fun i hi => ?_⟩
    obtain ⟨v0, v1, v2, h0, h1, h2, h3⟩ := ha.at i hi
    refine ⟨v0, v1, v2, ?_, ?_, ?_, ih _ (List.getElem_mem hi) h3⟩
    · rw [← h0]
      simp only [World.cell?, (hP b hlt hb).2]
    · rw [← h1]
      simp only [World.cell?, (hP b hlt hb).2]
    · rw [← h2]
      simp only [World.cell?, (hP b hlt hb).2]
theorem T.InP.in {P : Nat → Prop} {w : World} (t : T) : ∀ {v : Value}, t.InP P w v → t.In w v := by
  refine T.all (p := fun t => ∀ {v : Value}, t.InP P w v → t.In w v) ?_ t
  intro tag body kids ih v h
  unfold T.InP at h
  unfold T.In
  obtain ⟨A, n, c, K, m, d, rfl, hw, hr, hn, hc, hm, hm', hp, hk⟩ := h
  refine ⟨A, n, c, K, m, d, rfl, hw, hr, hn, hc, hm, hm', fun h0 => ?_⟩
  obtain ⟨b, off, e, hlt, hb, ha⟩ := hk h0
  refine ⟨b, off, e, hlt, T.InAll.of fun i hi => ?_⟩
  obtain ⟨v0, v1, v2, h0, h1, h2, h3⟩ := ha.at i hi
  exact ⟨v0, v1, v2, h0, h1, h2, ih _ (List.getElem_mem hi) h3⟩
theorem T.InP.below {P Q : Nat → Prop} {w w' : World} (hb : Below w.heap.size w w') (hq : ∀ b, P b → Q b) (t : T) {v : Value} (h : t.InP P w v) : t.InP Q w' v :=
  T.InP.keep (fun b hlt hp => ⟨hq b hp, hb.block b hlt⟩) hb.size t h
theorem T.InP.form {P : Nat → Prop} {w : World} {t : T} {v : Value} (h : t.InP P w v) : ∃ (A : Option Addr) (n c : Nat) (K : Option Addr) (m d : Nat), v = .agg #[.int .i64 t.tag, .slice A n c, .slice K m d] := by
  obtain ⟨A, n, c, K, m, d, e, _⟩ := (T.InP.in t h).open
  exact ⟨A, n, c, K, m, d, e⟩
theorem Tryz.infoNode : (Tryz.prog.info? 29).map (fun i => (i.zero, i.size, i.bytes)) = some (some (.agg #[.int .i64 0, .slice none 0 0, .slice none 0 0]), 3, 56) := by kernel_rfl
def Apart (g : Nat) (V : Value) (b : Nat) : Prop := g < b ∧ V.ownBlock ≠ some b
def NOut (W0 wr : World) (g : Nat) (V : Value) (ks : List T) : Prop :=
  Below W0.heap.size W0 wr ∧ ∃ xs : List Value, wr.ownsRow W0.heap.size 29 3 V ks.length xs ∧
    ∀ i (h : i < ks.length), ∃ v0 v1 v2 : Value, xs[i * 3]? = some v0 ∧ xs[i * 3 + 1]? = some v1 ∧ xs[i * 3 + 2]? = some v2 ∧ (ks[i]).InP (Apart g V) wr (.agg #[v0, v1, v2])
theorem NOut.start {W0 wr : World} (hb : Below W0.heap.size W0 wr) (g : Nat) : NOut W0 wr g (.slice none 0 0) [] :=
  ⟨hb, [], World.ownsRow_nil _ _ _ _, fun i h => absurd h (by simp)⟩
theorem NOut.below {W0 wr w' : World} {g : Nat} {V : Value} {ks : List T} (h : NOut W0 wr g V ks) (hb : Below wr.heap.size wr w') : NOut W0 w' g V ks := by
  obtain ⟨h1, xs, h2, h3⟩ := h
  refine ⟨Below.trans h1 (hb.mono h1.size), xs, ⟨h2.1, ?_⟩, fun i hi => ?_⟩
  · rcases h2.2 with h' | ⟨g, cap, cur, e, h1, h2, h3⟩
    · exact .inl h'
    · exact .inr ⟨g, cap, cur, e, h1, (hb.block g (Array.getElem?_eq_some_iff.1 h2).1).trans h2, h3⟩
  · obtain ⟨v0, v1, v2, e0, e1, e2, hin⟩ := h3 i hi
    exact ⟨v0, v1, v2, e0, e1, e2, T.InP.below hb (fun _ h => h) _ hin⟩
theorem NOut.store {W0 wr : World} {g : Nat} {V : Value} {ks : List T} (h : NOut W0 wr g V ks) (hg : W0.heap.size ≤ g) (hV : V.ownBlock ≠ some g) (j : Nat) (v : Value) : NOut W0 (wr.setCell ⟨g, j, none⟩ v) g V ks := by
  obtain ⟨h1, xs, h2, h3⟩ := h
  refine ⟨h1.setCell (by show W0.heap.size ≤ g; exact hg) _, xs, ⟨h2.1, ?_⟩, fun i hi => ?_⟩
  · rcases h2.2 with h' | ⟨g', cap, cur, e, h1, h2, h3⟩
    · exact .inl h'
    · refine .inr ⟨g', cap, cur, e, h1, ?_, h3⟩
      rw [← h2]
      exact heap_setCell_other wr ⟨g, j, none⟩ g' v (fun he => hV (by have he' : g' = g := he; rw [e, he']; rfl))
  · obtain ⟨v0, v1, v2, e0, e1, e2, hin⟩ := h3 i hi
    refine ⟨v0, v1, v2, e0, e1, e2, T.InP.keep (fun b hb hp => ⟨hp, ?_⟩) (by simp) _ hin⟩
    exact heap_setCell_other wr ⟨g, j, none⟩ b v (fun he => by
      have he' : b = g := he
      have := hp.1
      omega)
theorem NOut.form {W0 wr : World} {g : Nat} {V : Value} {ks : List T} (h : NOut W0 wr g V ks) : ∃ (K : Option Addr) (d : Nat), V = .slice K ks.length d := by
  obtain ⟨_, xs, h2, _⟩ := h
  rcases h2.2 with ⟨rfl, h0⟩ | ⟨g', cap, cur, e, _⟩
  · exact ⟨none, 0, by rw [h0]⟩
  · exact ⟨_, cap, e⟩
theorem NOut.done {W0 wr : World} {g : Nat} {V : Value} {ks : List T} (h : NOut W0 wr g V ks) (hg : W0.heap.size ≤ g) {z : Int} (hz : (Lit.int .i64 z).wf = true) : (T.node z [] ks).InP (W0.heap.size ≤ ·) wr (.agg #[.int .i64 z, .slice none 0 0, V]) := by
  obtain ⟨hb, xs, hown, hks⟩ := h
  unfold T.InP
  have hxl : xs.length = ks.length * 3 := hown.1
  rcases hown.2 with ⟨rfl, h0⟩ | ⟨g', cap, cur, rfl, h1, h2, h3, h4, h5⟩
  · have : ks = [] := List.eq_nil_of_length_eq_zero h0
    subst this
    exact ⟨none, 0, 0, none, 0, 0, rfl, hz, Row.nil _ _, Nat.zero_le _, fun _ => rfl, rfl, Nat.zero_le _, fun h => absurd h (by omega), fun h => absurd h (by omega)⟩
  · refine ⟨none, 0, 0, some ⟨g', 0, none⟩, ks.length, cap, rfl, hz, Row.nil _ _, Nat.zero_le _, fun _ => rfl, rfl, Nat.le_trans h3 h4, fun h => absurd h (by omega), fun _ => ⟨g', 0, rfl, (Array.getElem?_eq_some_iff.1 h2).1, h1, T.InPAll.of fun i hi => ?_⟩⟩
    obtain ⟨u0, u1, u2, e0, e1, e2, hin'⟩ := hks i hi
    refine ⟨u0, u1, u2, ?_, ?_, ?_, T.InP.keep (fun b _ hp => ⟨by have := hp.1; omega, rfl⟩) (Nat.le_refl _) _ hin'⟩
    · rw [Nat.zero_add, hown.cellAt _ (by omega)]; exact e0
    · rw [Nat.zero_add, hown.cellAt _ (by omega)]; exact e1
    · rw [Nat.zero_add, hown.cellAt _ (by omega)]; exact e2
end Go.Proofs.YtlmndmfebgaidaaGreatDoor
namespace Go.Proofs.YtlmndmfebgaidaaGreatDoor
open Go.RowKit
set_option linter.unusedVariables false
def bareZ : List Int → List Int
  | [] => []
  | z :: r => if z = 0 then bareZ r else z :: r
theorem bare_drop {zs : List Int} {k : Nat} (h : k < zs.length) : bareZ (zs.drop k) = if zs[k]?.getD 0 = 0 then bareZ (zs.drop (k + 1)) else zs.drop k := by
  rw [List.drop_eq_getElem_cons h, bareZ, List.getElem?_eq_getElem h]
  rfl
theorem bare_le (zs : List Int) : (bareZ zs).length ≤ zs.length := by
  induction zs with
  | nil => exact Nat.le_refl _
  | cons z r ih =>
    rw [bareZ]
    split
    · rw [List.length_cons]; omega
    · exact Nat.le_refl _
theorem bare_mem {zs : List Int} {x : Int} (h : x ∈ bareZ zs) : x ∈ zs := by
  induction zs with
  | nil => exact h
  | cons z r ih =>
    rw [bareZ] at h
    split at h
    · exact List.mem_cons_of_mem _ (ih h)
    · exact h
set_option maxHeartbeats 1000000 in
theorem rbare_any (a : Option Addr) (n ca : Nat) (zs : List Int) (w : World) (hr : Row w a n zs) (hnc : n ≤ ca) (hn : n ≤ 100000) (hnil : a = none → ca = 0) : Calls Tryz.prog 86 #[.slice a n ca] w (GivesNew (bareZ zs) w) := by
  have R0 := Lib.hid hr
  have NI := Lib.hid hnil
  have HL := Lib.hid hr.1
  clear hr hnil
  go_enter Tryz.func86, Tryz.ntmps86
  go_wp2_with fail
  go_loopw [3] (fun i wr => ∃ k : Nat, k ≤ n ∧ i = .int .i64 (k : Int) ∧ wr = w ∧ bareZ (zs.drop k) = bareZ zs) (fun i _ => n - (intOf i).toNat)
  case atStart => exact ⟨0, by omega, rfl, rfl, by simp⟩
  case round =>
    obtain ⟨k, hk, rfl, rfl, hb⟩ := hrel
    have HB := Lib.hid hb
    clear hb
    have tail : ∀ j : Nat, j = k → bareZ zs = zs.drop k → True := fun _ _ _ => trivial
    clear tail
    by_cases hlt : k < n
    · obtain ⟨b, off, rfl, hbl, hc⟩ := R0.out.2.2 (by omega)
      have c0 := hc k hlt
      have z0 := R0.out.byte k
      have BD := Lib.hid (bare_drop (zs := zs) (k := k) (by rw [HL.out]; exact hlt))
      clear hc
      by_cases hz : zs[k]?.getD 0 = 0
      · have N : Hid (bareZ (zs.drop (k + 1)) = bareZ zs) := by
          rw [← HB.out, BD.out, if_pos hz]
          exact Lib.hid rfl
        rw [hz] at c0
        clear BD HB hz z0
        go_wp2_with fail
        go_roundw
        case rel => exact ⟨k + 1, by omega, by go_num, trivial, N.out⟩
        case measure => simp [intOf]; omega
      · have F : Hid (bareZ zs = zs.drop k) := by
          rw [← HB.out, BD.out, if_neg hz]
          exact Lib.hid rfl
        have t0 : (zs[k]?.getD 0 == 0) = false := by simpa using hz
        generalize zs[k]?.getD 0 = x at c0 z0 t0
        have hck : ¬ ca = k := by omega
        have RW := Lib.hid (R0.out.rest k ca hk hnc)
        rw [if_neg hck, Option.map_some, Addr.add_lit] at RW
        have RX := Lib.hid (RW.out.below ((Below.refl wr.heap.size wr).alloc (Nat.le_refl _) (.cells #[] 5)))
        clear BD HB hz RW
        go_wp2_with (at_builtin; go_must (refine out_append (W0 := wr) (L := []) (zs := zs.drop k) rfl _ _ rfl rfl (out_zero wr) rfl RX.out (fun e => by cases e) (by simp; omega) ?_; intro V1 w1 ho1; rw [List.nil_append] at ho1; have HO := Lib.hid ho1; clear ho1))
        go_ret
        exact ⟨V1, rfl, by rw [F.out]; exact HO.out⟩
    · obtain rfl : k = n := by omega
      have F : Hid (bareZ zs = []) := by
        rw [← HB.out, List.drop_of_length_le (by rw [HL.out]; exact Nat.le_refl _)]
        exact Lib.hid rfl
      have RX := Lib.hid (Row.nil (wr.alloc (.cells #[] 5)))
      by_cases hck : ca = k
      · clear HB
        subst hck
        go_wp2_with (at_builtin; go_must (refine out_append (W0 := wr) (L := []) (zs := []) rfl _ _ rfl rfl (out_zero wr) rfl (RX.out _) (fun _ => by first | rfl | omega) (by simp) ?_; intro V1 w1 ho1; rw [List.nil_append] at ho1; have HO := Lib.hid ho1; clear ho1))
        go_ret
        exact ⟨V1, rfl, by rw [F.out]; exact HO.out⟩
      · clear HB
        have NA : Hid (Option.map (fun x => x.add k) a = none → ca - k = 0) := fun e => by
          have : a = none := by
            cases a with
            | none => rfl
            | some x => cases e
          rw [NI.out this]
          omega
        go_wp2_with (at_builtin; go_must (refine out_append (W0 := wr) (L := []) (zs := []) rfl _ _ rfl rfl (out_zero wr) rfl (RX.out _) NA.out (by simp) ?_; intro V1 w1 ho1; rw [List.nil_append] at ho1; have HO := Lib.hid ho1; clear ho1))
        go_ret
        exact ⟨V1, rfl, by rw [F.out]; exact HO.out⟩
end Go.Proofs.YtlmndmfebgaidaaGreatDoor
