/-
  Merged texts: Math, AdP, Out, Ord, Row, Open, Blk, AdA, AdB, AdC, Fork, AeA, AdQ.
-/
import Derived.WalkKit
import Derived.WalkSpells
import Derived.Deep.Draws
import Derived.Laws.BytesArg
import Derived.Deep.QuietTactic
import Derived.Test.YtlmndmfebgaidaaGreatDoorRows
import Derived.WalkLawsBesides
import Derived.Lib.Hide
import Derived.Laws.AppendOwn
import Derived.Laws.OwnMore
import Derived.OwnWalk
import Derived.Laws.MakeOwn
import Derived.Laws.AppendOwnNone
import Derived.OrdersHeld
import Derived.KernelRfl
import Derived.OpenShut
import Derived.ProofKit
import Derived.BigQuiet
import Derived.Great.Walk
import Derived.Laws.CopyOwn
import Derived.Laws.ResultCell
import Derived.Deep.MidRow
namespace Go.Proofs.YtlmndmfebgaidaaGreatDoor
open Go.RowKit
def Row (w : World) (a : Option Addr) (n : Nat) (zs : List Int) : Prop :=
  zs.length = n ∧ (∀ x ∈ zs, 0 ≤ x ∧ x ≤ 255) ∧
  (0 < n → ∃ b off, a = some ⟨b, off, none⟩ ∧ b < w.heap.size ∧ ∀ i, i < n → w.cell? ⟨b, off + i, none⟩ = some (.int .u8 (zs[i]?.getD 0)))
theorem Row.below {w w' : World} {a : Option Addr} {n : Nat} {zs : List Int} (h : Row w a n zs) (hb : Below w.heap.size w w') : Row w' a n zs := by
  refine ⟨h.1, h.2.1, fun hn => ?_⟩
  obtain ⟨b, off, e, hlt, hc⟩ := h.2.2 hn
  exact ⟨b, off, e, Nat.lt_of_lt_of_le hlt hb.size, fun i hi => (hb.cell (p := ⟨b, off + i, none⟩) hlt).trans (hc i hi)⟩
theorem Row.drewN {w : World} {a : Option Addr} {n : Nat} {zs : List Int} (h : Row w a n zs) (k : Nat) : Row (w.drewN k) a n zs := h
theorem Row.nil (w : World) (a : Option Addr) : Row w a 0 [] := ⟨rfl, by simp, fun h => absurd h (by omega)⟩
theorem Row.byte {w : World} {a : Option Addr} {n : Nat} {zs : List Int} (h : Row w a n zs) (k : Nat) : 0 ≤ zs[k]?.getD 0 ∧ zs[k]?.getD 0 ≤ 255 := by
  rcases Nat.lt_or_ge k zs.length with hk | hk
  · rw [List.getElem?_eq_getElem hk]
    exact h.2.1 _ (List.getElem_mem hk)
  · rw [List.getElem?_eq_none hk]
    simp
theorem Row.conv {P : Program} {w : World} {a : Option Addr} {n cap : Nat} {zs : List Int} (h : Row w a n zs) (src dst e : TypeId)
    (hs : P.underlying src = some (.slice e)) (he : P.underlying e = some (.int .u8)) (hd : P.underlying dst = some .string) :
    (convert src dst (.slice a n cap)).run P w = .ok (.string (strOfNums zs)) w := by
  rcases Nat.eq_zero_or_pos n with hn | hn
  · subst hn
    have hz : zs = [] := List.eq_nil_of_length_eq_zero h.1
    subst hz
    cases a with
    | none => exact run_convert_bytes_nil w src e hs he 0 cap dst hd
    | some ad =>
      have hl : (loadCells ad 0).run P w = .ok (([] : List Int).map (Value.int .u8)).toArray w := by
        have := run_loadCells_list (P := P) w ad [] (fun j v hj => by simp at hj)
        simpa using this
      rw [run_convert_bytes_string w src dst e _ 0 cap hs he hd, run_bytesToString w _ 0 cap [] hl]
      rfl
  · obtain ⟨b, off, rfl, _, hc⟩ := h.2.2 hn
    exact run_convert_bytes_arg w src e hs he b off n cap zs h.1 (fun i hi => by rw [hc i hi, List.getD_eq_getElem?_getD]) dst hd
theorem Row.of_own {w : World} {base g n cap : Nat} {zs : List Int} (h : w.ownsRow base 5 1 (.slice (some ⟨g, 0, none⟩) n cap) n (zs.map (Value.int .u8))) (hz : ∀ x ∈ zs, 0 ≤ x ∧ x ≤ 255) :
    Row w (some ⟨g, 0, none⟩) n zs := by
  have hl : zs.length = n := by have := h.1; simpa using this
  refine ⟨hl, hz, fun hn => ⟨g, 0, rfl, ?_, fun i hi => ?_⟩⟩
  · exact (h.lt g rfl).2
  · rw [Nat.zero_add, h.cellAt i (by omega)]
    simp [show i < zs.length by omega]
theorem calm_call {P : Program} {f : FuncId} {args : Array Value} {w : World} {p q : Nat} {r : Value} (h : ∀ W : World, Calls P f args W fun e W' => e = .returned r ∧ W' = W) :
    Calls P f args (w.drewN (p + q)) fun e W' => e = .returned r ∧ ∃ m, W' = w.drewN (p + m) :=
  (h _).mono fun _ _ hh => ⟨hh.1, q, hh.2⟩
theorem same_int {k : IntKind} {x y : Int} (e : x = y) : Ending.returned (Value.int k x) = Ending.returned (Value.int k y) := e ▸ rfl
def cmpZ : List Int → List Int → Int
  | [], [] => 0
  | [], _ :: _ => -1
  | _ :: _, [] => 1
  | x :: xs, y :: ys => if x < y then -1 else if y < x then 1 else cmpZ xs ys
theorem cmpZ_nil_left (ys : List Int) : cmpZ [] ys = if (0 : Int) < ys.length then -1 else 0 := by
  cases ys with
  | nil => simp [cmpZ]
  | cons y ys => simp [cmpZ]
theorem cmpZ_nil_right (xs : List Int) : cmpZ xs [] = if (0 : Int) < xs.length then 1 else 0 := by
  cases xs with
  | nil => simp [cmpZ]
  | cons y ys => simp [cmpZ]
theorem cmpZ_drop {xs ys : List Int} {k : Nat} (h1 : k < xs.length) (h2 : k < ys.length) :
    cmpZ (xs.drop k) (ys.drop k) = if xs[k]?.getD 0 < ys[k]?.getD 0 then -1 else if ys[k]?.getD 0 < xs[k]?.getD 0 then 1 else cmpZ (xs.drop (k + 1)) (ys.drop (k + 1)) := by
  rw [List.drop_eq_getElem_cons h1, List.drop_eq_getElem_cons h2, cmpZ]
  simp [List.getElem?_eq_getElem h1, List.getElem?_eq_getElem h2]
theorem cmpZ_end {xs ys : List Int} {k : Nat} (h1 : k ≤ xs.length) (h2 : k ≤ ys.length) (h : k = xs.length ∨ k = ys.length) :
    cmpZ (xs.drop k) (ys.drop k) = if (xs.length : Int) < ys.length then -1 else if (ys.length : Int) < xs.length then 1 else 0 := by
  rcases h with h | h
  · rw [List.drop_of_length_le (Nat.le_of_eq h.symm), cmpZ_nil_left, List.length_drop]
    by_cases c : (xs.length : Int) < ys.length
    · rw [if_pos c, if_pos (by omega)]
    · rw [if_neg c, if_neg (by omega), if_neg (by omega)]
  · rw [List.drop_of_length_le (Nat.le_of_eq h.symm), cmpZ_nil_right, List.length_drop]
    by_cases c : (ys.length : Int) < xs.length
    · rw [if_pos (show (0 : Int) < ((xs.length - k : Nat) : Int) by omega), if_neg (show ¬ (xs.length : Int) < ys.length by omega), if_pos c]
    · rw [if_neg (show ¬ (0 : Int) < ((xs.length - k : Nat) : Int) by omega), if_neg (show ¬ (xs.length : Int) < ys.length by omega), if_neg c]
end Go.Proofs.YtlmndmfebgaidaaGreatDoor
namespace Go.Proofs.YtlmndmfebgaidaaGreatDoor
open Go.RowKit
set_option linter.unusedVariables false
def Sixteen (A : List Int) : Prop := A.length = 16 ∧ ∀ x ∈ A, 0 ≤ x ∧ x ≤ 255
def aN (l : List Int) : Nat := l.foldl (fun v x => v * 256 + x.toNat) 0
theorem aN_fold (l : List Int) : ∀ v : Nat, l.foldl (fun v x => v * 256 + x.toNat) v = v * 256 ^ l.length + aN l := by
  induction l with
  | nil => intro v; simp [aN]
  | cons y ys ih =>
    intro v
    have e : aN (y :: ys) = y.toNat * 256 ^ ys.length + aN ys := by
      show (y :: ys).foldl (fun v x => v * 256 + x.toNat) 0 = _
      rw [List.foldl_cons, ih, Nat.zero_mul, Nat.zero_add]
    rw [List.foldl_cons, ih, e, List.length_cons, Nat.pow_succ, Nat.add_mul, Nat.mul_assoc, Nat.mul_comm 256, Nat.add_assoc]
theorem aN_cons (x : Int) (l : List Int) : aN (x :: l) = x.toNat * 256 ^ l.length + aN l := by
  show (x :: l).foldl (fun v x => v * 256 + x.toNat) 0 = _
  rw [List.foldl_cons, aN_fold, Nat.zero_mul, Nat.zero_add]
theorem aN_lt {l : List Int} (h : ∀ x ∈ l, 0 ≤ x ∧ x ≤ 255) : aN l < 256 ^ l.length := by
  induction l with
  | nil => decide
  | cons x xs ih =>
    have hx := h x (by simp)
    have := ih (fun y hy => h y (by simp [hy]))
    rw [aN_cons, List.length_cons, Nat.pow_succ]
    have h2 : x.toNat * 256 ^ xs.length ≤ 255 * 256 ^ xs.length := Nat.mul_le_mul_right _ (by omega)
    omega
theorem aN_at {l : List Int} (h : ∀ x ∈ l, 0 ≤ x ∧ x ≤ 255) : ∀ q, q < l.length → ((aN l / 256 ^ (l.length - 1 - q) % 256 : Nat) : Int) = l[q]?.getD 0 := by
  induction l with
  | nil => intro q hq; simp at hq
  | cons x xs ih =>
    intro q hq
    have hx := h x (by simp)
    have hb : ∀ y ∈ xs, 0 ≤ y ∧ y ≤ 255 := fun y hy => h y (by simp [hy])
    have hl := aN_lt hb
    have pp : 0 < 256 ^ xs.length := Nat.pow_pos (by decide)
    rw [aN_cons, List.length_cons, Nat.add_sub_cancel]
    cases q with
    | zero =>
      rw [Nat.sub_zero, Nat.mul_comm, Nat.mul_add_div pp, Nat.div_eq_of_lt hl]
      simp only [List.getElem?_cons_zero, Option.getD_some]
      omega
    | succ q =>
      have hq' : q < xs.length := by simpa using hq
      have e : 256 ^ xs.length = 256 ^ (xs.length - (q + 1)) * (256 * 256 ^ q) := by
        rw [← Nat.pow_succ', ← Nat.pow_add]
        congr 1
        omega
      have p2 : 0 < 256 ^ (xs.length - (q + 1)) := Nat.pow_pos (by decide)
      have i := ih hb q hq'
      rw [List.getElem?_cons_succ, ← i, show xs.length - 1 - q = xs.length - (q + 1) by omega]
      have e2 : x.toNat * 256 ^ xs.length = 256 ^ (xs.length - (q + 1)) * (256 * (256 ^ q * x.toNat)) := by
        rw [e, Nat.mul_comm x.toNat, Nat.mul_assoc, Nat.mul_assoc]
      rw [e2, Nat.mul_add_div p2, Nat.mul_add_mod]
theorem aN_inj : ∀ {l m : List Int}, (∀ x ∈ l, 0 ≤ x ∧ x ≤ 255) → (∀ x ∈ m, 0 ≤ x ∧ x ≤ 255) → l.length = m.length → aN l = aN m → l = m
  | [], [], _, _, _, _ => rfl
  | [], _ :: _, _, _, h, _ => by simp at h
  | _ :: _, [], _, _, h, _ => by simp at h
  | x :: xs, y :: ys, hl, hm, h, e => by
    have hx := hl x (by simp)
    have hy := hm y (by simp)
    have h1 : ∀ z ∈ xs, 0 ≤ z ∧ z ≤ 255 := fun z hz => hl z (by simp [hz])
    have h2 : ∀ z ∈ ys, 0 ≤ z ∧ z ≤ 255 := fun z hz => hm z (by simp [hz])
    have hlen : xs.length = ys.length := by simpa using h
    have l1 := aN_lt h1
    have l2 := aN_lt h2
    rw [aN_cons, aN_cons, ← hlen] at e
    rw [← hlen] at l2
    have pp : 0 < 256 ^ xs.length := Nat.pow_pos (by decide)
    have d1 : (x.toNat * 256 ^ xs.length + aN xs) / 256 ^ xs.length = x.toNat := by rw [Nat.mul_comm, Nat.mul_add_div pp, Nat.div_eq_of_lt l1, Nat.add_zero]
    have d2 : (y.toNat * 256 ^ xs.length + aN ys) / 256 ^ xs.length = y.toNat := by rw [Nat.mul_comm, Nat.mul_add_div pp, Nat.div_eq_of_lt l2, Nat.add_zero]
    have ex : x.toNat = y.toNat := by rw [← d1, ← d2, e]
    have exy : x = y := by omega
    rw [exy] at e
    rw [exy, aN_inj h1 h2 hlen (by omega)]
theorem aN_set {l : List Int} {q : Nat} {v : Int} (hq : q < l.length) (h0 : 0 ≤ v) (h1 : 0 ≤ l[q]?.getD 0) : aN (l.set q v) + (l[q]?.getD 0).toNat * 256 ^ (l.length - 1 - q) = aN l + v.toNat * 256 ^ (l.length - 1 - q) := by
  induction l generalizing q with
  | nil => simp at hq
  | cons x xs ih =>
    cases q with
    | zero =>
      simp only [List.set_cons_zero, aN_cons, List.getElem?_cons_zero, Option.getD_some, List.length_cons, Nat.add_sub_cancel, Nat.sub_zero]
      omega
    | succ q =>
      have hq' : q < xs.length := by simpa using hq
      have i := ih hq' (by simpa using h1)
      simp only [List.set_cons_succ, aN_cons, List.getElem?_cons_succ, List.length_cons, Nat.add_sub_cancel, List.length_set]
      rw [show xs.length - (q + 1) = xs.length - 1 - q by omega]
      omega
theorem aN_lt16 {A : List Int} (h : Sixteen A) : aN A < 2 ^ 128 := by
  have := aN_lt h.2
  rw [h.1] at this
  exact this
def mostZ (v : Bool) : Int := if v then 128 else 32
def rightA (v : Bool) (A : List Int) (L : Int) : Bool := decide (0 ≤ L) && decide (L ≤ mostZ v) && decide (aN A % 2 ^ (128 - L.toNat) = 0)
theorem right_is (v : Bool) (A : List Int) (L : Int) : rightA v A L = true ↔ 0 ≤ L ∧ L ≤ mostZ v ∧ aN A % 2 ^ (128 - L.toNat) = 0 := by
  simp [rightA, and_assoc]
theorem most_le (v : Bool) : mostZ v ≤ 128 ∧ 32 ≤ mostZ v := by unfold mostZ; cases v <;> simp
def cmpA (v : Bool) (A : List Int) (L : Int) (u : Bool) (B : List Int) (M : Int) : Int :=
  if v ≠ u then (if u then -1 else 1) else if aN A < aN B then -1 else if aN B < aN A then 1 else if L < M then -1 else if M < L then 1 else 0
def cutL (v : Bool) (L : Int) : Int := min (max L 0) (mostZ v)
def by16 (n : Nat) : List Int := (List.range 16).map fun q => ((n / 256 ^ (15 - q) % 256 : Nat) : Int)
def cutA (v : Bool) (A : List Int) (L : Int) : List Int := by16 (aN A / 2 ^ (128 - (cutL v L).toNat) * 2 ^ (128 - (cutL v L).toNat))
theorem by16_ok (n : Nat) : Sixteen (by16 n) := by
  refine ⟨by simp [by16], fun x hx => ?_⟩
  obtain ⟨q, _, rfl⟩ := List.mem_map.1 hx
  omega
theorem by16_aN {A : List Int} (h : Sixteen A) : by16 (aN A) = A := by
  apply List.ext_getElem?
  intro q
  rcases Nat.lt_or_ge q 16 with hq | hq
  · have e := aN_at h.2 q (by rw [h.1]; exact hq)
    rw [h.1] at e
    unfold by16
    rw [List.getElem?_map, List.getElem?_range hq, List.getElem?_eq_getElem (by rw [h.1]; exact hq)]
    rw [List.getElem?_eq_getElem (by rw [h.1]; exact hq)] at e
    simpa using e
  · rw [List.getElem?_eq_none (by simp [by16]; omega), List.getElem?_eq_none (by rw [h.1]; exact hq)]
theorem aN_by16 {n : Nat} (h : n < 2 ^ 128) : aN (by16 n) = n := by
  have d : ∀ k m : Nat, m < 256 ^ k → aN ((List.range k).map fun q => ((m / 256 ^ (k - 1 - q) % 256 : Nat) : Int)) = m := by
    intro k
    induction k with
    | zero => intro m hm; simp at hm; subst hm; rfl
    | succ k ih =>
      intro m hm
      rw [List.range_succ_eq_map, List.map_cons, List.map_map, aN_cons]
      have hmap : (List.range k).map ((fun q => ((m / 256 ^ (k + 1 - 1 - q) % 256 : Nat) : Int)) ∘ Nat.succ) = (List.range k).map fun q => (((m % 256 ^ k) / 256 ^ (k - 1 - q) % 256 : Nat) : Int) := by
        apply List.map_congr_left
        intro q hq
        have hq' : q < k := List.mem_range.1 hq
        simp only [Function.comp]
        congr 1
        rw [show k + 1 - 1 - Nat.succ q = k - 1 - q by omega]
        have es : 256 ^ k = 256 ^ (k - 1 - q) * (256 * 256 ^ q) := by
          rw [← Nat.pow_succ', ← Nat.pow_add]
          congr 1
          omega
        rw [es, Nat.mod_mul_right_div_self, Nat.mod_mul_right_mod]
      rw [hmap, ih (m % 256 ^ k) (Nat.mod_lt _ (Nat.pow_pos (by decide)))]
      simp only [List.length_map, List.length_range, Nat.add_sub_cancel, Nat.sub_zero]
      have hd : m / 256 ^ k < 256 := by
        rw [Nat.div_lt_iff_lt_mul (Nat.pow_pos (by decide)), ← Nat.pow_succ']
        exact hm
      rw [Nat.mod_eq_of_lt hd, Int.toNat_natCast, Nat.mul_comm]
      exact Nat.div_add_mod m (256 ^ k)
  exact d 16 n h
end Go.Proofs.YtlmndmfebgaidaaGreatDoor
namespace Go.Proofs.YtlmndmfebgaidaaGreatDoor
open Go.RowKit
theorem Tryz.infoByte : (Tryz.prog.info? 5).map (fun i => (i.zero, i.size, i.bytes)) = some (some (.int .u8 0), 1, 1) := by kernel_rfl
def Out (W0 wr : World) (V : Value) (L : List Int) : Prop := wr.ownsRow W0.heap.size 5 1 V L.length (L.map (Value.int .u8)) ∧ Below W0.heap.size W0 wr
theorem Out.below {W0 wr w' : World} {V : Value} {L : List Int} (h : Out W0 wr V L) (hb : Below wr.heap.size wr w') : Out W0 w' V L := by
  refine ⟨⟨h.1.1, ?_⟩, h.2.trans (hb.mono h.2.size)⟩
  rcases h.1.2 with h' | ⟨g, cap, cur, e, h1, h2, h3⟩
  · exact .inl h'
  · exact .inr ⟨g, cap, cur, e, h1, (hb.block g (Array.getElem?_eq_some_iff.1 h2).1).trans h2, h3⟩
theorem Out.row {W0 wr : World} {V : Value} {L : List Int} (h : Out W0 wr V L) (hL : ∀ x ∈ L, 0 ≤ x ∧ x ≤ 255) : ∃ a c, V = .slice a L.length c ∧ Row wr a L.length L := by
  rcases h.1.2 with ⟨rfl, h0⟩ | ⟨g, cap, cur, rfl, _⟩
  · have : L = [] := List.eq_nil_of_length_eq_zero h0
    subst this
    exact ⟨none, 0, rfl, Row.nil _ _⟩
  · exact ⟨_, cap, rfl, Row.of_own h.1 hL⟩
theorem Out.made {W0 : World} (c : Nat) (hc : c ≤ 1000000) : Out W0 (W0.alloc (.cells (madeCells #[.int .u8 0] c) 5)) (.slice (some ⟨W0.heap.size, 0, none⟩) 0 c) [] :=
  ⟨World.ownsRow_made W0 _ c (Nat.le_refl _) (by unfold maxLen; omega) (by rw [size_madeCells]; simp), (Below.refl _ _).alloc (Nat.le_refl _) _⟩
theorem Row.first {w : World} {a : Option Addr} {n : Nat} {zs : List Int} (h : Row w a n zs) (k : Nat) (hk : k ≤ n) : Row w a k (zs.take k) := by
  have hl := h.1
  refine ⟨by rw [List.length_take]; omega, fun x hx => h.2.1 x (List.mem_of_mem_take hx), fun h0 => ?_⟩
  obtain ⟨b, off, e, hb, hc⟩ := h.2.2 (by omega)
  exact ⟨b, off, e, hb, fun i hi => by rw [hc i (by omega), List.getElem?_take, if_pos hi]⟩
theorem Row.cells {w : World} {ad : Addr} {n : Nat} {zs : List Int} (h : Row w (some ad) n zs) : ∀ j u, (zs.map (Value.int .u8))[j]? = some u → w.cell? (ad.add j) = some u := by
  intro j u hu
  rw [List.getElem?_map] at hu
  rcases Nat.lt_or_ge j zs.length with hl | hl
  · have hn := h.1
    obtain ⟨b, off, e, _, hc⟩ := h.2.2 (by omega)
    injection e with e
    subst e
    rw [Addr.add_lit, hc j (by omega)]
    rw [List.getElem?_eq_getElem hl] at hu ⊢
    simpa using hu
  · rw [List.getElem?_eq_none hl] at hu
    cases hu
theorem out_append {ops : Array Oper} {rest : List Oper} {o : Oper} {a : Act} {Q : Exit → Act → World → Prop} {W0 w : World} {V : Value} {L zs : List Int} {A : Option Addr} {m c : Nat} (hgd : o.guard = none) (s x : Operand)
    (hop : o.op = .call { callee := .builtin .append, args := #[s, x], argTypes := #[26, 26] }) (hs : a.eval s = V) (hout : Out W0 w V L) (hx : a.eval x = .slice A m c) (hr : Row w A m zs) (hnil : A = none → c = 0) (hl : L.length + m ≤ 1000000)
    (h : ∀ V' w', Out W0 w' V' (L ++ zs) → wpList Tryz.prog ops Q rest (a.put o.dst V') w') : wpList Tryz.prog ops Q (o :: rest) a w := by
  obtain ⟨i0, hi5, hz0, hz1, hz2⟩ := info_parts Tryz.infoByte
  cases A with
  | none =>
    obtain rfl := hnil rfl
    have hm : m = 0 := by
      rcases Nat.eq_zero_or_pos m with h0 | h0
      · exact h0
      · obtain ⟨_, _, e, _⟩ := hr.2.2 h0
        cases e
    subst hm
    obtain rfl : zs = [] := List.eq_nil_of_length_eq_zero hr.1
    refine wpList_append_own_none hgd s x 26 hop W0.heap.size 5 i0 1 Tryz.underlying26 hi5 V L.length _ hs hout.1 hx ?_
    have := h V w (by simpa using hout)
    exact this
  | some ad =>
    refine wpList_append_own _ hgd s x 26 hop W0.heap.size 5 i0 (.int .u8 0) 1 1 Tryz.underlying26 hi5 hz0 hz1 hz2 rfl (by decide) V L.length (L.map (Value.int .u8)) hs hout.1 ad m c (zs.map (Value.int .u8)) hx (by rw [List.length_map, hr.1, Nat.mul_one]) hr.cells ?_ (by unfold maxLen; omega) (by omega) hout.2.size ?_
    · intro u hu
      obtain ⟨_, _, rfl⟩ := List.mem_map.1 hu
      rfl
    · intro V' w' hown hg _
      refine h V' w' ⟨?_, hout.2.grown hg hout.2.size (fun k hk => (hout.1.lt k hk).1)⟩
      rw [List.length_append, hr.1, List.map_append]
      exact hown
theorem Out.alloc {W0 wr : World} {V : Value} {L : List Int} (h : Out W0 wr V L) (o : Obj) : Out W0 (wr.alloc o) V L := h.below ((Below.refl _ _).alloc (Nat.le_refl _) o)
theorem Out.nilc {W0 wr : World} {a : Option Addr} {n c : Nat} {L : List Int} (h : Out W0 wr (.slice a n c) L) : a = none → c = 0 := by
  intro e
  subst e
  rcases h.1.2 with ⟨e, _⟩ | ⟨g, cap, cur, e, _⟩
  · injection e
  · cases e
theorem out_one (w : World) (z : Int) : Out w (w.alloc (.cells #[.int .u8 z] 5)) (.slice (some ⟨w.heap.size, 0, none⟩) 1 1) [z] :=
  ⟨⟨rfl, .inr ⟨w.heap.size, 1, #[.int .u8 z], rfl, Nat.le_refl _, heap_alloc_new w _, Nat.le_refl _, by unfold maxLen; omega, rfl, rfl⟩⟩, (Below.refl _ _).alloc (Nat.le_refl _) _⟩
theorem Out.form {W0 wr : World} {V : Value} {L : List Int} (h : Out W0 wr V L) (h0 : 0 < L.length) : ∃ g cap, V = .slice (some ⟨g, 0, none⟩) L.length cap ∧ W0.heap.size ≤ g := by
  rcases h.1.2 with ⟨_, e⟩ | ⟨g, cap, cur, e, hb, _⟩
  · omega
  · exact ⟨g, cap, e, hb⟩
theorem Out.cell {W0 wr : World} {g cap n : Nat} {L : List Int} (h : Out W0 wr (.slice (some ⟨g, 0, none⟩) n cap) L) (j : Nat) (hj : j < L.length) : wr.cell? ⟨g, j, none⟩ = some (.int .u8 (L[j]?.getD 0)) ∧ wr.frozen? ⟨g, j, none⟩ = false := by
  have hn : n = L.length := by
    rcases h.1.2 with ⟨e, _⟩ | ⟨g, cap, cur, e, hb, _⟩
    · cases e
    · injection e
  subst hn
  refine ⟨?_, h.1.frozenAt j⟩
  rw [h.1.cellAt j (by omega), List.getElem?_map, List.getElem?_eq_getElem hj]
  rfl
theorem Out.set {W0 wr : World} {g cap n : Nat} {L : List Int} (h : Out W0 wr (.slice (some ⟨g, 0, none⟩) n cap) L) (hg : W0.heap.size ≤ g) (j : Nat) (x : Int) : Out W0 (wr.setCell ⟨g, j, none⟩ (.int .u8 x)) (.slice (some ⟨g, 0, none⟩) n cap) (L.set j x) := by
  have hn : n = L.length := by
    rcases h.1.2 with ⟨e, _⟩ | ⟨g, cap, cur, e, hb, _⟩
    · cases e
    · injection e
  subst hn
  refine ⟨?_, h.2.setCell hg _⟩
  have := (h.1.stored j (.int .u8 x)).1
  rw [List.length_set, List.map_set]
  exact this
theorem own_cap {w : World} {base n cap m : Nat} {a : Option Addr} {vs : List Value} (h : w.ownsRow base 5 1 (.slice a n cap) m vs) : n ≤ cap := by
  rcases h.2 with ⟨e, _⟩ | ⟨g, cap', cur, e, h1, h2, h3⟩
  · injection e with _ e1 e2
    omega
  · injection e with e0 e1 e2
    omega
theorem Out.drewN {W0 wr : World} {V : Value} {L : List Int} (h : Out W0 wr V L) (q : Nat) : Out W0 (wr.drewN q) V L := ⟨h.1, { h.2 with }⟩
theorem row_const (w : World) (zs : List Int) (fr : Nat × Nat) (hz : ∀ x ∈ zs, 0 ≤ x ∧ x ≤ 255) : Row (w.alloc (.cells (zs.map (Value.int .u8)).toArray 5 fr)) (some ⟨w.heap.size, 0, none⟩) zs.length zs := by
  refine ⟨rfl, hz, fun _ => ⟨w.heap.size, 0, rfl, by simp, fun i hi => ?_⟩⟩
  have e := heap_alloc_new w (.cells (zs.map (Value.int .u8)).toArray 5 fr)
  simp only [World.cell?, e]
  simp [hi]
theorem conv_at {w : World} {a : Option Addr} {n : Nat} {zs : List Int} (cap : Nat) (h : Row w a n zs) : (convert 26 9 (.slice a n cap)).run Tryz.prog w = .ok (.string (strOfNums zs)) w :=
  h.conv 26 9 5 Tryz.underlying26 Tryz.underlying5 Tryz.underlying9
def numsOf (s : ByteArray) : List Int := s.data.toList.map fun c => (c.toNat : Int)
theorem nums_str (xs : List Int) (h : ∀ x ∈ xs, 0 ≤ x ∧ x ≤ 255) : numsOf (strOfNums xs) = xs := by
  unfold numsOf
  rw [strOfNums_data, List.map_map]
  conv => rhs; rw [← List.map_id xs]
  refine List.map_congr_left fun x hx => ?_
  have hb := h x hx
  simp only [Function.comp, id]
  rw [UInt8.toNat_ofNat', Nat.mod_eq_of_lt (by omega)]
  omega
theorem bytes_ext {a b : ByteArray} (h : a.toList = b.toList) : a = b := by
  rw [ByteArray.toList_eq, ByteArray.toList_eq] at h
  exact ByteArray.ext (Array.ext' h)
end Go.Proofs.YtlmndmfebgaidaaGreatDoor
namespace Go.Proofs.YtlmndmfebgaidaaGreatDoor
open Go.RowKit
section
variable {P : Program} {ops : Array Oper} {Q : Exit → Act → World → Prop} {R : World → World → Prop}
def Ext (w W : World) : Prop := Below w.heap.size w W
theorem Ext.refl (w : World) : Ext w w := Below.refl _ _
theorem Ext.trans {a b c : World} (h : Ext a b) (k : Ext b c) : Ext a c := Below.trans h (Below.mono k h.size)
theorem Ext.of_drew {w W : World} (h : Ext w.drew W) : Ext w W := ⟨h.os, h.tape, h.output, h.size, h.block⟩
theorem Ext.drew {w W : World} (h : Ext w W) : Ext w W.drew := ⟨h.os, h.tape, h.output, h.size, h.block⟩
theorem held_mono {S S' : World → Prop} (hs : ∀ W, S' W → S W) : ∀ (fuel : Nat) (listed : Array Bool) (a : Act) (w : World),
    wpAnyH P .any ops Q S' fuel listed a w → wpAnyH P .any ops Q S fuel listed a w
  | 0, _, _, _, h => h
  | fuel + 1, _, _, _, h => ⟨h.1, fun i hi => wpOp_mono (fun _ _ h' => ⟨hs _ h'.1, held_mono hs fuel _ _ _ h'.2⟩) (h.2 i hi)⟩
def wpOrd (P : Program) (l : List Oper) (R : World → World → Prop) (Q : Exit → Act → World → Prop) : List (Nat × Bool) → Act → World → Prop
  | [], a, w => Q .normal a w
  | (i, sole) :: rest, a, w => ∃ o, l[i]? = some o ∧
    ((Region.wanted o (yielded l.toArray a.tmps) = false ∧ wpOrd P l R Q rest (a.put o.dst undef) w) ∨
     (Region.wanted o (yielded l.toArray a.tmps) = true ∧
       if sole then o.wp P a w (fun a' w' => R w w' ∧ wpOrd P l R Q rest a' w') Q
       else ∃ v, (∀ W, R w W → (execOp a.eval o).run P W = .ok (.value v) W) ∧ wpOrd P l R Q rest (a.put o.dst v) w))
def ordB (l : List Oper) : List (Nat × Bool) → Array Bool → Bool
  | [], listed => (Region.ready .any l.toArray listed).isEmpty
  | (i, sole) :: rest, listed =>
    (if sole then Region.ready .any l.toArray listed == [i] else (Region.ready .any l.toArray listed).contains i && Region.free .any l.toArray listed i) && ordB l rest (listed.setIfInBounds i true)
theorem held_of_ord {l : List Oper} (hrefl : ∀ w, R w w) (htrans : ∀ a b c, R a b → R b c → R a c) (hs : Region.noSelect l.toArray = true) (hQ : ∀ d v c a w, Q (.panic c) (a.put d v) w → Q (.panic c) a w) :
    ∀ (order : List (Nat × Bool)) (listed : Array Bool) (a : Act) (w : World), ordB l order listed = true → wpOrd P l R Q order a w → wpAnyH P .any l.toArray Q (R w) order.length listed a w
  | [], listed, a, w, hB, h => by
    have : Region.ready .any l.toArray listed = [] := by simpa [ordB] using hB
    exact wpAnyH_done this h _
  | (i, sole) :: rest, listed, a, w, hB, h => by
    obtain ⟨o, ho, h⟩ := h
    have hi : l.toArray[i]? = some o := by simpa using ho
    rw [ordB, Bool.and_eq_true] at hB
    obtain ⟨h1, hB'⟩ := hB
    cases sole with
    | false =>
      rw [if_neg (by simp), Bool.and_eq_true] at h1
      rcases h with ⟨hw, h⟩ | ⟨hw, h⟩
      · exact wpAnyH_take hi hs h1.2 h1.1 (hQ _ _) (.inr ⟨hw, rfl⟩) (hrefl w) (held_of_ord hrefl htrans hs hQ rest _ _ _ hB' h)
      · rw [if_neg (by simp)] at h
        obtain ⟨v, hv, h⟩ := h
        exact wpAnyH_take hi hs h1.2 h1.1 (hQ _ _) (.inl ⟨hw, hv⟩) (hrefl w) (held_of_ord hrefl htrans hs hQ rest _ _ _ hB' h)
    | true =>
      rw [if_pos rfl] at h1
      have hr : Region.ready .any l.toArray listed = [i] := by simpa using h1
      refine wpAnyH_all hr (by simp) (fun j hj => ?_)
      obtain rfl : j = i := by simpa using hj
      unfold wpOp
      simp only [hi]
      rcases h with ⟨hw, h⟩ | ⟨hw, h⟩
      · rw [if_neg (by rw [hw]; simp)]
        exact ⟨hrefl w, held_of_ord hrefl htrans hs hQ rest _ _ _ hB' h⟩
      · rw [if_pos rfl] at h
        rw [if_pos hw]
        exact .inl (Oper.wp_mono (fun a' w' h' => ⟨h'.1, held_mono (fun W hW => htrans _ _ _ h'.1 hW) _ _ _ _ (held_of_ord hrefl htrans hs hQ rest _ _ _ hB' h'.2)⟩) h)
theorem wp_region_ord {id : Nat} {a : Act} {w : World} {l : List Oper} (R : World → World → Prop) (hrefl : ∀ w, R w w) (htrans : ∀ a b c, R a b → R b c → R a c) (order : List (Nat × Bool)) (hm : P.follows .mixedOrders = true) (hs : Region.noSelect l.toArray = true) (hn : order.length = l.length)
    (hB : ordB l order (Array.replicate l.length false) = true) (hQ : ∀ d v c a w, Q (.panic c) (a.put (some d) v) w → Q (.panic c) a w) (h : wpOrd P l R Q order a w.drew) : (Code.region id l.toArray true).wp P Q a w := by
  refine wp_region_held (S := R w.drew) hm ?_
  have hQ' : ∀ d v c a w, Q (.panic c) (a.put d v) w → Q (.panic c) a w := fun d => by
    cases d with
    | none => exact fun _ _ _ _ h => h
    | some d => exact hQ d
  have := held_of_ord hrefl htrans hs hQ' order (Array.replicate l.length false) a w.drew hB h
  rw [hn] at this
  simpa using this
/- The moves of such a walk. -/
section
variable {l : List Oper} {rest : List (Nat × Bool)} {a : Act} {w : World} {i : Nat} {o : Oper}
theorem ord_skip {sole : Bool} (ho : l[i]? = some o) (hw : Region.wanted o (yielded l.toArray a.tmps) = false) (h : wpOrd P l R Q rest (a.put o.dst undef) w) : wpOrd P l R Q ((i, sole) :: rest) a w :=
  ⟨o, ho, .inl ⟨hw, h⟩⟩
theorem ord_take (v : Value) (ho : l[i]? = some o) (hw : Region.wanted o (yielded l.toArray a.tmps) = true) (hv : ∀ W, R w W → (execOp a.eval o).run P W = .ok (.value v) W)
    (h : wpOrd P l R Q rest (a.put o.dst v) w) : wpOrd P l R Q ((i, false) :: rest) a w :=
  ⟨o, ho, .inr ⟨hw, v, hv, h⟩⟩
theorem ord_sole (ho : l[i]? = some o) (hw : Region.wanted o (yielded l.toArray a.tmps) = true) (h : ∀ K : Act → World → Prop, (∀ a' w', R w w' → wpOrd P l R Q rest a' w' → K a' w') → o.wp P a w K Q) : wpOrd P l R Q ((i, true) :: rest) a w :=
  ⟨o, ho, .inr ⟨hw, h _ (fun _ _ he h => ⟨he, h⟩)⟩⟩
theorem ord_end (h : Q .normal a w) : wpOrd P l R Q [] a w := h
end
end
end Go.Proofs.YtlmndmfebgaidaaGreatDoor
namespace Go.Proofs.YtlmndmfebgaidaaGreatDoor
open Go.RowKit
theorem Row.rest {w : World} {a : Option Addr} {n : Nat} {zs : List Int} (h : Row w a n zs) (k c : Nat) (hk : k ≤ n) (hc : n ≤ c) : Row w (if c = k then a else a.map (·.add k)) (n - k) (zs.drop k) := by
  refine ⟨by rw [List.length_drop, h.1], fun x hx => h.2.1 x (List.mem_of_mem_drop hx), fun h0 => ?_⟩
  obtain ⟨b, off, e, hb, hcell⟩ := h.2.2 (by omega)
  subst e
  rw [if_neg (by omega)]
  refine ⟨b, off + k, by rw [Option.map_some, Addr.add_lit], hb, fun i hi => ?_⟩
  rw [Nat.add_assoc, hcell (k + i) (by omega), List.getElem?_drop]
theorem Row.set {w : World} {a : Option Addr} {n : Nat} {zs : List Int} (h : Row w a n zs) (g j : Nat) (v : Value) (hne : 0 < n → ∃ b off, a = some ⟨b, off, none⟩ ∧ b ≠ g) : Row (w.setCell ⟨g, j, none⟩ v) a n zs := by
  refine ⟨h.1, h.2.1, fun h0 => ?_⟩
  obtain ⟨b, off, e, hb, hcell⟩ := h.2.2 h0
  obtain ⟨b', off', e', hb'⟩ := hne h0
  rw [e] at e'
  obtain ⟨rfl, rfl⟩ : b = b' ∧ off = off' := by simpa using e'
  refine ⟨b, off, e, by simpa using hb, fun i hi => ?_⟩
  rw [← hcell i hi]
  simp only [World.cell?, heap_setCell_other w ⟨g, j, none⟩ b v hb']
end Go.Proofs.YtlmndmfebgaidaaGreatDoor
namespace Go.Proofs.YtlmndmfebgaidaaGreatDoor
open Go.RowKit
theorem cell_block {w : World} {p : Addr} {v : Value} (h : w.cell? p = some v) : p.block < w.heap.size := by
  rcases Nat.lt_or_ge p.block w.heap.size with hl | hl
  · exact hl
  · simp [World.cell?, Array.getElem?_eq_none hl] at h
theorem row_of {w : World} {a : Option Addr} {len cap : Nat} {zs : List Int}
    (h : (a = none ∧ len = 0 ∧ cap = 0 ∧ zs = []) ∨
      ∃ x, a = some x ∧ len ≤ cap ∧ cap ≤ maxLen ∧ zs.length = cap ∧ (∀ i, i < zs.length → w.cell? (x.add i) = some (.int .u8 (zs.getD i 0))) ∧ ∀ n ∈ zs, (Lit.int .u8 n).wf = true) :
    Row w a len (zs.take len) ∧ len ≤ maxLen := by
  rcases h with ⟨rfl, rfl, rfl, rfl⟩ | ⟨x, rfl, hl, hm, hz, hcell, hwz⟩
  · exact ⟨Row.nil _ _, Nat.zero_le _⟩
  · refine ⟨⟨by rw [List.length_take]; omega, fun y hy => ?_, fun hn => ?_⟩, by omega⟩
    · have := hwz y (List.mem_of_mem_take hy)
      have := bounds_u8 this
      omega
    · obtain ⟨b, off, spot⟩ := x
      have hc := hcell 0 (by omega)
      have hspot : spot = none := by simpa [Addr.add] using World.cell?_spot hc
      subst hspot
      refine ⟨b, off, rfl, by have := cell_block hc; simpa [Addr.add] using this, fun i hi => ?_⟩
      have := hcell i (by omega)
      rw [Addr.add_lit] at this
      rw [this, List.getD_eq_getElem?_getD, List.getElem?_take, if_pos hi]
end Go.Proofs.YtlmndmfebgaidaaGreatDoor
namespace Go.Proofs.YtlmndmfebgaidaaGreatDoor
open Go.RowKit
set_option linter.unusedVariables false
def Blk (w : World) (g : Nat) (t : TypeId) (cs : Array Value) : Prop := w.heap[g]? = some (.cells cs t (0, 0))
theorem Blk.lt {w : World} {g : Nat} {t : TypeId} {cs : Array Value} (h : Blk w g t cs) : g < w.heap.size := (Array.getElem?_eq_some_iff.1 h).1
theorem Blk.cell {w : World} {g : Nat} {t : TypeId} {cs : Array Value} (h : Blk w g t cs) (j : Nat) : w.cell? ⟨g, j, none⟩ = cs[j]? := by
  unfold Blk at h
  simp only [World.cell?, h]
  rfl
theorem Blk.free {w : World} {g : Nat} {t : TypeId} {cs : Array Value} (h : Blk w g t cs) (j : Nat) : w.frozen? ⟨g, j, none⟩ = false := by
  unfold Blk at h
  simp [World.frozen?, h]
theorem Blk.new (w : World) (t : TypeId) (cs : Array Value) : Blk (w.alloc (.cells cs t)) w.heap.size t cs := heap_alloc_new w _
theorem Blk.below {w w' : World} {g B : Nat} {t : TypeId} {cs : Array Value} (h : Blk w g t cs) (hb : Below B w w') (hg : g < B) : Blk w' g t cs := (hb.block g hg).trans h
theorem Blk.alloc {w : World} {g : Nat} {t : TypeId} {cs : Array Value} (h : Blk w g t cs) (o : Obj) : Blk (w.alloc o) g t cs := (Below.heap_alloc w o g h.lt).trans h
theorem Blk.set {w : World} {g : Nat} {t : TypeId} {cs : Array Value} (h : Blk w g t cs) (j : Nat) (v : Value) : Blk (w.setCell ⟨g, j, none⟩ v) g t (cs.setIfInBounds j v) := heap_setCell_same w g j cs t v h
theorem Blk.far {w : World} {g g' : Nat} {t : TypeId} {cs : Array Value} (h : Blk w g t cs) (hne : g ≠ g') (j : Nat) (v : Value) : Blk (w.setCell ⟨g', j, none⟩ v) g t cs := (heap_setCell_other w ⟨g', j, none⟩ g v hne).trans h
theorem Blk.drewN {w : World} {g : Nat} {t : TypeId} {cs : Array Value} (h : Blk w g t cs) (n : Nat) : Blk (w.drewN n) g t cs := h
theorem Below.step {w w1 w2 : World} (h : Below w.heap.size w w1) (k : Below w1.heap.size w1 w2) : Below w.heap.size w w2 := h.trans (k.mono h.size)
theorem drewN_below (w : World) (n : Nat) : Below w.heap.size w (w.drewN n) := ⟨rfl, rfl, rfl, Nat.le_refl _, fun _ _ => rfl⟩
theorem cell_later {wr : World} {b o : Nat} {v : Value} (h : wr.cell? ⟨b, o, none⟩ = some v) : ∀ W, Ext wr.drew W → W.cell? ⟨b, o, none⟩ = some v := by
  intro W hW
  have hb : b < wr.heap.size := by
    rcases Nat.lt_or_ge b wr.heap.size with h' | h'
    · exact h'
    · simp [World.cell?, Array.getElem?_eq_none h'] at h
  exact (hW.cell (p := ⟨b, o, none⟩) hb).trans h
theorem ret_bool {a b : Bool} (h : a = b) : Ending.returned (.bool a) = .returned (.bool b) := by rw [h]
theorem out_zero (w : World) : Out w (w.alloc (.cells #[] 5)) (.slice (some ⟨w.heap.size, 0, none⟩) 0 0) [] := by
  have h := Out.made (W0 := w) 0 (by omega)
  rw [show madeCells #[.int .u8 0] 0 = #[] by simp [madeCells]] at h
  exact h
theorem Out.wider {w W0 wr : World} {V : Value} {L : List Int} (h : Out W0 wr V L) (hb : Below w.heap.size w W0) : Out w wr V L := by
  refine ⟨⟨h.1.1, ?_⟩, Below.step hb h.2⟩
  rcases h.1.2 with h' | ⟨g, cap, cur, e, h1, h2⟩
  · exact .inl h'
  · exact .inr ⟨g, cap, cur, e, Nat.le_trans hb.size h1, h2⟩
theorem out_nil (w : World) : Out w w (.slice none 0 0) [] := ⟨⟨rfl, .inl ⟨rfl, rfl⟩⟩, Below.refl _ _⟩
def GivesNew (zs : List Int) (w : World) (e : Ending) (w' : World) : Prop :=
  ∃ V, e = .returned V ∧ Out w w' V zs
theorem GivesNew.row {zs : List Int} {w w' : World} {e : Ending} (h : GivesNew zs w e w') (hb : ∀ x ∈ zs, 0 ≤ x ∧ x ≤ 255) : ∃ a c, e = .returned (.slice a zs.length c) ∧ Row w' a zs.length zs ∧ (a = none → c = 0) ∧ zs.length ≤ c ∧ Below w.heap.size w w' := by
  obtain ⟨V, rfl, ho⟩ := h
  obtain ⟨a, c, rfl, hr⟩ := ho.row hb
  refine ⟨a, c, rfl, hr, ?_, own_cap ho.1, ho.2⟩
  intro e
  subst e
  rcases ho.1.2 with ⟨e, _⟩ | ⟨g, cap, cur, e, _⟩
  · injection e
  · cases e
end Go.Proofs.YtlmndmfebgaidaaGreatDoor
namespace Go.Proofs.YtlmndmfebgaidaaGreatDoor
open Go.RowKit
set_option linter.unusedVariables false
def acells (A : List Int) : List Value := A.map (Value.int .u8)
def pcells (v : Bool) (A : List Int) (L : Int) : Array Value := (Value.bool v :: (acells A ++ [.int .i64 L])).toArray
theorem acells_len {A : List Int} (h : A.length = 16) : (acells A).length = 16 := by simp [acells, h]
theorem acells_at {A : List Int} (h : A.length = 16) (q : Nat) (hq : q < 16) : (acells A)[q]? = some (.int .u8 (A[q]?.getD 0)) := by
  unfold acells
  rw [List.getElem?_map, List.getElem?_eq_getElem (by omega)]
  rfl
theorem pcells_v (v : Bool) (A : List Int) (L : Int) : (pcells v A L)[0]? = some (.bool v) := rfl
theorem pcells_a {v : Bool} {A : List Int} {L : Int} (h : A.length = 16) (q : Nat) (hq : q < 16) : (pcells v A L)[1 + q]? = some (.int .u8 (A[q]?.getD 0)) := by
  unfold pcells
  rw [List.getElem?_toArray, Nat.add_comm, List.getElem?_cons_succ, List.getElem?_append_left (by rw [acells_len h]; exact hq)]
  exact acells_at h q hq
theorem pcells_l {v : Bool} {A : List Int} {L : Int} (h : A.length = 16) : (pcells v A L)[17]? = some (.int .i64 L) := by
  unfold pcells
  rw [List.getElem?_toArray, List.getElem?_cons_succ, List.getElem?_append_right (by rw [acells_len h]; omega), acells_len h]
  rfl
theorem pcells_size {v : Bool} {A : List Int} {L : Int} (h : A.length = 16) : (pcells v A L).size = 18 := by simp [pcells, acells_len h]
theorem Tryz.sizeA {A : List Int} (h : A.length = 16) : (Tryz.prog.info? 41).map (·.size) = some (acells A).length := by
  rw [acells_len h]
  kernel_rfl
theorem Tryz.sizeP {v : Bool} {A : List Int} {L : Int} (h : A.length = 16) : (Tryz.prog.info? 43).map (·.size) = some (pcells v A L).size := by
  rw [pcells_size h]
  kernel_rfl
def PBlk (w : World) (g : Nat) (v : Bool) (A : List Int) (L : Int) : Prop := Blk w g 43 (pcells v A L)
theorem PBlk.v {w : World} {g : Nat} {v : Bool} {A : List Int} {L : Int} (h : PBlk w g v A L) : w.cell? ⟨g, 0, none⟩ = some (.bool v) := (Blk.cell h 0).trans (pcells_v v A L)
theorem PBlk.l {w : World} {g : Nat} {v : Bool} {A : List Int} {L : Int} (h : PBlk w g v A L) (hA : A.length = 16) : w.cell? ⟨g, 17, none⟩ = some (.int .i64 L) := (Blk.cell h 17).trans (pcells_l hA)
theorem PBlk.range {w : World} {g : Nat} {v : Bool} {A : List Int} {L : Int} (h : PBlk w g v A L) (hA : A.length = 16) : w.rangeAt g 1 (acells A) := by
  intro j u hj
  have hl : j < 16 := by
    have := (List.getElem?_eq_some_iff.1 hj).1
    rwa [acells_len hA] at this
  rw [Blk.cell h (1 + j), pcells_a hA j hl, ← acells_at hA j hl]
  exact hj
theorem PBlk.below {w w' : World} {g B : Nat} {v : Bool} {A : List Int} {L : Int} (h : PBlk w g v A L) (hb : Below B w w') (hg : g < B) : PBlk w' g v A L := Blk.below h hb hg
theorem PBlk.lt {w : World} {g : Nat} {v : Bool} {A : List Int} {L : Int} (h : PBlk w g v A L) : g < w.heap.size := Blk.lt h
theorem pbox (w : World) (v : Bool) (A : List Int) (L : Int) : PBlk (w.alloc (.cells (pcells v A L) 43)) w.heap.size v A L := Blk.new _ _ _
theorem box_below (w : World) (o : Obj) : Below w.heap.size w (w.alloc o) := (Below.refl _ _).alloc (Nat.le_refl _) o
end Go.Proofs.YtlmndmfebgaidaaGreatDoor
namespace Go.Proofs.YtlmndmfebgaidaaGreatDoor
open Go.RowKit
set_option linter.unusedVariables false
theorem wpList_load_rowG {P : Program} {ops : Array Oper} {rest : List Oper} {o : Oper} {a : Act} {w : World} {Q : Exit → Act → World → Prop} (hw : Region.wanted o (yielded ops a.tmps) = true) (ty : TypeId) (x : Operand) (ho : o.op = .load ty x)
    (g : Nat) (hx : a.eval x = .pointer (some ⟨g, 0, none⟩)) (t : TypeId) (cs : Array Value) (fr : Nat × Nat) (d : TypeDesc) (hg : w.heap[g]? = some (.cells cs t fr))
    (hu : P.underlying ty = some d) (hd : (match d with | .struct _ | .array _ _ => true | _ => false) = true) (hi : (P.info? ty).map (·.size) = some cs.size)
    (h : wpList P ops Q rest (a.put o.dst (.agg cs)) w) : wpList P ops Q (o :: rest) a w :=
  wpList_step fun K hK => by
    rw [if_pos hw]
    exact wp_load_row ty x ho g hx t cs fr d hg hu hd hi (hK _ _ h)
theorem PBlk.later {wr : World} {g : Nat} {v : Bool} {A : List Int} {L : Int} (h : PBlk wr g v A L) {W : World} (hW : Ext wr.drew W) : PBlk W g v A L := (show PBlk wr.drew g v A L from h).below hW h.lt
theorem two_boxes (w : World) (v : Bool) (A : List Int) (L : Int) (u : Bool) (B : List Int) (M : Int) :
    PBlk ((w.alloc (.cells (pcells v A L) 43)).alloc (.cells (pcells u B M) 43)) w.heap.size v A L ∧
    PBlk ((w.alloc (.cells (pcells v A L) 43)).alloc (.cells (pcells u B M) 43)) (w.heap.size + 1) u B M ∧
    Below w.heap.size w ((w.alloc (.cells (pcells v A L) 43)).alloc (.cells (pcells u B M) 43)) := by
  have h1 := pbox w v A L
  have h2 := pbox (w.alloc (.cells (pcells v A L) 43)) u B M
  rw [show (w.alloc (.cells (pcells v A L) 43)).heap.size = w.heap.size + 1 by simp] at h2
  exact ⟨Blk.alloc h1 _, h2, Below.step (box_below w _) (box_below _ _)⟩
end Go.Proofs.YtlmndmfebgaidaaGreatDoor
namespace Go.Proofs.YtlmndmfebgaidaaGreatDoor
open Go.RowKit
set_option linter.unusedVariables false
def cmpN (x y : Nat) : Int := if x < y then -1 else if y < x then 1 else 0
theorem first_less : ∀ {A B : List Int} {i : Nat}, (∀ x ∈ A, 0 ≤ x ∧ x ≤ 255) → (∀ x ∈ B, 0 ≤ x ∧ x ≤ 255) → A.length = B.length → i < A.length → (∀ j, j < i → A[j]?.getD 0 = B[j]?.getD 0) → A[i]?.getD 0 < B[i]?.getD 0 → aN A < aN B
  | [], _, i, _, _, _, hi, _, _ => by simp at hi
  | _ :: _, [], _, _, _, h, _, _, _ => by simp at h
  | x :: xs, y :: ys, i, hA, hB, hl, hi, hs, h => by
    have hx := hA x (by simp)
    have hy := hB y (by simp)
    have h1 : ∀ z ∈ xs, 0 ≤ z ∧ z ≤ 255 := fun z hz => hA z (by simp [hz])
    have h2 : ∀ z ∈ ys, 0 ≤ z ∧ z ≤ 255 := fun z hz => hB z (by simp [hz])
    have hlen : xs.length = ys.length := by simpa using hl
    rw [aN_cons, aN_cons, ← hlen]
    cases i with
    | zero =>
      simp only [List.getElem?_cons_zero, Option.getD_some] at h
      have l1 := aN_lt h1
      have m : (x.toNat + 1) * 256 ^ xs.length ≤ y.toNat * 256 ^ xs.length := Nat.mul_le_mul_right _ (by omega)
      rw [Nat.add_mul, Nat.one_mul] at m
      omega
    | succ i =>
      have e0 := hs 0 (by omega)
      simp only [List.getElem?_cons_zero, Option.getD_some] at e0
      subst e0
      have := first_less (i := i) h1 h2 hlen (by simpa using hi) (fun j hj => by simpa using hs (j + 1) (by omega)) (by simpa using h)
      omega
theorem all_same {A B : List Int} (hl : A.length = B.length) (h : ∀ j, j < A.length → A[j]?.getD 0 = B[j]?.getD 0) : A = B := by
  apply List.ext_getElem?
  intro j
  rcases Nat.lt_or_ge j A.length with hj | hj
  · have e := h j hj
    rw [List.getElem?_eq_getElem hj, List.getElem?_eq_getElem (by omega)] at e ⊢
    simpa using e
  · rw [List.getElem?_eq_none hj, List.getElem?_eq_none (by omega)]
set_option maxHeartbeats 1000000 in
set_option maxRecDepth 100000 in
theorem rcmpaddr_any (A B : List Int) (w : World) (hA : Sixteen A) (hB : Sixteen B) :
    Calls Tryz.prog 73 #[.agg (acells A).toArray, .agg (acells B).toArray] w fun e w' => e = .returned (.int .i64 (cmpN (aN A) (aN B))) ∧ Below w.heap.size w w' := by
  have BX := Lib.hid (Blk.alloc (Blk.new w 41 (acells A).toArray) (.cells (acells B).toArray 41))
  have by' := Blk.new (w.alloc (.cells (acells A).toArray 41)) 41 (acells B).toArray
  rw [show (w.alloc (.cells (acells A).toArray 41)).heap.size = w.heap.size + 1 by simp] at by'
  have BY := Lib.hid by'
  have BW := Lib.hid (Below.step (box_below w (.cells (acells A).toArray 41)) (box_below _ (.cells (acells B).toArray 41)))
  have HA := Lib.hid hA
  have HB := Lib.hid hB
  have FL := Lib.hid (fun i (hi : i < 16) hs h => first_less (A := A) (B := B) (i := i) hA.2 hB.2 (by rw [hA.1, hB.1]) (by rw [hA.1]; exact hi) hs h)
  have FG := Lib.hid (fun i (hi : i < 16) hs h => first_less (A := B) (B := A) (i := i) hB.2 hA.2 (by rw [hA.1, hB.1]) (by rw [hB.1]; exact hi) hs h)
  have AS := Lib.hid (fun (h : ∀ j, j < 16 → A[j]?.getD 0 = B[j]?.getD 0) => all_same (A := A) (B := B) (by rw [hA.1, hB.1]) (fun j hj => h j (by rw [hA.1] at hj; exact hj)))
  clear hA hB by'
  go_enter Tryz.func73, Tryz.ntmps73
  generalize hw2 : (w.alloc (.cells (acells A).toArray 41)).alloc (.cells (acells B).toArray 41) = w2 at *
  go_wp2_with fail
  clear hw2
  go_loopw [5] (fun iV wr => ∃ (i q : Nat), iV = .int .i64 (i : Int) ∧ i ≤ 16 ∧ (∀ j, j < i → A[j]?.getD 0 = B[j]?.getD 0) ∧ wr = w2.drewN q) (fun iV _ => (200 - intOf iV).toNat)
  case atStart => exact ⟨0, 0, rfl, Nat.zero_le _, fun j h => by omega, rfl⟩
  case round =>
    obtain ⟨i, q, rfl, hi, hs, hwr⟩ := hrel
    have HS := Lib.hid hs
    have HW := Lib.hid hwr
    have BE : Hid (Below w.heap.size w wr) := by rw [hwr]; exact Lib.hid (Below.step BW.out (drewN_below w2 q))
    have X : Blk wr w.heap.size 41 (acells A).toArray := by rw [hwr]; exact BX.out
    have Y : Blk wr (w.heap.size + 1) 41 (acells B).toArray := by rw [hwr]; exact BY.out
    clear hs hwr
    by_cases hlt : i < 16
    · have t0 : decide ((i : Int) < 16) = true := decide_eq_true (by omega)
      have cx := (X.cell i).trans (List.getElem?_toArray.trans (acells_at HA.out.1 i hlt))
      have cy := (Y.cell i).trans (List.getElem?_toArray.trans (acells_at HB.out.1 i hlt))
      clear X Y
      have i0 : (0 : Int) ≤ (i : Int) := by omega
      have i1 : (i : Int) < 16 := by omega
      have iw : IntKind.i64.wrap (i : Int) = (i : Int) := IntWalk.i64_in _ (by omega)
      have FL1 := Lib.hid (FL.out i hlt HS.out)
      have FG1 := Lib.hid (FG.out i hlt (fun j h => (HS.out j h).symm))
      have SN : Hid (A[i]?.getD 0 = B[i]?.getD 0 → ∀ j, j < i + 1 → A[j]?.getD 0 = B[j]?.getD 0) := Lib.hid (fun he j h => by
        rcases Nat.lt_or_ge j i with h' | h'
        · exact HS.out j h'
        · rw [show j = i by omega]; exact he)
      generalize A[i]?.getD 0 = x at *
      generalize B[i]?.getD 0 = y at *
      by_cases h1 : x < y
      · have t1 : decide (x < y) = true := decide_eq_true h1
        have F : Hid (cmpN (aN A) (aN B) = -1) := Lib.hid (by unfold cmpN; rw [if_pos (FL1.out h1)])
        go_wp2_with fail
        go_quiet (fail)
        have e1 : (wr.drewN nq).cell? ⟨w.heap.size, i, none⟩ = some (.int .u8 x) := cx
        have e2 : (wr.drewN nq).cell? ⟨w.heap.size + 1, i, none⟩ = some (.int .u8 y) := cy
        have N2 : Hid (wr.drewN nq = w2.drewN (q + nq)) := by rw [HW.out]; exact Lib.hid (World.drewN_drewN _ _ _)
        have B2 := Lib.hid (Below.step BE.out (drewN_below wr nq))
        obtain ⟨q2, hq2⟩ : ∃ q2, q + nq = q2 := ⟨_, rfl⟩
        rw [hq2] at N2
        generalize wr.drewN nq = w4 at *
        clear cx cy hq2
        go_wp2_with fail
        go_ret
        exact ⟨by rw [F.out]; rfl, B2.out⟩
      have t1 : decide (x < y) = false := decide_eq_false h1
      by_cases h2 : y < x
      · have t2 : decide (y < x) = true := decide_eq_true h2
        have F : Hid (cmpN (aN A) (aN B) = 1) := Lib.hid (by unfold cmpN; rw [if_neg (by have := FG1.out h2; omega), if_pos (FG1.out h2)])
        go_wp2_with fail
        go_quiet (fail)
        have e1 : (wr.drewN nq).cell? ⟨w.heap.size, i, none⟩ = some (.int .u8 x) := cx
        have e2 : (wr.drewN nq).cell? ⟨w.heap.size + 1, i, none⟩ = some (.int .u8 y) := cy
        have N2 : Hid (wr.drewN nq = w2.drewN (q + nq)) := by rw [HW.out]; exact Lib.hid (World.drewN_drewN _ _ _)
        have B2 := Lib.hid (Below.step BE.out (drewN_below wr nq))
        obtain ⟨q2, hq2⟩ : ∃ q2, q + nq = q2 := ⟨_, rfl⟩
        rw [hq2] at N2
        generalize wr.drewN nq = w4 at *
        clear cx cy hq2
        go_wp2_with fail
        go_quiet (fail)
        have B3 := Lib.hid (Below.step B2.out (drewN_below w4 nq))
        generalize w4.drewN nq = w5 at *
        go_wp2_with fail
        go_ret
        exact ⟨by rw [F.out]; rfl, B3.out⟩
      have t2 : decide (y < x) = false := decide_eq_false h2
      go_wp2_with fail
      go_quiet (fail)
      have e1 : (wr.drewN nq).cell? ⟨w.heap.size, i, none⟩ = some (.int .u8 x) := cx
      have e2 : (wr.drewN nq).cell? ⟨w.heap.size + 1, i, none⟩ = some (.int .u8 y) := cy
      have N2 : Hid (wr.drewN nq = w2.drewN (q + nq)) := by rw [HW.out]; exact Lib.hid (World.drewN_drewN _ _ _)
      have B2 := Lib.hid (Below.step BE.out (drewN_below wr nq))
      obtain ⟨q2, hq2⟩ : ∃ q2, q + nq = q2 := ⟨_, rfl⟩
      rw [hq2] at N2
      generalize wr.drewN nq = w4 at *
      clear cx cy hq2
      go_wp2_with fail
      go_quiet (fail)
      have N3 : Hid (w4.drewN nq = w2.drewN (q2 + nq)) := by rw [N2.out]; exact Lib.hid (World.drewN_drewN _ _ _)
      generalize w4.drewN nq = w5 at *
      go_wp2_with fail
      go_roundw
      case rel => exact ⟨i + 1, _, by go_num, by omega, SN.out (by omega), N3.out⟩
      case measure => simp only [intOf]; omega
    · have t0 : decide ((i : Int) < 16) = false := decide_eq_false (by omega)
      have F : Hid (cmpN (aN A) (aN B) = 0) := Lib.hid (by rw [AS.out (fun j h => HS.out j (by omega))]; unfold cmpN; rw [if_neg (by omega), if_neg (by omega)])
      clear X Y
      go_wp2_with fail
      go_ret
      exact ⟨by rw [F.out]; rfl, BE.out⟩
theorem cmp_way (v : Bool) (A : List Int) (L : Int) (u : Bool) (B : List Int) (M : Int) : (v ≠ u → cmpA v A L u B M = if u then -1 else 1) ∧ (v = u → (cmpN (aN A) (aN B) ≠ 0 → cmpA v A L u B M = cmpN (aN A) (aN B)) ∧ (cmpN (aN A) (aN B) = 0 → (L < M → cmpA v A L u B M = -1) ∧ (¬ L < M → M < L → cmpA v A L u B M = 1) ∧ (¬ L < M → ¬ M < L → cmpA v A L u B M = 0))) := by
  refine ⟨fun h => by unfold cmpA; rw [if_pos h], fun h => ⟨fun hc => ?_, fun hc => ?_⟩⟩
  · unfold cmpA
    unfold cmpN at hc ⊢
    rw [if_neg (by simp [h])]
    split
    · rfl
    · split
      · rfl
      · rename_i h1 h2
        rw [if_neg h1, if_neg h2] at hc
        exact absurd rfl hc
  · have hn : ¬ aN A < aN B ∧ ¬ aN B < aN A := by
      unfold cmpN at hc
      split at hc
      · omega
      · split at hc
        · omega
        · rename_i h1 h2
          exact ⟨h1, h2⟩
    have e : cmpA v A L u B M = if L < M then -1 else if M < L then 1 else 0 := by
      unfold cmpA
      rw [if_neg (by simp [h]), if_neg hn.1, if_neg hn.2]
    exact ⟨fun h1 => by rw [e, if_pos h1], fun h1 h2 => by rw [e, if_neg h1, if_pos h2], fun h1 h2 => by rw [e, if_neg h1, if_neg h2]⟩
end Go.Proofs.YtlmndmfebgaidaaGreatDoor
namespace Go.Proofs.YtlmndmfebgaidaaGreatDoor
open Go.RowKit
inductive Plan where
  | fin
  | take (i : Nat) (p : Plan)
  | sole (i : Nat) (p : Plan)
  | fork (i : Nat) (p : Plan) (j : Nat) (q : Plan)
def Plan.len : Plan → Nat
  | .fin => 0
  | .take _ p => p.len + 1
  | .sole _ p => p.len + 1
  | .fork _ p _ _ => p.len + 1
section
variable {P : Program} {ops : Array Oper} {Q : Exit → Act → World → Prop} {R : World → World → Prop}
def wpSole (P : Program) (l : List Oper) (R : World → World → Prop) (Q : Exit → Act → World → Prop) (i : Nat) (K : Act → World → Prop) (a : Act) (w : World) : Prop :=
  ∃ o, l[i]? = some o ∧ ((Region.wanted o (yielded l.toArray a.tmps) = false ∧ K (a.put o.dst undef) w) ∨
    (Region.wanted o (yielded l.toArray a.tmps) = true ∧ o.wp P a w (fun a' w' => R w w' ∧ K a' w') Q))
def wpPlan (P : Program) (l : List Oper) (R : World → World → Prop) (Q : Exit → Act → World → Prop) : Plan → Act → World → Prop
  | .fin, a, w => Q .normal a w
  | .take i p, a, w => ∃ o, l[i]? = some o ∧
    ((Region.wanted o (yielded l.toArray a.tmps) = false ∧ wpPlan P l R Q p (a.put o.dst undef) w) ∨
     (Region.wanted o (yielded l.toArray a.tmps) = true ∧ ∃ v, (∀ W, R w W → (execOp a.eval o).run P W = .ok (.value v) W) ∧ wpPlan P l R Q p (a.put o.dst v) w))
  | .sole i p, a, w => wpSole P l R Q i (wpPlan P l R Q p) a w
  | .fork i p j q, a, w => wpSole P l R Q i (wpPlan P l R Q p) a w ∧ wpSole P l R Q j (wpPlan P l R Q q) a w
def planB (l : List Oper) : Plan → Array Bool → Bool
  | .fin, listed => (Region.ready .any l.toArray listed).isEmpty
  | .take i p, listed => ((Region.ready .any l.toArray listed).contains i && Region.free .any l.toArray listed i) && planB l p (listed.setIfInBounds i true)
  | .sole i p, listed => (Region.ready .any l.toArray listed == [i]) && planB l p (listed.setIfInBounds i true)
  | .fork i p j q, listed => ((Region.ready .any l.toArray listed == [i, j]) && (p.len == q.len)) && (planB l p (listed.setIfInBounds i true) && planB l q (listed.setIfInBounds j true))
theorem held_sole {l : List Oper} (hrefl : ∀ w, R w w) (htrans : ∀ a b c, R a b → R b c → R a c) {i fuel : Nat} {listed : Array Bool} {K : Act → World → Prop} {a : Act} {w : World}
    (hK : ∀ a' w', K a' w' → wpAnyH P .any l.toArray Q (R w') fuel (listed.setIfInBounds i true) a' w') (h : wpSole P l R Q i K a w) :
    wpOp P l.toArray Q i (fun a' w' => R w w' ∧ wpAnyH P .any l.toArray Q (R w) fuel (listed.setIfInBounds i true) a' w') a w := by
  obtain ⟨o, ho, h⟩ := h
  have hi : l.toArray[i]? = some o := by simpa using ho
  unfold wpOp
  simp only [hi]
  rcases h with ⟨hw, h⟩ | ⟨hw, h⟩
  · rw [if_neg (by rw [hw]; simp)]
    exact ⟨hrefl w, hK _ _ h⟩
  · rw [if_pos hw]
    exact .inl (Oper.wp_mono (fun a' w' h' => ⟨h'.1, held_mono (fun W hW => htrans _ _ _ h'.1 hW) _ _ _ _ (hK _ _ h'.2)⟩) h)
theorem held_of_plan {l : List Oper} (hrefl : ∀ w, R w w) (htrans : ∀ a b c, R a b → R b c → R a c) (hs : Region.noSelect l.toArray = true) (hQ : ∀ d v c a w, Q (.panic c) (a.put d v) w → Q (.panic c) a w) :
    ∀ (p : Plan) (listed : Array Bool) (a : Act) (w : World), planB l p listed = true → wpPlan P l R Q p a w → wpAnyH P .any l.toArray Q (R w) p.len listed a w
  | .fin, listed, a, w, hB, h => by
    have : Region.ready .any l.toArray listed = [] := by simpa [planB] using hB
    exact wpAnyH_done this h _
  | .take i p, listed, a, w, hB, h => by
    obtain ⟨o, ho, h⟩ := h
    have hi : l.toArray[i]? = some o := by simpa using ho
    rw [planB, Bool.and_eq_true, Bool.and_eq_true] at hB
    obtain ⟨⟨h1, h2⟩, hB'⟩ := hB
    rcases h with ⟨hw, h⟩ | ⟨hw, v, hv, h⟩
    · exact wpAnyH_take hi hs h2 h1 (hQ _ _) (.inr ⟨hw, rfl⟩) (hrefl w) (held_of_plan hrefl htrans hs hQ p _ _ _ hB' h)
    · exact wpAnyH_take hi hs h2 h1 (hQ _ _) (.inl ⟨hw, hv⟩) (hrefl w) (held_of_plan hrefl htrans hs hQ p _ _ _ hB' h)
  | .sole i p, listed, a, w, hB, h => by
    rw [planB, Bool.and_eq_true] at hB
    have hr : Region.ready .any l.toArray listed = [i] := by simpa using hB.1
    refine wpAnyH_all hr (by simp) (fun j hj => ?_)
    obtain rfl : j = i := by simpa using hj
    exact held_sole hrefl htrans (fun a' w' h' => held_of_plan hrefl htrans hs hQ p _ a' w' hB.2 h') h
  | .fork i p j q, listed, a, w, hB, h => by
    rw [planB, Bool.and_eq_true, Bool.and_eq_true, Bool.and_eq_true] at hB
    obtain ⟨⟨h1, h2⟩, h3, h4⟩ := hB
    have hr : Region.ready .any l.toArray listed = [i, j] := by simpa using h1
    have hl : p.len = q.len := by simpa using h2
    refine wpAnyH_all hr (by simp) (fun x hx => ?_)
    have hx' : x = i ∨ x = j := by simpa using hx
    rcases hx' with rfl | rfl
    · exact held_sole hrefl htrans (fun a' w' h' => held_of_plan hrefl htrans hs hQ p _ a' w' h3 h') h.1
    · have := held_sole (fuel := q.len) (listed := listed) hrefl htrans (fun a' w' h' => held_of_plan hrefl htrans hs hQ q _ a' w' h4 h') h.2
      rw [← hl] at this
      exact this
theorem wp_region_plan {id : Nat} {a : Act} {w : World} {l : List Oper} (R : World → World → Prop) (hrefl : ∀ w, R w w) (htrans : ∀ a b c, R a b → R b c → R a c) (plan : Plan) (hm : P.follows .mixedOrders = true) (hs : Region.noSelect l.toArray = true) (hn : plan.len = l.length)
    (hB : planB l plan (Array.replicate l.length false) = true) (hQ : ∀ d v c a w, Q (.panic c) (a.put (some d) v) w → Q (.panic c) a w) (h : wpPlan P l R Q plan a w.drew) : (Code.region id l.toArray true).wp P Q a w := by
  refine wp_region_held (S := R w.drew) hm ?_
  have hQ' : ∀ d v c a w, Q (.panic c) (a.put d v) w → Q (.panic c) a w := fun d => by
    cases d with
    | none => exact fun _ _ _ _ h => h
    | some d => exact hQ d
  have := held_of_plan hrefl htrans hs hQ' plan (Array.replicate l.length false) a w.drew hB h
  rw [hn] at this
  simpa using this
section
variable {l : List Oper} {p q : Plan} {a : Act} {w : World} {i j : Nat} {o : Oper} {K : Act → World → Prop}
theorem plan_take (v : Value) (ho : l[i]? = some o) (hw : Region.wanted o (yielded l.toArray a.tmps) = true) (hv : ∀ W, R w W → (execOp a.eval o).run P W = .ok (.value v) W) (h : wpPlan P l R Q p (a.put o.dst v) w) : wpPlan P l R Q (.take i p) a w := ⟨o, ho, .inr ⟨hw, v, hv, h⟩⟩
theorem sole_take (ho : l[i]? = some o) (hw : Region.wanted o (yielded l.toArray a.tmps) = true) (h : ∀ K' : Act → World → Prop, (∀ a' w', R w w' → K a' w' → K' a' w') → o.wp P a w K' Q) : wpSole P l R Q i K a w :=
  ⟨o, ho, .inr ⟨hw, h _ (fun _ _ he h => ⟨he, h⟩)⟩⟩
theorem plan_sole (h : wpSole P l R Q i (wpPlan P l R Q p) a w) : wpPlan P l R Q (.sole i p) a w := h
theorem plan_fork (h1 : wpSole P l R Q i (wpPlan P l R Q p) a w) (h2 : wpSole P l R Q j (wpPlan P l R Q q) a w) : wpPlan P l R Q (.fork i p j q) a w := ⟨h1, h2⟩
theorem plan_end (h : Q .normal a w) : wpPlan P l R Q .fin a w := h
end
end
end Go.Proofs.YtlmndmfebgaidaaGreatDoor
namespace Go.Proofs.YtlmndmfebgaidaaGreatDoor
open Go.RowKit
set_option linter.unusedVariables false
theorem clamped_any (n m : Int) (w : World) (l0 : -9223372036854775808 ≤ n) (l1 : n ≤ 9223372036854775807) (m0 : 0 ≤ m) (m1 : m ≤ 1000) :
    Calls Tryz.prog 81 #[.int .i64 n, .int .i64 m] w fun e w' => e = .returned (.int .i64 (min (max n 0) m)) ∧ w' = w := by
  obtain ⟨a, ha⟩ : ∃ a, max n 0 = a := ⟨_, rfl⟩
  obtain ⟨b, hb⟩ : ∃ b, min a m = b := ⟨_, rfl⟩
  have F := Lib.hid (show min (max n 0) m = b by rw [ha, hb])
  go_enter Tryz.func81, Tryz.ntmps81
  go_wp2_with fail
  go_ret
  exact ⟨by rw [F.out]; rfl, rfl⟩
def famS (v : Bool) : ByteArray := if v then ⟨#[58]⟩ else ⟨#[46]⟩
def famN (v : Bool) : Nat := if v then 16 else 4
def famG (v : Bool) : Nat := if v then 2 else 1
def famB (v : Bool) : Nat := if v then 16 else 10
def famC (v : Bool) : Array Value := #[.int .i64 (famN v), .int .i64 (famG v), .int .i64 (famB v), .string (famS v)]
def ZF : Array Value := #[.int .i64 0, .int .i64 0, .int .i64 0, .string ⟨#[]⟩]
theorem famC_one (v : Bool) : (famC v).all (·.oneCell') = true := by
  refine all_oneCell_toArray (cs := [.int .i64 (famN v), .int .i64 (famG v), .int .i64 (famB v), .string (famS v)]) fun u hu => ?_
  simp only [List.mem_cons, List.not_mem_nil, or_false] at hu
  rcases hu with rfl | rfl | rfl | rfl <;> rfl
theorem Tryz.sizeF (v : Bool) : (Tryz.prog.info? 104).map (·.size) = some (famC v).size := by cases v <;> kernel_rfl
set_option maxHeartbeats 500000 in
set_option maxRecDepth 100000 in
theorem family_any (v : Bool) (w : World) :
    Calls Tryz.prog 82 #[.bool v] w fun e w' => e = .returned (.agg (famC v)) ∧ Below w.heap.size w w' := by
  have BZ := Lib.hid (Blk.new w 104 ZF)
  have BW := Lib.hid (box_below w (.cells ZF 104))
  have ZS := fun v => Lib.hid (Tryz.sizeF v)
  have ZE : ∀ v, Hid (ZF.size = (famC v).size) := fun v => Lib.hid (by cases v <;> rfl)
  have P1 := fun v => Lib.hid (famC_one v)
  cases v with
  | true =>
    go_enter Tryz.func82, Tryz.ntmps82
    generalize hw2 : w.alloc (.cells ZF 104) = w2 at *
    go_wp2_with (first
      | (refine Great.wpList_allocTo rfl (some 2) rfl (.pointer (some ⟨w.heap.size, 0, none⟩)) (.cells ZF 104) rfl ?_; rw [hw2]; clear hw2)
      | (refine wpList_store_rowTo rfl 104 (.tmp 2) (.tmp 4) rfl rfl w.heap.size (famC true) rfl rfl 104 ZF BZ.out (ZS true).out (ZE true).out (P1 true).out ?_))
    exact bodyPost_ret (results_cell_row rfl _ _ w.heap.size 104 (famC true) (0, 0) _ rfl (setRow_heap _ _ _ _ 104 _ BZ.out) Tryz.underlying104 rfl (ZS true).out) rfl ⟨rfl, below_setRow BW.out (Nat.le_refl _) _⟩
  | false =>
    go_enter Tryz.func82, Tryz.ntmps82
    generalize hw2 : w.alloc (.cells ZF 104) = w2 at *
    go_wp2_with (first
      | (refine Great.wpList_allocTo rfl (some 2) rfl (.pointer (some ⟨w.heap.size, 0, none⟩)) (.cells ZF 104) rfl ?_; rw [hw2]; clear hw2)
      | (refine wpList_store_rowTo rfl 104 (.tmp 2) (.tmp 5) rfl rfl w.heap.size (famC false) rfl rfl 104 ZF BZ.out (ZS false).out (ZE false).out (P1 false).out ?_))
    exact bodyPost_ret (results_cell_row rfl _ _ w.heap.size 104 (famC false) (0, 0) _ rfl (setRow_heap _ _ _ _ 104 _ BZ.out) Tryz.underlying104 rfl (ZS false).out) rfl ⟨rfl, below_setRow BW.out (Nat.le_refl _) _⟩
end Go.Proofs.YtlmndmfebgaidaaGreatDoor
namespace Go.Proofs.YtlmndmfebgaidaaGreatDoor
open Go.RowKit
set_option linter.unusedVariables false
theorem cmp_turned (v : Bool) (A : List Int) (L : Int) (u : Bool) (B : List Int) (M : Int) : cmpA u B M v A L = - cmpA v A L u B M := by
  unfold cmpA
  generalize aN A = a
  generalize aN B = b
  cases v <;> cases u
  · simp only [ne_eq, not_true, if_false]
    repeat' split
    all_goals omega
  · simp
  · simp
  · simp only [ne_eq, not_true, if_false]
    repeat' split
    all_goals omega
theorem cutL_ok (v : Bool) (L : Int) : 0 ≤ cutL v L ∧ cutL v L ≤ mostZ v := by
  have := most_le v
  unfold cutL
  omega
theorem cutA_ok (v : Bool) (A : List Int) (L : Int) : Sixteen (cutA v A L) := by16_ok _
theorem cutA_aN (v : Bool) {A : List Int} (hA : Sixteen A) (L : Int) : aN (cutA v A L) = aN A / 2 ^ (128 - (cutL v L).toNat) * 2 ^ (128 - (cutL v L).toNat) := by
  unfold cutA
  exact aN_by16 (Nat.lt_of_le_of_lt (Nat.div_mul_le_self _ _) (aN_lt16 hA))
theorem cut_right (v : Bool) {A : List Int} (hA : Sixteen A) (L : Int) : rightA v (cutA v A L) (cutL v L) = true := by
  have h := cutL_ok v L
  refine (right_is ..).2 ⟨h.1, h.2, ?_⟩
  rw [cutA_aN v hA]
  exact Nat.mul_mod_left _ _
theorem cut_same {v : Bool} {A : List Int} (hA : Sixteen A) {L : Int} (h : rightA v A L = true) : cutL v L = L ∧ cutA v A L = A := by
  obtain ⟨h1, h2, h3⟩ := (right_is ..).1 h
  have e : cutL v L = L := by
    unfold cutL
    omega
  refine ⟨e, ?_⟩
  unfold cutA
  rw [e, Nat.mul_comm]
  have d := Nat.div_add_mod (aN A) (2 ^ (128 - L.toNat))
  rw [h3, Nat.add_zero] at d
  rw [d]
  exact by16_aN hA
end Go.Proofs.YtlmndmfebgaidaaGreatDoor
