/-
  Merged texts (stage 5): Row32, Sc10, Sc11.
-/
import Derived.Test.YtjhffnoddhlikaaDoorGrpC
namespace Go.Proofs.YtjhffnoddhlikaaDoor
open Go.RowKit
set_option linter.unusedVariables false

/-- A slice value with n elements reads as the numbers zs, each a byte; where there is an element, it lies in a block of this world. -/
def Row32 (w : World) (a : Option Addr) (n : Nat) (zs : List Int) : Prop :=
  zs.length = n ∧ (∀ x ∈ zs, 0 ≤ x ∧ x ≤ 4294967295) ∧
  (0 < n → ∃ b off, a = some ⟨b, off, none⟩ ∧ b < w.heap.size ∧ ∀ i, i < n → w.cell? ⟨b, off + i, none⟩ = some (.int .u32 (zs[i]?.getD 0)))

theorem Row32.below {w w' : World} {a : Option Addr} {n : Nat} {zs : List Int} (h : Row32 w a n zs) (hb : Below w.heap.size w w') : Row32 w' a n zs := by
  refine ⟨h.1, h.2.1, fun hn => ?_⟩
  obtain ⟨b, off, e, hlt, hc⟩ := h.2.2 hn
  exact ⟨b, off, e, Nat.lt_of_lt_of_le hlt hb.size, fun i hi => (hb.cell (p := ⟨b, off + i, none⟩) hlt).trans (hc i hi)⟩

theorem Row32.drewN {w : World} {a : Option Addr} {n : Nat} {zs : List Int} (h : Row32 w a n zs) (k : Nat) : Row32 (w.drewN k) a n zs := h

theorem Row32.nil (w : World) (a : Option Addr) : Row32 w a 0 [] := ⟨rfl, by simp, fun h => absurd h (by omega)⟩

theorem Row32.num {w : World} {a : Option Addr} {n : Nat} {zs : List Int} (h : Row32 w a n zs) (k : Nat) : 0 ≤ zs[k]?.getD 0 ∧ zs[k]?.getD 0 ≤ 4294967295 := by
  rcases Nat.lt_or_ge k zs.length with hk | hk
  · rw [List.getElem?_eq_getElem hk]
    exact h.2.1 _ (List.getElem_mem hk)
  · rw [List.getElem?_eq_none hk]
    simp

/-- The row that was made reads as these numbers. -/
theorem Row32.of_own {w : World} {base g n cap : Nat} {zs : List Int} (h : w.ownsRow base 60 1 (.slice (some ⟨g, 0, none⟩) n cap) n (zs.map (Value.int .u32))) (hz : ∀ x ∈ zs, 0 ≤ x ∧ x ≤ 4294967295) :
    Row32 w (some ⟨g, 0, none⟩) n zs := by
  have hl : zs.length = n := by have := h.1; simpa using this
  refine ⟨hl, hz, fun hn => ⟨g, 0, rfl, ?_, fun i hi => ?_⟩⟩
  · exact (h.lt g rfl).2
  · rw [Nat.zero_add, h.cellAt i (by omega)]
    simp [show i < zs.length by omega]

theorem row32_of {w : World} {a : Option Addr} {len cap : Nat} {zs : List Int}
    (h : (a = none ∧ len = 0 ∧ cap = 0 ∧ zs = []) ∨
      ∃ x, a = some x ∧ len ≤ cap ∧ cap ≤ maxLen ∧ zs.length = cap ∧ (∀ i, i < zs.length → w.cell? (x.add i) = some (.int .u32 (zs.getD i 0))) ∧ ∀ n ∈ zs, (Lit.int .u32 n).wf = true) :
    Row32 w a len (zs.take len) ∧ len ≤ maxLen := by
  rcases h with ⟨rfl, rfl, rfl, rfl⟩ | ⟨x, rfl, hl, hm, hz, hcell, hwz⟩
  · exact ⟨Row32.nil _ _, Nat.zero_le _⟩
  · refine ⟨⟨by rw [List.length_take]; omega, fun y hy => ?_, fun hn => ?_⟩, by omega⟩
    · have := hwz y (List.mem_of_mem_take hy)
      have := bounds_u32 this
      omega
    · obtain ⟨b, off, spot⟩ := x
      have hc := hcell 0 (by omega)
      have hspot : spot = none := by simpa [Addr.add] using World.cell?_spot hc
      subst hspot
      refine ⟨b, off, rfl, by have := cell_block hc; simpa [Addr.add] using this, fun i hi => ?_⟩
      have := hcell i (by omega)
      rw [Addr.add_lit] at this
      rw [this, List.getD_eq_getElem?_getD, List.getElem?_take, if_pos hi]

theorem Tryd.info32 : (Tryd.prog.info? 60).map (fun i => (i.zero, i.size, i.bytes)) = some (some (.int .u32 0), 1, 4) := by kernel_rfl

/-- The slice V is the call's own, in memory newer than W0, and reads as the numbers L. -/
def Out32 (W0 wr : World) (V : Value) (L : List Int) : Prop := wr.ownsRow W0.heap.size 60 1 V L.length (L.map (Value.int .u32)) ∧ Below W0.heap.size W0 wr

theorem Out32.below {W0 wr w' : World} {V : Value} {L : List Int} (h : Out32 W0 wr V L) (hb : Below wr.heap.size wr w') : Out32 W0 w' V L := by
  refine ⟨⟨h.1.1, ?_⟩, h.2.trans (hb.mono h.2.size)⟩
  rcases h.1.2 with h' | ⟨g, cap, cur, e, h1, h2, h3⟩
  · exact .inl h'
  · exact .inr ⟨g, cap, cur, e, h1, (hb.block g (Array.getElem?_eq_some_iff.1 h2).1).trans h2, h3⟩

theorem Out32.row {W0 wr : World} {V : Value} {L : List Int} (h : Out32 W0 wr V L) (hL : ∀ x ∈ L, 0 ≤ x ∧ x ≤ 4294967295) : ∃ a c, V = .slice a L.length c ∧ Row32 wr a L.length L := by
  rcases h.1.2 with ⟨rfl, h0⟩ | ⟨g, cap, cur, rfl, _⟩
  · have : L = [] := List.eq_nil_of_length_eq_zero h0
    subst this
    exact ⟨none, 0, rfl, Row32.nil _ _⟩
  · exact ⟨_, cap, rfl, Row32.of_own h.1 hL⟩

theorem Row32.cells {w : World} {ad : Addr} {n : Nat} {zs : List Int} (h : Row32 w (some ad) n zs) : ∀ j u, (zs.map (Value.int .u32))[j]? = some u → w.cell? (ad.add j) = some u := by
  intro j u hu
  rw [List.getElem?_map] at hu
  rcases Nat.lt_or_ge j zs.length with hl | hl
  · have hn := h.1
    obtain ⟨b, off, e, _, hc⟩ := h.2.2 (by omega)
    injection e with e
    subst e
    rw [Addr.add_lit, hc j (by omega)]
    rw [List.getElem?_eq_getElem hl] at hu ⊢
    simpa using hu
  · rw [List.getElem?_eq_none hl] at hu
    cases hu

/-- Bytes are appended. -/
theorem out_append32 {ops : Array Oper} {rest : List Oper} {o : Oper} {a : Act} {Q : Exit → Act → World → Prop} {W0 w : World} {V : Value} {L zs : List Int} {A : Option Addr} {m c : Nat} (hgd : o.guard = none) (s x : Operand)
    (hop : o.op = .call { callee := .builtin .append, args := #[s, x], argTypes := #[38, 38] }) (hs : a.eval s = V) (hout : Out32 W0 w V L) (hx : a.eval x = .slice A m c) (hr : Row32 w A m zs) (hnil : A = none → c = 0) (hl : L.length + m ≤ 1000000)
    (h : ∀ V' w', Out32 W0 w' V' (L ++ zs) → wpList Tryd.prog ops Q rest (a.put o.dst V') w') : wpList Tryd.prog ops Q (o :: rest) a w := by
  obtain ⟨i0, hi5, hz0, hz1, hz2⟩ := info_parts Tryd.info32
  cases A with
  | none =>
    obtain rfl := hnil rfl
    have hm : m = 0 := by
      rcases Nat.eq_zero_or_pos m with h0 | h0
      · exact h0
      · obtain ⟨_, _, e, _⟩ := hr.2.2 h0
        cases e
    subst hm
    obtain rfl : zs = [] := List.eq_nil_of_length_eq_zero hr.1
    refine wpList_append_own_none hgd s x 38 hop W0.heap.size 60 i0 1 Tryd.underlying38 hi5 V L.length _ hs hout.1 hx ?_
    have := h V w (by simpa using hout)
    exact this
  | some ad =>
    refine wpList_append_own _ hgd s x 38 hop W0.heap.size 60 i0 (.int .u32 0) 1 4 Tryd.underlying38 hi5 hz0 hz1 hz2 rfl (by decide) V L.length (L.map (Value.int .u32)) hs hout.1 ad m c (zs.map (Value.int .u32)) hx (by rw [List.length_map, hr.1, Nat.mul_one]) hr.cells ?_ (by unfold maxLen; omega) (by omega) hout.2.size ?_
    · intro u hu
      obtain ⟨_, _, rfl⟩ := List.mem_map.1 hu
      rfl
    · intro V' w' hown hg _
      refine h V' w' ⟨?_, hout.2.grown hg hout.2.size (fun k hk => (hout.1.lt k hk).1)⟩
      rw [List.length_append, hr.1, List.map_append]
      exact hown

theorem Out32.alloc {W0 wr : World} {V : Value} {L : List Int} (h : Out32 W0 wr V L) (o : Obj) : Out32 W0 (wr.alloc o) V L := h.below ((Below.refl _ _).alloc (Nat.le_refl _) o)

theorem Out32.nilc {W0 wr : World} {a : Option Addr} {n c : Nat} {L : List Int} (h : Out32 W0 wr (.slice a n c) L) : a = none → c = 0 := by
  intro e
  subst e
  rcases h.1.2 with ⟨e, _⟩ | ⟨g, cap, cur, e, _⟩
  · injection e
  · cases e

/-- A new slice of one byte. -/
theorem out_one32 (w : World) (z : Int) : Out32 w (w.alloc (.cells #[.int .u32 z] 60)) (.slice (some ⟨w.heap.size, 0, none⟩) 1 1) [z] :=
  ⟨⟨rfl, .inr ⟨w.heap.size, 1, #[.int .u32 z], rfl, Nat.le_refl _, heap_alloc_new w _, Nat.le_refl _, by unfold maxLen; omega, rfl, rfl⟩⟩, (Below.refl _ _).alloc (Nat.le_refl _) _⟩
/-- A row of the call's own: where it lies. -/
theorem Out32.form {W0 wr : World} {V : Value} {L : List Int} (h : Out32 W0 wr V L) (h0 : 0 < L.length) : ∃ g cap, V = .slice (some ⟨g, 0, none⟩) L.length cap ∧ W0.heap.size ≤ g := by
  rcases h.1.2 with ⟨_, e⟩ | ⟨g, cap, cur, e, hb, _⟩
  · omega
  · exact ⟨g, cap, e, hb⟩
theorem own_cap32 {w : World} {base n cap m : Nat} {a : Option Addr} {vs : List Value} (h : w.ownsRow base 60 1 (.slice a n cap) m vs) : n ≤ cap := by
  rcases h.2 with ⟨e, _⟩ | ⟨g, cap', cur, e, h1, h2, h3⟩
  · injection e with _ e1 e2
    omega
  · injection e with e0 e1 e2
    omega
theorem Out32.wider {w W0 wr : World} {V : Value} {L : List Int} (h : Out32 W0 wr V L) (hb : Below w.heap.size w W0) : Out32 w wr V L := by
  refine ⟨⟨h.1.1, ?_⟩, Below.step hb h.2⟩
  rcases h.1.2 with h' | ⟨g, cap, cur, e, h1, h2⟩
  · exact .inl h'
  · exact .inr ⟨g, cap, cur, e, Nat.le_trans hb.size h1, h2⟩


end Go.Proofs.YtjhffnoddhlikaaDoor

namespace Go.Proofs.YtjhffnoddhlikaaDoor
open Go.RowKit
set_option linter.unusedVariables false

def leftZ (zs : List Int) (many : Int) : Int := 8 * (zs.length : Int) - many
def FitBits (zs : List Int) (many : Int) : Prop := ¬ many < 0 ∧ ¬ 8 * (zs.length : Int) < many ∧ (zs.length : Int) = (many + 7) / 8
instance (zs : List Int) (many : Int) : Decidable (FitBits zs many) := by unfold FitBits; infer_instance
/-- Bits' answer. -/
def bitsZ (zs : List Int) (many : Int) : T × Int :=
  if FitBits zs many then (if 0 < leftZ zs many ∧ (zs[zs.length - 1]?.getD 0) % 2 ^ (leftZ zs many).toNat ≠ 0 then (zeroT, 1) else (.node 3 (leftZ zs many :: zs) [], 0)) else (zeroT, 1)

set_option maxHeartbeats 4000000 in
set_option maxRecDepth 100000 in
theorem rbits_any (a : Option Addr) (n ca : Nat) (zs : List Int) (many : Int) (w : World) (hr : Row w a n zs) (hn : n ≤ 100000) (hnil : a = none → ca = 0) : Calls Tryd.prog 26 #[.slice a n ca, .int .i64 many] w (GivesNodeE (bitsZ zs many) w) := by
  have S0 := Lib.hid (RB.start w)
  have R0 := Lib.hid (hr.below S0.out.below)
  have HL := Lib.hid hr.1
  have HB := Lib.hid hr.2.1
  have NI := Lib.hid hnil
  clear hr hnil
  have FB : FitBits zs many ↔ (¬ many < 0 ∧ ¬ 8 * (n : Int) < many ∧ (n : Int) = (many + 7) / 8) := by unfold FitBits; rw [HL.out]
  go_enter Tryd.func26, Tryd.ntmps26
  by_cases hfit : FitBits zs many
  rotate_left
  · have F : Hid (bitsZ zs many = (.node 0 [] [], 1)) := if_neg hfit
    rw [FB] at hfit
    have RN := Lib.hid (Row.nil (w.alloc (.cells #[.int .i64 0, .slice none 0 0, .slice none 0 0] 26)))
    by_cases h1 : many < 0
    · go_wp2_with fail
      exact gives_ate (zs := []) (c := 0) F.out rfl rfl rfl S0.out.box S0.out.below (RN.out _) (fun h => absurd h (by simp)) (fun _ => rfl) rfl (by simp)
    by_cases h2 : 8 * (n : Int) < many
    · go_wp2_with fail
      exact gives_ate (zs := []) (c := 0) F.out rfl rfl rfl S0.out.box S0.out.below (RN.out _) (fun h => absurd h (by simp)) (fun _ => rfl) rfl (by simp)
    have h3 : ¬ (n : Int) = (many + 7) / 8 := fun h => hfit ⟨h1, h2, h⟩
    have t3 : ((n : Int) != (many + 7) / 8) = true := by simpa using h3
    go_wp2_with fail
    exact gives_ate (zs := []) (c := 0) F.out rfl rfl rfl S0.out.box S0.out.below (RN.out _) (fun h => absurd h (by simp)) (fun _ => rfl) rfl (by simp)
  have BZ : Hid (bitsZ zs many = if 0 < leftZ zs many ∧ (zs[zs.length - 1]?.getD 0) % 2 ^ (leftZ zs many).toNat ≠ 0 then (zeroT, 1) else (.node 3 (leftZ zs many :: zs) [], 0)) := if_pos hfit
  rw [FB] at hfit
  clear FB
  obtain ⟨h1, h2, h3⟩ := hfit
  have t3 : ((n : Int) != (many + 7) / 8) = false := by simpa using h3
  have LZ : Hid (leftZ zs many = 8 * (n : Int) - many) := by unfold leftZ; rw [HL.out]; exact Lib.hid rfl
  have hq : 8 * (n : Int) - many = 0 ∨ 8 * (n : Int) - many = 1 ∨ 8 * (n : Int) - many = 2 ∨ 8 * (n : Int) - many = 3 ∨ 8 * (n : Int) - many = 4 ∨ 8 * (n : Int) - many = 5 ∨ 8 * (n : Int) - many = 6 ∨ 8 * (n : Int) - many = 7 := by omega
  have H3 := Lib.hid h3
  clear h3
  rcases hq with hq | hq | hq | hq | hq | hq | hq | hq
  · have F : Hid (bitsZ zs many = (.node 3 (0 :: zs) [], 0)) := by rw [BZ.out, LZ.out, hq]; simp [Hid]
    clear BZ LZ
    go_wp2_with fail
    generalize hw0 : w.alloc (.cells #[.int .i64 0, .slice none 0 0, .slice none 0 0] 26) = w0 at *
    have hlt0 : w.heap.size < w0.heap.size := S0.out.box.lt
    clear hw0
    refine wp_region_ord Ext Ext.refl (fun _ _ _ => Ext.trans) ((0, false) :: (1, false) :: (2, false) :: (3, false) :: (4, false) :: (5, false) :: (6, false) :: (7, false) :: (8, false) :: (9, false) :: (10, false) :: (11, false) :: (12, false) :: (13, false) :: []) (by kernel_rfl) (by kernel_rfl) rfl (by kernel_rfl) (fun _ _ _ _ _ h => h) ?_
    repeat (first | (refine ord_take _ rfl (by rfl) (fun W hW => by go_simp; first | done | rfl) ?_; simp only [Act.put, List.setIfInBounds_toArray, List.set_cons_zero, List.set_cons_succ]) | (refine ord_skip rfl (by rfl) ?_; simp only [Act.put, List.setIfInBounds_toArray, List.set_cons_zero, List.set_cons_succ]))
    refine ord_end ?_
    have E1 : Hid (Ext w0 w0.drew) := Ext.drew (Ext.refl w0)
    generalize w0.drew = w1 at E1 ⊢
    have R1 := Lib.hid (R0.out.below E1.out)
    have S1 := Lib.hid (S0.out.go E1.out)
    have hlt1 : w.heap.size < w1.heap.size := S1.out.box.lt
    clear R0 S0 E1 hlt0
    have O3 := Lib.hid (out_one w1 0)
    have R3 := Lib.hid (R1.out.below ((Below.refl w1.heap.size w1).alloc (Nat.le_refl _) (.cells #[.int .u8 0] 5)))
    go_wp2_with (at_builtin; go_must (refine out_append (W0 := w1) (L := [0]) (zs := zs) rfl _ _ rfl rfl O3.out rfl R3.out NI.out (by simp; omega) ?_; intro V4 w4 ho4; have O4 := Lib.hid ho4; have S4 := Lib.hid (S1.out.go ho4.2); obtain ⟨p0, p1, p2, f0, f1, f2⟩ := S4.out.box.six; obtain ⟨b4, c4, rfl, hr4⟩ := ho4.row (by intro y hy; rcases List.mem_cons.1 hy with rfl | hy; omega; exact HB.out y hy); have R4 := Lib.hid hr4; clear ho4 hr4))
    exact gives_leafe (zs := 0 :: zs) (c := c4) F.out rfl rfl rfl S4.out R4.out (fun h0 => by obtain ⟨b, off, e, hb⟩ := out_off O4.out h0; exact ⟨b, off, e, Nat.lt_of_lt_of_le hlt1 hb⟩) O4.out.nilc rfl (by have := HL.out; simp; omega)
  · obtain ⟨k, rfl⟩ : ∃ k, n = k + 1 := ⟨n - 1, by have := H3.out; omega⟩
    obtain ⟨b, off, rfl, hbl, hc⟩ := R0.out.2.2 (by omega)
    have l0 := cell_later (hc k (by omega))
    have z0 := R0.out.byte k
    have BQ : Hid (bitsZ zs many = if zs[k]?.getD 0 % 2 ≠ 0 then (zeroT, 1) else (.node 3 (1 :: zs) [], 0)) := by rw [BZ.out, LZ.out, hq, HL.out]; simp [Hid]
    clear BZ LZ hc hbl
    generalize zs[k]?.getD 0 = x at *
    have hq2 : 8 * ((k : Int) + 1) - many = 1 := by omega
    have h22 : ¬ 8 * ((k : Int) + 1) < many := by omega
    have t33 : ((k : Int) + 1 != (many + 7) / 8) = false := t3
    have wk : IntKind.i64.wrap (k : Int) = k := IntWalk.i64_in _ (by omega)
    have kk : (k : Int) < (k : Int) + 1 := by omega
    have w8 : IntKind.u8.wrap 2 = 2 := IntWalk.u8_in _ (by omega)
    have tm : x.tmod 2 = x % 2 := Int.tmod_eq_emod_of_nonneg z0.1
    clear hq h2 t3
    go_wp2_with fail
    generalize hw0 : w.alloc (.cells #[.int .i64 0, .slice none 0 0, .slice none 0 0] 26) = w0 at *
    have hlt0 : w.heap.size < w0.heap.size := S0.out.box.lt
    clear hw0
    by_cases hx : x % 2 = 0
    · have F : Hid (bitsZ zs many = (.node 3 (1 :: zs) [], 0)) := by rw [BQ.out, if_neg (by simpa using hx)]; exact Lib.hid rfl
      clear BQ
      refine wp_region_ord Ext Ext.refl (fun _ _ _ => Ext.trans) ((0, false) :: (1, false) :: (2, false) :: (3, false) :: (4, false) :: (5, false) :: (6, false) :: (7, false) :: (8, false) :: (9, false) :: (10, false) :: (11, false) :: (12, false) :: (13, false) :: []) (by kernel_rfl) (by kernel_rfl) rfl (by kernel_rfl) (fun _ _ _ _ _ h => h) ?_
      repeat (first | (refine ord_take _ rfl (by rfl) (fun W hW => by go_simp; first | done | rfl) ?_; simp only [Act.put, List.setIfInBounds_toArray, List.set_cons_zero, List.set_cons_succ]) | (refine ord_skip rfl (by rfl) ?_; simp only [Act.put, List.setIfInBounds_toArray, List.set_cons_zero, List.set_cons_succ]))
      refine ord_end ?_
      clear l0
      have E1 : Hid (Ext w0 w0.drew) := Ext.drew (Ext.refl w0)
      generalize w0.drew = w1 at E1 ⊢
      have R1 := Lib.hid (R0.out.below E1.out)
      have S1 := Lib.hid (S0.out.go E1.out)
      have hlt1 : w.heap.size < w1.heap.size := S1.out.box.lt
      clear R0 S0 E1 hlt0
      have O3 := Lib.hid (out_one w1 1)
      have R3 := Lib.hid (R1.out.below ((Below.refl w1.heap.size w1).alloc (Nat.le_refl _) (.cells #[.int .u8 1] 5)))
      go_wp2_with (at_builtin; go_must (refine out_append (W0 := w1) (L := [1]) (zs := zs) rfl _ _ rfl rfl O3.out rfl R3.out NI.out (by simp; omega) ?_; intro V4 w4 ho4; have O4 := Lib.hid ho4; have S4 := Lib.hid (S1.out.go ho4.2); obtain ⟨p0, p1, p2, f0, f1, f2⟩ := S4.out.box.six; obtain ⟨b4, c4, rfl, hr4⟩ := ho4.row (by intro y hy; rcases List.mem_cons.1 hy with rfl | hy; omega; exact HB.out y hy); have R4 := Lib.hid hr4; clear ho4 hr4))
      exact gives_leafe (zs := 1 :: zs) (c := c4) F.out rfl rfl rfl S4.out R4.out (fun h0 => by obtain ⟨b, off, e, hb⟩ := out_off O4.out h0; exact ⟨b, off, e, Nat.lt_of_lt_of_le hlt1 hb⟩) O4.out.nilc rfl (by have := HL.out; simp; omega)
    · have F : Hid (bitsZ zs many = (.node 0 [] [], 1)) := by rw [BQ.out, if_pos (by simpa using hx)]; exact Lib.hid rfl
      have tx : (x % 2 != 0) = true := by simpa using hx
      clear BQ
      have RN := Lib.hid (Row.nil w0.drew)
      have S4 := Lib.hid (S0.out.go (Ext.drew (Ext.refl w0)))
      refine wp_region_ord Ext Ext.refl (fun _ _ _ => Ext.trans) ((0, false) :: (1, false) :: (2, false) :: (3, false) :: (4, false) :: (5, false) :: (6, false) :: (7, false) :: (8, false) :: (9, false) :: (10, false) :: (11, false) :: (12, false) :: (13, false) :: []) (by kernel_rfl) (by kernel_rfl) rfl (by kernel_rfl) (fun _ _ _ _ _ h => h) ?_
      repeat (first | (refine ord_take _ rfl (by rfl) (fun W hW => by go_simp; first | done | rfl) ?_; simp only [Act.put, List.setIfInBounds_toArray, List.set_cons_zero, List.set_cons_succ]) | (refine ord_skip rfl (by rfl) ?_; simp only [Act.put, List.setIfInBounds_toArray, List.set_cons_zero, List.set_cons_succ]))
      refine ord_end ?_
      clear l0
      generalize w0.drew = w1 at S4 RN ⊢
      obtain ⟨p0, p1, p2, f0, f1, f2⟩ := S4.out.box.six
      go_wp2_with fail
      exact gives_leafe (zs := []) (c := 0) F.out rfl rfl rfl S4.out (RN.out _) (fun h => absurd h (by simp)) (fun _ => rfl) rfl (by simp)
  · obtain ⟨k, rfl⟩ : ∃ k, n = k + 1 := ⟨n - 1, by have := H3.out; omega⟩
    obtain ⟨b, off, rfl, hbl, hc⟩ := R0.out.2.2 (by omega)
    have l0 := cell_later (hc k (by omega))
    have z0 := R0.out.byte k
    have BQ : Hid (bitsZ zs many = if zs[k]?.getD 0 % 4 ≠ 0 then (zeroT, 1) else (.node 3 (2 :: zs) [], 0)) := by rw [BZ.out, LZ.out, hq, HL.out]; simp [Hid]
    clear BZ LZ hc hbl
    generalize zs[k]?.getD 0 = x at *
    have hq2 : 8 * ((k : Int) + 1) - many = 2 := by omega
    have h22 : ¬ 8 * ((k : Int) + 1) < many := by omega
    have t33 : ((k : Int) + 1 != (many + 7) / 8) = false := t3
    have wk : IntKind.i64.wrap (k : Int) = k := IntWalk.i64_in _ (by omega)
    have kk : (k : Int) < (k : Int) + 1 := by omega
    have w8 : IntKind.u8.wrap 4 = 4 := IntWalk.u8_in _ (by omega)
    have tm : x.tmod 4 = x % 4 := Int.tmod_eq_emod_of_nonneg z0.1
    clear hq h2 t3
    go_wp2_with fail
    generalize hw0 : w.alloc (.cells #[.int .i64 0, .slice none 0 0, .slice none 0 0] 26) = w0 at *
    have hlt0 : w.heap.size < w0.heap.size := S0.out.box.lt
    clear hw0
    by_cases hx : x % 4 = 0
    · have F : Hid (bitsZ zs many = (.node 3 (2 :: zs) [], 0)) := by rw [BQ.out, if_neg (by simpa using hx)]; exact Lib.hid rfl
      clear BQ
      refine wp_region_ord Ext Ext.refl (fun _ _ _ => Ext.trans) ((0, false) :: (1, false) :: (2, false) :: (3, false) :: (4, false) :: (5, false) :: (6, false) :: (7, false) :: (8, false) :: (9, false) :: (10, false) :: (11, false) :: (12, false) :: (13, false) :: []) (by kernel_rfl) (by kernel_rfl) rfl (by kernel_rfl) (fun _ _ _ _ _ h => h) ?_
      repeat (first | (refine ord_take _ rfl (by rfl) (fun W hW => by go_simp; first | done | rfl) ?_; simp only [Act.put, List.setIfInBounds_toArray, List.set_cons_zero, List.set_cons_succ]) | (refine ord_skip rfl (by rfl) ?_; simp only [Act.put, List.setIfInBounds_toArray, List.set_cons_zero, List.set_cons_succ]))
      refine ord_end ?_
      clear l0
      have E1 : Hid (Ext w0 w0.drew) := Ext.drew (Ext.refl w0)
      generalize w0.drew = w1 at E1 ⊢
      have R1 := Lib.hid (R0.out.below E1.out)
      have S1 := Lib.hid (S0.out.go E1.out)
      have hlt1 : w.heap.size < w1.heap.size := S1.out.box.lt
      clear R0 S0 E1 hlt0
      have O3 := Lib.hid (out_one w1 2)
      have R3 := Lib.hid (R1.out.below ((Below.refl w1.heap.size w1).alloc (Nat.le_refl _) (.cells #[.int .u8 2] 5)))
      go_wp2_with (at_builtin; go_must (refine out_append (W0 := w1) (L := [2]) (zs := zs) rfl _ _ rfl rfl O3.out rfl R3.out NI.out (by simp; omega) ?_; intro V4 w4 ho4; have O4 := Lib.hid ho4; have S4 := Lib.hid (S1.out.go ho4.2); obtain ⟨p0, p1, p2, f0, f1, f2⟩ := S4.out.box.six; obtain ⟨b4, c4, rfl, hr4⟩ := ho4.row (by intro y hy; rcases List.mem_cons.1 hy with rfl | hy; omega; exact HB.out y hy); have R4 := Lib.hid hr4; clear ho4 hr4))
      exact gives_leafe (zs := 2 :: zs) (c := c4) F.out rfl rfl rfl S4.out R4.out (fun h0 => by obtain ⟨b, off, e, hb⟩ := out_off O4.out h0; exact ⟨b, off, e, Nat.lt_of_lt_of_le hlt1 hb⟩) O4.out.nilc rfl (by have := HL.out; simp; omega)
    · have F : Hid (bitsZ zs many = (.node 0 [] [], 1)) := by rw [BQ.out, if_pos (by simpa using hx)]; exact Lib.hid rfl
      have tx : (x % 4 != 0) = true := by simpa using hx
      clear BQ
      have RN := Lib.hid (Row.nil w0.drew)
      have S4 := Lib.hid (S0.out.go (Ext.drew (Ext.refl w0)))
      refine wp_region_ord Ext Ext.refl (fun _ _ _ => Ext.trans) ((0, false) :: (1, false) :: (2, false) :: (3, false) :: (4, false) :: (5, false) :: (6, false) :: (7, false) :: (8, false) :: (9, false) :: (10, false) :: (11, false) :: (12, false) :: (13, false) :: []) (by kernel_rfl) (by kernel_rfl) rfl (by kernel_rfl) (fun _ _ _ _ _ h => h) ?_
      repeat (first | (refine ord_take _ rfl (by rfl) (fun W hW => by go_simp; first | done | rfl) ?_; simp only [Act.put, List.setIfInBounds_toArray, List.set_cons_zero, List.set_cons_succ]) | (refine ord_skip rfl (by rfl) ?_; simp only [Act.put, List.setIfInBounds_toArray, List.set_cons_zero, List.set_cons_succ]))
      refine ord_end ?_
      clear l0
      generalize w0.drew = w1 at S4 RN ⊢
      obtain ⟨p0, p1, p2, f0, f1, f2⟩ := S4.out.box.six
      go_wp2_with fail
      exact gives_leafe (zs := []) (c := 0) F.out rfl rfl rfl S4.out (RN.out _) (fun h => absurd h (by simp)) (fun _ => rfl) rfl (by simp)
  · obtain ⟨k, rfl⟩ : ∃ k, n = k + 1 := ⟨n - 1, by have := H3.out; omega⟩
    obtain ⟨b, off, rfl, hbl, hc⟩ := R0.out.2.2 (by omega)
    have l0 := cell_later (hc k (by omega))
    have z0 := R0.out.byte k
    have BQ : Hid (bitsZ zs many = if zs[k]?.getD 0 % 8 ≠ 0 then (zeroT, 1) else (.node 3 (3 :: zs) [], 0)) := by rw [BZ.out, LZ.out, hq, HL.out]; simp [Hid]
    clear BZ LZ hc hbl
    generalize zs[k]?.getD 0 = x at *
    have hq2 : 8 * ((k : Int) + 1) - many = 3 := by omega
    have h22 : ¬ 8 * ((k : Int) + 1) < many := by omega
    have t33 : ((k : Int) + 1 != (many + 7) / 8) = false := t3
    have wk : IntKind.i64.wrap (k : Int) = k := IntWalk.i64_in _ (by omega)
    have kk : (k : Int) < (k : Int) + 1 := by omega
    have w8 : IntKind.u8.wrap 8 = 8 := IntWalk.u8_in _ (by omega)
    have tm : x.tmod 8 = x % 8 := Int.tmod_eq_emod_of_nonneg z0.1
    clear hq h2 t3
    go_wp2_with fail
    generalize hw0 : w.alloc (.cells #[.int .i64 0, .slice none 0 0, .slice none 0 0] 26) = w0 at *
    have hlt0 : w.heap.size < w0.heap.size := S0.out.box.lt
    clear hw0
    by_cases hx : x % 8 = 0
    · have F : Hid (bitsZ zs many = (.node 3 (3 :: zs) [], 0)) := by rw [BQ.out, if_neg (by simpa using hx)]; exact Lib.hid rfl
      clear BQ
      refine wp_region_ord Ext Ext.refl (fun _ _ _ => Ext.trans) ((0, false) :: (1, false) :: (2, false) :: (3, false) :: (4, false) :: (5, false) :: (6, false) :: (7, false) :: (8, false) :: (9, false) :: (10, false) :: (11, false) :: (12, false) :: (13, false) :: []) (by kernel_rfl) (by kernel_rfl) rfl (by kernel_rfl) (fun _ _ _ _ _ h => h) ?_
      repeat (first | (refine ord_take _ rfl (by rfl) (fun W hW => by go_simp; first | done | rfl) ?_; simp only [Act.put, List.setIfInBounds_toArray, List.set_cons_zero, List.set_cons_succ]) | (refine ord_skip rfl (by rfl) ?_; simp only [Act.put, List.setIfInBounds_toArray, List.set_cons_zero, List.set_cons_succ]))
      refine ord_end ?_
      clear l0
      have E1 : Hid (Ext w0 w0.drew) := Ext.drew (Ext.refl w0)
      generalize w0.drew = w1 at E1 ⊢
      have R1 := Lib.hid (R0.out.below E1.out)
      have S1 := Lib.hid (S0.out.go E1.out)
      have hlt1 : w.heap.size < w1.heap.size := S1.out.box.lt
      clear R0 S0 E1 hlt0
      have O3 := Lib.hid (out_one w1 3)
      have R3 := Lib.hid (R1.out.below ((Below.refl w1.heap.size w1).alloc (Nat.le_refl _) (.cells #[.int .u8 3] 5)))
      go_wp2_with (at_builtin; go_must (refine out_append (W0 := w1) (L := [3]) (zs := zs) rfl _ _ rfl rfl O3.out rfl R3.out NI.out (by simp; omega) ?_; intro V4 w4 ho4; have O4 := Lib.hid ho4; have S4 := Lib.hid (S1.out.go ho4.2); obtain ⟨p0, p1, p2, f0, f1, f2⟩ := S4.out.box.six; obtain ⟨b4, c4, rfl, hr4⟩ := ho4.row (by intro y hy; rcases List.mem_cons.1 hy with rfl | hy; omega; exact HB.out y hy); have R4 := Lib.hid hr4; clear ho4 hr4))
      exact gives_leafe (zs := 3 :: zs) (c := c4) F.out rfl rfl rfl S4.out R4.out (fun h0 => by obtain ⟨b, off, e, hb⟩ := out_off O4.out h0; exact ⟨b, off, e, Nat.lt_of_lt_of_le hlt1 hb⟩) O4.out.nilc rfl (by have := HL.out; simp; omega)
    · have F : Hid (bitsZ zs many = (.node 0 [] [], 1)) := by rw [BQ.out, if_pos (by simpa using hx)]; exact Lib.hid rfl
      have tx : (x % 8 != 0) = true := by simpa using hx
      clear BQ
      have RN := Lib.hid (Row.nil w0.drew)
      have S4 := Lib.hid (S0.out.go (Ext.drew (Ext.refl w0)))
      refine wp_region_ord Ext Ext.refl (fun _ _ _ => Ext.trans) ((0, false) :: (1, false) :: (2, false) :: (3, false) :: (4, false) :: (5, false) :: (6, false) :: (7, false) :: (8, false) :: (9, false) :: (10, false) :: (11, false) :: (12, false) :: (13, false) :: []) (by kernel_rfl) (by kernel_rfl) rfl (by kernel_rfl) (fun _ _ _ _ _ h => h) ?_
      repeat (first | (refine ord_take _ rfl (by rfl) (fun W hW => by go_simp; first | done | rfl) ?_; simp only [Act.put, List.setIfInBounds_toArray, List.set_cons_zero, List.set_cons_succ]) | (refine ord_skip rfl (by rfl) ?_; simp only [Act.put, List.setIfInBounds_toArray, List.set_cons_zero, List.set_cons_succ]))
      refine ord_end ?_
      clear l0
      generalize w0.drew = w1 at S4 RN ⊢
      obtain ⟨p0, p1, p2, f0, f1, f2⟩ := S4.out.box.six
      go_wp2_with fail
      exact gives_leafe (zs := []) (c := 0) F.out rfl rfl rfl S4.out (RN.out _) (fun h => absurd h (by simp)) (fun _ => rfl) rfl (by simp)
  · obtain ⟨k, rfl⟩ : ∃ k, n = k + 1 := ⟨n - 1, by have := H3.out; omega⟩
    obtain ⟨b, off, rfl, hbl, hc⟩ := R0.out.2.2 (by omega)
    have l0 := cell_later (hc k (by omega))
    have z0 := R0.out.byte k
    have BQ : Hid (bitsZ zs many = if zs[k]?.getD 0 % 16 ≠ 0 then (zeroT, 1) else (.node 3 (4 :: zs) [], 0)) := by rw [BZ.out, LZ.out, hq, HL.out]; simp [Hid]
    clear BZ LZ hc hbl
    generalize zs[k]?.getD 0 = x at *
    have hq2 : 8 * ((k : Int) + 1) - many = 4 := by omega
    have h22 : ¬ 8 * ((k : Int) + 1) < many := by omega
    have t33 : ((k : Int) + 1 != (many + 7) / 8) = false := t3
    have wk : IntKind.i64.wrap (k : Int) = k := IntWalk.i64_in _ (by omega)
    have kk : (k : Int) < (k : Int) + 1 := by omega
    have w8 : IntKind.u8.wrap 16 = 16 := IntWalk.u8_in _ (by omega)
    have tm : x.tmod 16 = x % 16 := Int.tmod_eq_emod_of_nonneg z0.1
    clear hq h2 t3
    go_wp2_with fail
    generalize hw0 : w.alloc (.cells #[.int .i64 0, .slice none 0 0, .slice none 0 0] 26) = w0 at *
    have hlt0 : w.heap.size < w0.heap.size := S0.out.box.lt
    clear hw0
    by_cases hx : x % 16 = 0
    · have F : Hid (bitsZ zs many = (.node 3 (4 :: zs) [], 0)) := by rw [BQ.out, if_neg (by simpa using hx)]; exact Lib.hid rfl
      clear BQ
      refine wp_region_ord Ext Ext.refl (fun _ _ _ => Ext.trans) ((0, false) :: (1, false) :: (2, false) :: (3, false) :: (4, false) :: (5, false) :: (6, false) :: (7, false) :: (8, false) :: (9, false) :: (10, false) :: (11, false) :: (12, false) :: (13, false) :: []) (by kernel_rfl) (by kernel_rfl) rfl (by kernel_rfl) (fun _ _ _ _ _ h => h) ?_
      repeat (first | (refine ord_take _ rfl (by rfl) (fun W hW => by go_simp; first | done | rfl) ?_; simp only [Act.put, List.setIfInBounds_toArray, List.set_cons_zero, List.set_cons_succ]) | (refine ord_skip rfl (by rfl) ?_; simp only [Act.put, List.setIfInBounds_toArray, List.set_cons_zero, List.set_cons_succ]))
      refine ord_end ?_
      clear l0
      have E1 : Hid (Ext w0 w0.drew) := Ext.drew (Ext.refl w0)
      generalize w0.drew = w1 at E1 ⊢
      have R1 := Lib.hid (R0.out.below E1.out)
      have S1 := Lib.hid (S0.out.go E1.out)
      have hlt1 : w.heap.size < w1.heap.size := S1.out.box.lt
      clear R0 S0 E1 hlt0
      have O3 := Lib.hid (out_one w1 4)
      have R3 := Lib.hid (R1.out.below ((Below.refl w1.heap.size w1).alloc (Nat.le_refl _) (.cells #[.int .u8 4] 5)))
      go_wp2_with (at_builtin; go_must (refine out_append (W0 := w1) (L := [4]) (zs := zs) rfl _ _ rfl rfl O3.out rfl R3.out NI.out (by simp; omega) ?_; intro V4 w4 ho4; have O4 := Lib.hid ho4; have S4 := Lib.hid (S1.out.go ho4.2); obtain ⟨p0, p1, p2, f0, f1, f2⟩ := S4.out.box.six; obtain ⟨b4, c4, rfl, hr4⟩ := ho4.row (by intro y hy; rcases List.mem_cons.1 hy with rfl | hy; omega; exact HB.out y hy); have R4 := Lib.hid hr4; clear ho4 hr4))
      exact gives_leafe (zs := 4 :: zs) (c := c4) F.out rfl rfl rfl S4.out R4.out (fun h0 => by obtain ⟨b, off, e, hb⟩ := out_off O4.out h0; exact ⟨b, off, e, Nat.lt_of_lt_of_le hlt1 hb⟩) O4.out.nilc rfl (by have := HL.out; simp; omega)
    · have F : Hid (bitsZ zs many = (.node 0 [] [], 1)) := by rw [BQ.out, if_pos (by simpa using hx)]; exact Lib.hid rfl
      have tx : (x % 16 != 0) = true := by simpa using hx
      clear BQ
      have RN := Lib.hid (Row.nil w0.drew)
      have S4 := Lib.hid (S0.out.go (Ext.drew (Ext.refl w0)))
      refine wp_region_ord Ext Ext.refl (fun _ _ _ => Ext.trans) ((0, false) :: (1, false) :: (2, false) :: (3, false) :: (4, false) :: (5, false) :: (6, false) :: (7, false) :: (8, false) :: (9, false) :: (10, false) :: (11, false) :: (12, false) :: (13, false) :: []) (by kernel_rfl) (by kernel_rfl) rfl (by kernel_rfl) (fun _ _ _ _ _ h => h) ?_
      repeat (first | (refine ord_take _ rfl (by rfl) (fun W hW => by go_simp; first | done | rfl) ?_; simp only [Act.put, List.setIfInBounds_toArray, List.set_cons_zero, List.set_cons_succ]) | (refine ord_skip rfl (by rfl) ?_; simp only [Act.put, List.setIfInBounds_toArray, List.set_cons_zero, List.set_cons_succ]))
      refine ord_end ?_
      clear l0
      generalize w0.drew = w1 at S4 RN ⊢
      obtain ⟨p0, p1, p2, f0, f1, f2⟩ := S4.out.box.six
      go_wp2_with fail
      exact gives_leafe (zs := []) (c := 0) F.out rfl rfl rfl S4.out (RN.out _) (fun h => absurd h (by simp)) (fun _ => rfl) rfl (by simp)
  · obtain ⟨k, rfl⟩ : ∃ k, n = k + 1 := ⟨n - 1, by have := H3.out; omega⟩
    obtain ⟨b, off, rfl, hbl, hc⟩ := R0.out.2.2 (by omega)
    have l0 := cell_later (hc k (by omega))
    have z0 := R0.out.byte k
    have BQ : Hid (bitsZ zs many = if zs[k]?.getD 0 % 32 ≠ 0 then (zeroT, 1) else (.node 3 (5 :: zs) [], 0)) := by rw [BZ.out, LZ.out, hq, HL.out]; simp [Hid]
    clear BZ LZ hc hbl
    generalize zs[k]?.getD 0 = x at *
    have hq2 : 8 * ((k : Int) + 1) - many = 5 := by omega
    have h22 : ¬ 8 * ((k : Int) + 1) < many := by omega
    have t33 : ((k : Int) + 1 != (many + 7) / 8) = false := t3
    have wk : IntKind.i64.wrap (k : Int) = k := IntWalk.i64_in _ (by omega)
    have kk : (k : Int) < (k : Int) + 1 := by omega
    have w8 : IntKind.u8.wrap 32 = 32 := IntWalk.u8_in _ (by omega)
    have tm : x.tmod 32 = x % 32 := Int.tmod_eq_emod_of_nonneg z0.1
    clear hq h2 t3
    go_wp2_with fail
    generalize hw0 : w.alloc (.cells #[.int .i64 0, .slice none 0 0, .slice none 0 0] 26) = w0 at *
    have hlt0 : w.heap.size < w0.heap.size := S0.out.box.lt
    clear hw0
    by_cases hx : x % 32 = 0
    · have F : Hid (bitsZ zs many = (.node 3 (5 :: zs) [], 0)) := by rw [BQ.out, if_neg (by simpa using hx)]; exact Lib.hid rfl
      clear BQ
      refine wp_region_ord Ext Ext.refl (fun _ _ _ => Ext.trans) ((0, false) :: (1, false) :: (2, false) :: (3, false) :: (4, false) :: (5, false) :: (6, false) :: (7, false) :: (8, false) :: (9, false) :: (10, false) :: (11, false) :: (12, false) :: (13, false) :: []) (by kernel_rfl) (by kernel_rfl) rfl (by kernel_rfl) (fun _ _ _ _ _ h => h) ?_
      repeat (first | (refine ord_take _ rfl (by rfl) (fun W hW => by go_simp; first | done | rfl) ?_; simp only [Act.put, List.setIfInBounds_toArray, List.set_cons_zero, List.set_cons_succ]) | (refine ord_skip rfl (by rfl) ?_; simp only [Act.put, List.setIfInBounds_toArray, List.set_cons_zero, List.set_cons_succ]))
      refine ord_end ?_
      clear l0
      have E1 : Hid (Ext w0 w0.drew) := Ext.drew (Ext.refl w0)
      generalize w0.drew = w1 at E1 ⊢
      have R1 := Lib.hid (R0.out.below E1.out)
      have S1 := Lib.hid (S0.out.go E1.out)
      have hlt1 : w.heap.size < w1.heap.size := S1.out.box.lt
      clear R0 S0 E1 hlt0
      have O3 := Lib.hid (out_one w1 5)
      have R3 := Lib.hid (R1.out.below ((Below.refl w1.heap.size w1).alloc (Nat.le_refl _) (.cells #[.int .u8 5] 5)))
      go_wp2_with (at_builtin; go_must (refine out_append (W0 := w1) (L := [5]) (zs := zs) rfl _ _ rfl rfl O3.out rfl R3.out NI.out (by simp; omega) ?_; intro V4 w4 ho4; have O4 := Lib.hid ho4; have S4 := Lib.hid (S1.out.go ho4.2); obtain ⟨p0, p1, p2, f0, f1, f2⟩ := S4.out.box.six; obtain ⟨b4, c4, rfl, hr4⟩ := ho4.row (by intro y hy; rcases List.mem_cons.1 hy with rfl | hy; omega; exact HB.out y hy); have R4 := Lib.hid hr4; clear ho4 hr4))
      exact gives_leafe (zs := 5 :: zs) (c := c4) F.out rfl rfl rfl S4.out R4.out (fun h0 => by obtain ⟨b, off, e, hb⟩ := out_off O4.out h0; exact ⟨b, off, e, Nat.lt_of_lt_of_le hlt1 hb⟩) O4.out.nilc rfl (by have := HL.out; simp; omega)
    · have F : Hid (bitsZ zs many = (.node 0 [] [], 1)) := by rw [BQ.out, if_pos (by simpa using hx)]; exact Lib.hid rfl
      have tx : (x % 32 != 0) = true := by simpa using hx
      clear BQ
      have RN := Lib.hid (Row.nil w0.drew)
      have S4 := Lib.hid (S0.out.go (Ext.drew (Ext.refl w0)))
      refine wp_region_ord Ext Ext.refl (fun _ _ _ => Ext.trans) ((0, false) :: (1, false) :: (2, false) :: (3, false) :: (4, false) :: (5, false) :: (6, false) :: (7, false) :: (8, false) :: (9, false) :: (10, false) :: (11, false) :: (12, false) :: (13, false) :: []) (by kernel_rfl) (by kernel_rfl) rfl (by kernel_rfl) (fun _ _ _ _ _ h => h) ?_
      repeat (first | (refine ord_take _ rfl (by rfl) (fun W hW => by go_simp; first | done | rfl) ?_; simp only [Act.put, List.setIfInBounds_toArray, List.set_cons_zero, List.set_cons_succ]) | (refine ord_skip rfl (by rfl) ?_; simp only [Act.put, List.setIfInBounds_toArray, List.set_cons_zero, List.set_cons_succ]))
      refine ord_end ?_
      clear l0
      generalize w0.drew = w1 at S4 RN ⊢
      obtain ⟨p0, p1, p2, f0, f1, f2⟩ := S4.out.box.six
      go_wp2_with fail
      exact gives_leafe (zs := []) (c := 0) F.out rfl rfl rfl S4.out (RN.out _) (fun h => absurd h (by simp)) (fun _ => rfl) rfl (by simp)
  · obtain ⟨k, rfl⟩ : ∃ k, n = k + 1 := ⟨n - 1, by have := H3.out; omega⟩
    obtain ⟨b, off, rfl, hbl, hc⟩ := R0.out.2.2 (by omega)
    have l0 := cell_later (hc k (by omega))
    have z0 := R0.out.byte k
    have BQ : Hid (bitsZ zs many = if zs[k]?.getD 0 % 64 ≠ 0 then (zeroT, 1) else (.node 3 (6 :: zs) [], 0)) := by rw [BZ.out, LZ.out, hq, HL.out]; simp [Hid]
    clear BZ LZ hc hbl
    generalize zs[k]?.getD 0 = x at *
    have hq2 : 8 * ((k : Int) + 1) - many = 6 := by omega
    have h22 : ¬ 8 * ((k : Int) + 1) < many := by omega
    have t33 : ((k : Int) + 1 != (many + 7) / 8) = false := t3
    have wk : IntKind.i64.wrap (k : Int) = k := IntWalk.i64_in _ (by omega)
    have kk : (k : Int) < (k : Int) + 1 := by omega
    have w8 : IntKind.u8.wrap 64 = 64 := IntWalk.u8_in _ (by omega)
    have tm : x.tmod 64 = x % 64 := Int.tmod_eq_emod_of_nonneg z0.1
    clear hq h2 t3
    go_wp2_with fail
    generalize hw0 : w.alloc (.cells #[.int .i64 0, .slice none 0 0, .slice none 0 0] 26) = w0 at *
    have hlt0 : w.heap.size < w0.heap.size := S0.out.box.lt
    clear hw0
    by_cases hx : x % 64 = 0
    · have F : Hid (bitsZ zs many = (.node 3 (6 :: zs) [], 0)) := by rw [BQ.out, if_neg (by simpa using hx)]; exact Lib.hid rfl
      clear BQ
      refine wp_region_ord Ext Ext.refl (fun _ _ _ => Ext.trans) ((0, false) :: (1, false) :: (2, false) :: (3, false) :: (4, false) :: (5, false) :: (6, false) :: (7, false) :: (8, false) :: (9, false) :: (10, false) :: (11, false) :: (12, false) :: (13, false) :: []) (by kernel_rfl) (by kernel_rfl) rfl (by kernel_rfl) (fun _ _ _ _ _ h => h) ?_
      repeat (first | (refine ord_take _ rfl (by rfl) (fun W hW => by go_simp; first | done | rfl) ?_; simp only [Act.put, List.setIfInBounds_toArray, List.set_cons_zero, List.set_cons_succ]) | (refine ord_skip rfl (by rfl) ?_; simp only [Act.put, List.setIfInBounds_toArray, List.set_cons_zero, List.set_cons_succ]))
      refine ord_end ?_
      clear l0
      have E1 : Hid (Ext w0 w0.drew) := Ext.drew (Ext.refl w0)
      generalize w0.drew = w1 at E1 ⊢
      have R1 := Lib.hid (R0.out.below E1.out)
      have S1 := Lib.hid (S0.out.go E1.out)
      have hlt1 : w.heap.size < w1.heap.size := S1.out.box.lt
      clear R0 S0 E1 hlt0
      have O3 := Lib.hid (out_one w1 6)
      have R3 := Lib.hid (R1.out.below ((Below.refl w1.heap.size w1).alloc (Nat.le_refl _) (.cells #[.int .u8 6] 5)))
      go_wp2_with (at_builtin; go_must (refine out_append (W0 := w1) (L := [6]) (zs := zs) rfl _ _ rfl rfl O3.out rfl R3.out NI.out (by simp; omega) ?_; intro V4 w4 ho4; have O4 := Lib.hid ho4; have S4 := Lib.hid (S1.out.go ho4.2); obtain ⟨p0, p1, p2, f0, f1, f2⟩ := S4.out.box.six; obtain ⟨b4, c4, rfl, hr4⟩ := ho4.row (by intro y hy; rcases List.mem_cons.1 hy with rfl | hy; omega; exact HB.out y hy); have R4 := Lib.hid hr4; clear ho4 hr4))
      exact gives_leafe (zs := 6 :: zs) (c := c4) F.out rfl rfl rfl S4.out R4.out (fun h0 => by obtain ⟨b, off, e, hb⟩ := out_off O4.out h0; exact ⟨b, off, e, Nat.lt_of_lt_of_le hlt1 hb⟩) O4.out.nilc rfl (by have := HL.out; simp; omega)
    · have F : Hid (bitsZ zs many = (.node 0 [] [], 1)) := by rw [BQ.out, if_pos (by simpa using hx)]; exact Lib.hid rfl
      have tx : (x % 64 != 0) = true := by simpa using hx
      clear BQ
      have RN := Lib.hid (Row.nil w0.drew)
      have S4 := Lib.hid (S0.out.go (Ext.drew (Ext.refl w0)))
      refine wp_region_ord Ext Ext.refl (fun _ _ _ => Ext.trans) ((0, false) :: (1, false) :: (2, false) :: (3, false) :: (4, false) :: (5, false) :: (6, false) :: (7, false) :: (8, false) :: (9, false) :: (10, false) :: (11, false) :: (12, false) :: (13, false) :: []) (by kernel_rfl) (by kernel_rfl) rfl (by kernel_rfl) (fun _ _ _ _ _ h => h) ?_
      repeat (first | (refine ord_take _ rfl (by rfl) (fun W hW => by go_simp; first | done | rfl) ?_; simp only [Act.put, List.setIfInBounds_toArray, List.set_cons_zero, List.set_cons_succ]) | (refine ord_skip rfl (by rfl) ?_; simp only [Act.put, List.setIfInBounds_toArray, List.set_cons_zero, List.set_cons_succ]))
      refine ord_end ?_
      clear l0
      generalize w0.drew = w1 at S4 RN ⊢
      obtain ⟨p0, p1, p2, f0, f1, f2⟩ := S4.out.box.six
      go_wp2_with fail
      exact gives_leafe (zs := []) (c := 0) F.out rfl rfl rfl S4.out (RN.out _) (fun h => absurd h (by simp)) (fun _ => rfl) rfl (by simp)
  · obtain ⟨k, rfl⟩ : ∃ k, n = k + 1 := ⟨n - 1, by have := H3.out; omega⟩
    obtain ⟨b, off, rfl, hbl, hc⟩ := R0.out.2.2 (by omega)
    have l0 := cell_later (hc k (by omega))
    have z0 := R0.out.byte k
    have BQ : Hid (bitsZ zs many = if zs[k]?.getD 0 % 128 ≠ 0 then (zeroT, 1) else (.node 3 (7 :: zs) [], 0)) := by rw [BZ.out, LZ.out, hq, HL.out]; simp [Hid]
    clear BZ LZ hc hbl
    generalize zs[k]?.getD 0 = x at *
    have hq2 : 8 * ((k : Int) + 1) - many = 7 := by omega
    have h22 : ¬ 8 * ((k : Int) + 1) < many := by omega
    have t33 : ((k : Int) + 1 != (many + 7) / 8) = false := t3
    have wk : IntKind.i64.wrap (k : Int) = k := IntWalk.i64_in _ (by omega)
    have kk : (k : Int) < (k : Int) + 1 := by omega
    have w8 : IntKind.u8.wrap 128 = 128 := IntWalk.u8_in _ (by omega)
    have tm : x.tmod 128 = x % 128 := Int.tmod_eq_emod_of_nonneg z0.1
    clear hq h2 t3
    go_wp2_with fail
    generalize hw0 : w.alloc (.cells #[.int .i64 0, .slice none 0 0, .slice none 0 0] 26) = w0 at *
    have hlt0 : w.heap.size < w0.heap.size := S0.out.box.lt
    clear hw0
    by_cases hx : x % 128 = 0
    · have F : Hid (bitsZ zs many = (.node 3 (7 :: zs) [], 0)) := by rw [BQ.out, if_neg (by simpa using hx)]; exact Lib.hid rfl
      clear BQ
      refine wp_region_ord Ext Ext.refl (fun _ _ _ => Ext.trans) ((0, false) :: (1, false) :: (2, false) :: (3, false) :: (4, false) :: (5, false) :: (6, false) :: (7, false) :: (8, false) :: (9, false) :: (10, false) :: (11, false) :: (12, false) :: (13, false) :: []) (by kernel_rfl) (by kernel_rfl) rfl (by kernel_rfl) (fun _ _ _ _ _ h => h) ?_
      repeat (first | (refine ord_take _ rfl (by rfl) (fun W hW => by go_simp; first | done | rfl) ?_; simp only [Act.put, List.setIfInBounds_toArray, List.set_cons_zero, List.set_cons_succ]) | (refine ord_skip rfl (by rfl) ?_; simp only [Act.put, List.setIfInBounds_toArray, List.set_cons_zero, List.set_cons_succ]))
      refine ord_end ?_
      clear l0
      have E1 : Hid (Ext w0 w0.drew) := Ext.drew (Ext.refl w0)
      generalize w0.drew = w1 at E1 ⊢
      have R1 := Lib.hid (R0.out.below E1.out)
      have S1 := Lib.hid (S0.out.go E1.out)
      have hlt1 : w.heap.size < w1.heap.size := S1.out.box.lt
      clear R0 S0 E1 hlt0
      have O3 := Lib.hid (out_one w1 7)
      have R3 := Lib.hid (R1.out.below ((Below.refl w1.heap.size w1).alloc (Nat.le_refl _) (.cells #[.int .u8 7] 5)))
      go_wp2_with (at_builtin; go_must (refine out_append (W0 := w1) (L := [7]) (zs := zs) rfl _ _ rfl rfl O3.out rfl R3.out NI.out (by simp; omega) ?_; intro V4 w4 ho4; have O4 := Lib.hid ho4; have S4 := Lib.hid (S1.out.go ho4.2); obtain ⟨p0, p1, p2, f0, f1, f2⟩ := S4.out.box.six; obtain ⟨b4, c4, rfl, hr4⟩ := ho4.row (by intro y hy; rcases List.mem_cons.1 hy with rfl | hy; omega; exact HB.out y hy); have R4 := Lib.hid hr4; clear ho4 hr4))
      exact gives_leafe (zs := 7 :: zs) (c := c4) F.out rfl rfl rfl S4.out R4.out (fun h0 => by obtain ⟨b, off, e, hb⟩ := out_off O4.out h0; exact ⟨b, off, e, Nat.lt_of_lt_of_le hlt1 hb⟩) O4.out.nilc rfl (by have := HL.out; simp; omega)
    · have F : Hid (bitsZ zs many = (.node 0 [] [], 1)) := by rw [BQ.out, if_pos (by simpa using hx)]; exact Lib.hid rfl
      have tx : (x % 128 != 0) = true := by simpa using hx
      clear BQ
      have RN := Lib.hid (Row.nil w0.drew)
      have S4 := Lib.hid (S0.out.go (Ext.drew (Ext.refl w0)))
      refine wp_region_ord Ext Ext.refl (fun _ _ _ => Ext.trans) ((0, false) :: (1, false) :: (2, false) :: (3, false) :: (4, false) :: (5, false) :: (6, false) :: (7, false) :: (8, false) :: (9, false) :: (10, false) :: (11, false) :: (12, false) :: (13, false) :: []) (by kernel_rfl) (by kernel_rfl) rfl (by kernel_rfl) (fun _ _ _ _ _ h => h) ?_
      repeat (first | (refine ord_take _ rfl (by rfl) (fun W hW => by go_simp; first | done | rfl) ?_; simp only [Act.put, List.setIfInBounds_toArray, List.set_cons_zero, List.set_cons_succ]) | (refine ord_skip rfl (by rfl) ?_; simp only [Act.put, List.setIfInBounds_toArray, List.set_cons_zero, List.set_cons_succ]))
      refine ord_end ?_
      clear l0
      generalize w0.drew = w1 at S4 RN ⊢
      obtain ⟨p0, p1, p2, f0, f1, f2⟩ := S4.out.box.six
      go_wp2_with fail
      exact gives_leafe (zs := []) (c := 0) F.out rfl rfl rfl S4.out (RN.out _) (fun h => absurd h (by simp)) (fun _ => rfl) rfl (by simp)

end Go.Proofs.YtjhffnoddhlikaaDoor

namespace Go.Proofs.YtjhffnoddhlikaaDoor
open Go.RowKit
set_option linter.unusedVariables false

/-- Of's answer. -/
def ofZ (t : T) : List Int × Int × Int :=
  if t.body = [] ∨ 7 < t.body[(0 : Nat)]?.getD 0 then ([], 0, 2)
  else if (bitsZ (t.body.drop 1) (8 * ((t.body.drop 1).length : Int) - t.body[(0 : Nat)]?.getD 0)).2 = 0 ∧ sameT (bitsZ (t.body.drop 1) (8 * ((t.body.drop 1).length : Int) - t.body[(0 : Nat)]?.getD 0)).1 t = true
  then (t.body.drop 1, 8 * ((t.body.drop 1).length : Int) - t.body[(0 : Nat)]?.getD 0, 0) else ([], 0, 2)
def GivesOf (x : List Int × Int × Int) (w : World) (e : Ending) (w' : World) : Prop :=
  ∃ a c, e = .returned (.tuple #[.slice a x.1.length c, .int .i64 x.2.1, .int .i64 x.2.2]) ∧ Row w' a x.1.length x.1 ∧ (a = none → c = 0) ∧ x.1.length ≤ c ∧ Below w.heap.size w w'
theorem gives_of_no {x : List Int × Int × Int} {w w' : World} (h : x = ([], 0, 2)) (hb : Below w.heap.size w w') : GivesOf x w (.returned (.tuple #[.slice none 0 0, .int .i64 0, .int .i64 2])) w' := by
  subst h
  exact ⟨Option.none, 0, rfl, Row.nil _ _, fun _ => rfl, Nat.le_refl _, hb⟩
theorem bits_err (zs : List Int) (many : Int) : (bitsZ zs many).2 = 0 ∨ (bitsZ zs many).2 = 1 := by
  unfold bitsZ
  split
  · split
    · exact .inr rfl
    · exact .inl rfl
  · exact .inr rfl

set_option maxHeartbeats 4000000 in
set_option maxRecDepth 100000 in
theorem rof_any (t : T) (v : Value) (w : World) (hin : t.In w v) (hcap : Capped v) (hwt : t.body.length ≤ 100000) : Calls Tryd.prog 28 #[v] w (GivesOf (ofZ t) w) := by
  obtain ⟨A, n, c, K, m, d, rfl, hw, hr, hn, hc, hm, hm', hks⟩ := hin.open
  have hnc := hcap.is
  have BX := Lib.hid (Box.start hin)
  have GZ : Hid (ofZ t = ofZ t) := rfl
  have HL := Lib.hid hr.1
  have R0 := Lib.hid (hr.below BX.out.below)
  have HB := Lib.hid hr.2.1
  obtain ⟨g0, g1, g2⟩ := BX.out.cells
  have hln := hr.1
  clear hks hin hcap hm hm' hw hn hr
  go_enter Tryd.func28, Tryd.ntmps28
  generalize hw2 : w.alloc (.cells #[.int .i64 t.tag, .slice A n c, .slice K m d] 26) = w2 at *
  by_cases hn0 : n = 0
  · have F : Hid (ofZ t = ([], 0, 2)) := if_pos (.inl (List.eq_nil_of_length_eq_zero (by omega)))
    subst hn0
    go_wp2_with fail
    go_ret3
    exact gives_of_no F.out BX.out.below
  obtain ⟨b, off, rfl, hbl, hcell⟩ := R0.out.2.2 (by omega)
  have c0 := hcell 0 (by omega)
  rw [Nat.add_zero] at c0
  have z0 := R0.out.byte 0
  have hlt2 : w.heap.size < w2.heap.size := BX.out.blk.lt
  clear hcell
  by_cases h7 : 7 < t.body[(0 : Nat)]?.getD 0
  · have F : Hid (ofZ t = ([], 0, 2)) := if_pos (.inr h7)
    generalize t.body[(0 : Nat)]?.getD 0 = x at *
    have t0 : ((n : Int) == 0) = false := by simp; omega
    go_wp2_with fail
    go_ret3
    exact gives_of_no F.out BX.out.below
  have GX : Hid (ofZ t = if (bitsZ (t.body.drop 1) (8 * ((t.body.drop 1).length : Int) - t.body[(0 : Nat)]?.getD 0)).2 = 0 ∧ sameT (bitsZ (t.body.drop 1) (8 * ((t.body.drop 1).length : Int) - t.body[(0 : Nat)]?.getD 0)).1 t = true then (t.body.drop 1, 8 * ((t.body.drop 1).length : Int) - t.body[(0 : Nat)]?.getD 0, 0) else ([], 0, 2)) :=
    if_neg (fun h => by
      rcases h with h | h
      · rw [h] at hln; simp at hln; omega
      · exact h7 h)
  have RW := R0.out.rest 1 c (by omega) hnc
  have hrl : (t.body.drop 1).length = n - 1 := by rw [List.length_drop]; omega
  generalize t.body[(0 : Nat)]?.getD 0 = x at *
  have t0 : ((n : Int) == 0) = false := by simp; omega
  have hby : ∀ y ∈ t.body.drop 1, 0 ≤ y ∧ y ≤ 255 := fun y hy => HB.out y (List.mem_of_mem_drop hy)
  have BY := Lib.hid hby
  generalize t.body.drop 1 = r at *
  have n1 : 1 ≤ n := by omega
  obtain ⟨k, rfl⟩ : ∃ k, n = k + 1 := ⟨n - 1, by omega⟩
  have hrk : r.length = k := by omega
  clear hby hn0 hrl hln
  subst hrk
  have hrb : r.length ≤ 100000 := by have := HL.out; omega
  by_cases hck : c = 1
  · subst hck
    have r0 : r = [] := List.eq_nil_of_length_eq_zero (by omega)
    subst r0
    simp only [List.length_nil, Nat.zero_add] at hw2 g1 t0
    have RX := Lib.hid (Row.nil (w2.alloc (.cells #[] 5)))
    clear RW
    go_wp2_with (at_builtin; go_must (refine out_append (W0 := w2) (L := []) (zs := []) rfl _ _ rfl rfl (out_zero w2) rfl (RX.out _) (fun _ => rfl) (by simp) ?_; intro V1 w3 ho1; rw [List.nil_append] at ho1; have HO := Lib.hid ho1; have B3 := Lib.hid (BX.out.go ho1.2); have c3b := (ho1.2.cell (p := ⟨b, off, none⟩) hbl).trans c0; obtain ⟨b1, c1, rfl, hr1⟩ := ho1.row BY.out; have R3 := Lib.hid hr1; clear g0 g1 g2 c0 ho1 hr1; obtain ⟨g0, g1, g2⟩ := B3.out.cells))
    have GY : Hid (ofZ t = if (bitsZ [] (-x)).2 = 0 ∧ sameT (bitsZ [] (-x)).1 t = true then ([], -x, 0) else ([], 0, 2)) := by have := GX.out; simp at this; exact this
    clear GX
    have CB := Lib.hid (rbits_any b1 0 c1 [] (-x) w3 R3.out (by omega) HO.out.nilc)
    have HE := bits_err [] (-x)
    generalize bitsZ [] (-x) = X at *
    go_wp2_with fail
    refine CB.out.mono ?_
    rintro e w4 ⟨A3, n3, c3, K3, m3, d3, rfl, hin3, hb3⟩
    have B4 := Lib.hid ((B3.out.go hb3).go ((Below.refl w4.heap.size w4).alloc (Nat.le_refl _) (.cells #[.int .i64 X.1.tag, .slice A3 n3 c3, .slice K3 m3 d3] 26)))
    have X4 := Lib.hid (T.In.below ((Below.refl w4.heap.size w4).alloc (Nat.le_refl _) (.cells #[.int .i64 X.1.tag, .slice A3 n3 c3, .slice K3 m3 d3] 26)) X.1 (T.InP.in _ hin3))
    have R4 := Lib.hid ((R3.out.below hb3).below ((Below.refl w4.heap.size w4).alloc (Nat.le_refl _) (.cells #[.int .i64 X.1.tag, .slice A3 n3 c3, .slice K3 m3 d3] 26)))
    clear hin3 hb3 B3 CB g0 g1 g2 c3b
    obtain ⟨g0, g1, g2⟩ := B4.out.cells
    obtain ⟨xt, xe⟩ := X
    rcases HE with rfl | rfl
    · have CS := Lib.hid (same_any xt t _ _ _ X4.out B4.out.has)
      clear X4
      go_wp2_with fail
      refine CS.out.mono ?_
      rintro e w5 ⟨rfl, hb5⟩
      have B5 := Lib.hid (B4.out.go hb5)
      have R5 := Lib.hid (R4.out.below hb5)
      clear hb5 CS B4 g0 g1 g2
      cases hs : sameT xt t
      · have F : Hid (ofZ t = ([], 0, 2)) := by rw [GY.out, hs]; rfl
        clear GY
        go_wp2_with fail
        go_ret3
        exact gives_of_no F.out B5.out.below
      · have F : Hid (ofZ t = ([], -x, 0)) := by rw [GY.out, hs]; rfl
        clear GY
        go_wp2_with fail
        go_ret3
        rw [F.out]
        exact ⟨b1, c1, rfl, R5.out, HO.out.nilc, own_cap HO.out.1, B5.out.below⟩
    · have F : Hid (ofZ t = ([], 0, 2)) := by rw [GY.out]; simp [Hid]
      clear GY
      go_wp2_with fail
      go_ret3
      exact gives_of_no F.out B4.out.below
  · rw [if_neg hck, Option.map_some, Addr.add_lit] at RW
    have RX := Lib.hid (RW.below ((Below.refl w2.heap.size w2).alloc (Nat.le_refl _) (.cells #[] 5)))
    clear RW
    go_wp2_with (at_builtin; go_must (refine out_append (W0 := w2) (L := []) (zs := r) rfl _ _ rfl rfl (out_zero w2) rfl RX.out (fun e => by cases e) (by simp; omega) ?_; intro V1 w3 ho1; rw [List.nil_append] at ho1; have HO := Lib.hid ho1; have B3 := Lib.hid (BX.out.go ho1.2); have c3b := (ho1.2.cell (p := ⟨b, off, none⟩) hbl).trans c0; obtain ⟨b1, c1, rfl, hr1⟩ := ho1.row BY.out; have R3 := Lib.hid hr1; clear g0 g1 g2 c0 ho1 hr1; obtain ⟨g0, g1, g2⟩ := B3.out.cells))
    have CB := Lib.hid (rbits_any b1 r.length c1 r (8 * (r.length : Int) - x) w3 R3.out (by omega) HO.out.nilc)
    have HE := bits_err r (8 * (r.length : Int) - x)
    generalize bitsZ r (8 * (r.length : Int) - x) = X at *
    go_wp2_with fail
    refine CB.out.mono ?_
    rintro e w4 ⟨A3, n3, c3, K3, m3, d3, rfl, hin3, hb3⟩
    have B4 := Lib.hid ((B3.out.go hb3).go ((Below.refl w4.heap.size w4).alloc (Nat.le_refl _) (.cells #[.int .i64 X.1.tag, .slice A3 n3 c3, .slice K3 m3 d3] 26)))
    have X4 := Lib.hid (T.In.below ((Below.refl w4.heap.size w4).alloc (Nat.le_refl _) (.cells #[.int .i64 X.1.tag, .slice A3 n3 c3, .slice K3 m3 d3] 26)) X.1 (T.InP.in _ hin3))
    have R4 := Lib.hid ((R3.out.below hb3).below ((Below.refl w4.heap.size w4).alloc (Nat.le_refl _) (.cells #[.int .i64 X.1.tag, .slice A3 n3 c3, .slice K3 m3 d3] 26)))
    clear hin3 hb3 B3 CB g0 g1 g2 c3b
    obtain ⟨g0, g1, g2⟩ := B4.out.cells
    obtain ⟨xt, xe⟩ := X
    rcases HE with rfl | rfl
    · have CS := Lib.hid (same_any xt t _ _ _ X4.out B4.out.has)
      clear X4
      go_wp2_with fail
      refine CS.out.mono ?_
      rintro e w5 ⟨rfl, hb5⟩
      have B5 := Lib.hid (B4.out.go hb5)
      have R5 := Lib.hid (R4.out.below hb5)
      clear hb5 CS B4 g0 g1 g2
      cases hs : sameT xt t
      · have F : Hid (ofZ t = ([], 0, 2)) := by rw [GX.out, hs]; rfl
        clear GX
        go_wp2_with fail
        go_ret3
        exact gives_of_no F.out B5.out.below
      · have F : Hid (ofZ t = (r, 8 * (r.length : Int) - x, 0)) := by rw [GX.out, hs]; rfl
        clear GX
        go_wp2_with fail
        go_ret3
        rw [F.out]
        exact ⟨b1, c1, rfl, R5.out, HO.out.nilc, own_cap HO.out.1, B5.out.below⟩
    · have F : Hid (ofZ t = ([], 0, 2)) := by rw [GX.out]; simp [Hid]
      clear GX
      go_wp2_with fail
      go_ret3
      exact gives_of_no F.out B4.out.below

end Go.Proofs.YtjhffnoddhlikaaDoor
