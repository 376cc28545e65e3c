/-
  Merged texts: Sc2, Sc3, OpenT, Cap, Sc4, Sc5, Sc6, ScH, Sc10.
-/
import Derived.Test.YtgmefdmeeihgoaaGreatDoorGrB
import Derived.Test.YtgmefdmeeihgoaaGreatDoorGrA
import Derived.Lib.SmallJoins
import Derived.ChangeArms
import Derived.ChangeSlices
import Derived.Deep.Fields
namespace Go.Proofs.YtgmefdmeeihgoaaGreatDoor
open Go.RowKit
set_option linter.unusedVariables false
theorem Blk.six {w : World} {g : Nat} {t : TypeId} {a b c : Value} (h : Blk w g t #[a, b, c]) : w.cell? ⟨g, 0, none⟩ = some a ∧ w.cell? ⟨g, 1, none⟩ = some b ∧ w.cell? ⟨g, 2, none⟩ = some c ∧ w.frozen? ⟨g, 0, none⟩ = false ∧ w.frozen? ⟨g, 1, none⟩ = false ∧ w.frozen? ⟨g, 2, none⟩ = false :=
  ⟨h.cell 0, h.cell 1, h.cell 2, h.free 0, h.free 1, h.free 2⟩
theorem Tryz.sizeNode3 : (Tryz.prog.info? 28).map (·.size) = some 3 := by kernel_rfl
def zeroT : T := .node 0 [] []
def GivesNode (t : T) (w : World) (e : Ending) (w' : World) : Prop :=
  ∃ (A : Option Addr) (n c : Nat) (K : Option Addr) (m d : Nat), e = .returned (.agg #[.int .i64 t.tag, .slice A n c, .slice K m d]) ∧ t.InP (w.heap.size ≤ ·) w' (.agg #[.int .i64 t.tag, .slice A n c, .slice K m d]) ∧ Below w.heap.size w w'
theorem leaf_inP {P : Nat → Prop} {w : World} {z : Int} {zs : List Int} {a : Option Addr} {c : Nat} (hz : (Lit.int .i64 z).wf = true) (hr : Row w a zs.length zs) (hn : zs.length ≤ 1000000) (hnil : (a = none → c = 0) ∧ zs.length ≤ c) (hp : 0 < zs.length → ∃ b off, a = some ⟨b, off, none⟩ ∧ P b) : (T.node z zs []).InP P w (.agg #[.int .i64 z, .slice a zs.length c, .slice none 0 0]) := by
  unfold T.InP
  exact ⟨a, zs.length, c, none, 0, 0, rfl, hz, hr, by unfold maxLen; omega, hnil.1, rfl, ⟨Nat.zero_le _, hnil.2, Nat.le_refl _⟩, hp, fun h => absurd h (by omega)⟩
structure RB (w W : World) : Prop where
  box : Blk W w.heap.size 28 #[.int .i64 0, .slice none 0 0, .slice none 0 0]
  below : Below w.heap.size w W
theorem RB.start (w : World) : RB w (w.alloc (.cells #[.int .i64 0, .slice none 0 0, .slice none 0 0] 28)) := ⟨Blk.new _ _ _, (Below.refl _ _).alloc (Nat.le_refl _) _⟩
theorem RB.go {w W W' : World} (h : RB w W) (hb : Below W.heap.size W W') : RB w W' := ⟨h.box.below hb h.box.lt, Below.step h.below hb⟩
def boxed (w W : World) (a b c : Value) : World := ((W.setCell ⟨w.heap.size, 0, none⟩ a).setCell ⟨w.heap.size, 1, none⟩ b).setCell ⟨w.heap.size, 2, none⟩ c
theorem RB.boxed {w W : World} (h : RB w W) (a b c : Value) : Blk (boxed w W a b c) w.heap.size 28 #[a, b, c] ∧ Below w.heap.size w (boxed w W a b c) :=
  ⟨((h.box.set 0 a).set 1 b).set 2 c, ((h.below.setCell (Nat.le_refl _) _).setCell (Nat.le_refl _) _).setCell (Nat.le_refl _) _⟩
theorem boxed_row {w W : World} {a : Option Addr} {n : Nat} {zs : List Int} (h : Row W a n zs) (hne : 0 < n → ∃ b off, a = some ⟨b, off, none⟩ ∧ b ≠ w.heap.size) (x y z : Value) : Row (boxed w W x y z) a n zs := by
  refine ((h.set w.heap.size 0 x hne).set w.heap.size 1 y hne).set w.heap.size 2 z hne
theorem out_off {w W : World} {a : Option Addr} {n c : Nat} {L : List Int} (h : Out w W (.slice a n c) L) (hw : 0 < L.length) : ∃ b off, a = some ⟨b, off, none⟩ ∧ w.heap.size ≤ b := by
  obtain ⟨g, cap, e, hg⟩ := h.form hw
  injection e with e1 e2 e3
  exact ⟨g, 0, e1, hg⟩
theorem boxed_in {w W W0 : World} {t : T} {v : Value} (h : t.InP (W0.heap.size ≤ ·) W v) (hW : w.heap.size < W0.heap.size) (a b c : Value) : t.InP (w.heap.size ≤ ·) (boxed w W a b c) v :=
  T.InP.keep (fun x _ hp => ⟨by have hp' : W0.heap.size ≤ x := hp; show w.heap.size ≤ x; omega, by
    have hp' : W0.heap.size ≤ x := hp
    have hx : x ≠ w.heap.size := by omega
    unfold boxed
    rw [heap_setCell_other _ ⟨w.heap.size, 2, none⟩ x c hx, heap_setCell_other _ ⟨w.heap.size, 1, none⟩ x b hx, heap_setCell_other _ ⟨w.heap.size, 0, none⟩ x a hx]⟩) (by simp [boxed]) _ h
theorem gives_leaf {w W W0 : World} {tmps : Array Value} {fn : Func} {p : Tmp} {z : Int} {zs : List Int} {a : Option Addr} {c : Nat} (hf : fn.results = #[.cell p 28]) (hp : tmps.getD p undef = .pointer (some ⟨w.heap.size, 0, none⟩)) (hrb : RB w W) (ho : Out W0 W (.slice a zs.length c) zs) (hW : w.heap.size < W0.heap.size) (hz : (Lit.int .i64 z).wf = true) (hb : ∀ x ∈ zs, 0 ≤ x ∧ x ≤ 255) (hn : zs.length ≤ 1000000) :
    bodyPost Tryz.prog fn (GivesNode (.node z zs []) w) .ret { tmps := tmps, defers := [] } (boxed w W (.int .i64 z) (.slice a zs.length c) (.slice none 0 0)) := by
  obtain ⟨h1, h2⟩ := hrb.boxed (.int .i64 z) (.slice a zs.length c) (.slice none 0 0)
  refine bodyPost_ret (results_cell_row hf _ _ w.heap.size 28 #[.int .i64 z, .slice a zs.length c, .slice none 0 0] (0, 0) _ hp h1 Tryz.underlying28 rfl Tryz.sizeNode3) rfl ⟨a, zs.length, c, none, 0, 0, rfl, leaf_inP hz ?_ hn ⟨ho.nilc, own_cap ho.1⟩ (fun h0 => by
    obtain ⟨b, off, e, hb⟩ := out_off ho h0
    exact ⟨b, off, e, by omega⟩), h2⟩
  obtain ⟨a', c', e, hr⟩ := ho.row hb
  injection e with e1 e2 e3
  subst e1
  exact boxed_row hr (fun h0 => by
    obtain ⟨b, off, e, hb⟩ := out_off ho h0
    exact ⟨b, off, e, by omega⟩) _ _ _
theorem gives_copy {w W W0 : World} {tmps : Array Value} {fn : Func} {p : Tmp} {t : T} {A : Option Addr} {n c : Nat} {K : Option Addr} {m d : Nat} (hf : fn.results = #[.cell p 28]) (hp : tmps.getD p undef = .pointer (some ⟨w.heap.size, 0, none⟩)) (hrb : RB w W) (hin : t.InP (W0.heap.size ≤ ·) W (.agg #[.int .i64 t.tag, .slice A n c, .slice K m d])) (hW : w.heap.size < W0.heap.size) :
    bodyPost Tryz.prog fn (GivesNode t w) .ret { tmps := tmps, defers := [] } (boxed w W (.int .i64 t.tag) (.slice A n c) (.slice K m d)) := by
  obtain ⟨h1, h2⟩ := hrb.boxed (.int .i64 t.tag) (.slice A n c) (.slice K m d)
  refine bodyPost_ret (results_cell_row hf _ _ w.heap.size 28 #[.int .i64 t.tag, .slice A n c, .slice K m d] (0, 0) _ hp h1 Tryz.underlying28 rfl Tryz.sizeNode3) rfl ⟨A, n, c, K, m, d, rfl, boxed_in hin hW _ _ _, h2⟩
def bigZ (zs : List Int) : List Int := if bareZ zs = [] ∨ 128 ≤ (bareZ zs)[(0 : Nat)]?.getD 0 then 0 :: bareZ zs else bareZ zs
def bigT (zs : List Int) : T := .node 2 (bigZ zs) []
theorem big_byte {zs : List Int} (h : ∀ x ∈ zs, 0 ≤ x ∧ x ≤ 255) : ∀ x ∈ bigZ zs, 0 ≤ x ∧ x ≤ 255 := by
  intro x hx
  unfold bigZ at hx
  split at hx
  · rcases List.mem_cons.1 hx with rfl | hx
    · omega
    · exact h x (bare_mem hx)
  · exact h x (bare_mem hx)
theorem big_le (zs : List Int) : (bigZ zs).length ≤ zs.length + 1 := by
  have := bare_le zs
  unfold bigZ
  split
  · rw [List.length_cons]; omega
  · omega
set_option maxHeartbeats 1000000 in
theorem rbig_any (a : Option Addr) (n ca : Nat) (zs : List Int) (w : World) (hr : Row w a n zs) (hnc : n ≤ ca) (hn : n ≤ 100000) (hnil : a = none → ca = 0) : Calls Tryz.prog 45 #[.slice a n ca] w (GivesNode (bigT zs) w) := by
  have hby := hr.2.1
  have hbb : ∀ x ∈ bareZ zs, 0 ≤ x ∧ x ≤ 255 := fun x hx => hby x (bare_mem hx)
  have hle := bare_le zs
  have hl := hr.1
  have S0 := Lib.hid (RB.start w)
  have CI := Lib.hid (rbare_any a n ca zs _ (hr.below S0.out.below) hnc hn hnil)
  have GB := Lib.hid (big_byte hby)
  have GL := Lib.hid (big_le zs)
  clear hr hnil hby
  go_enter Tryz.func45, Tryz.ntmps45
  go_wp2_with fail
  refine CI.out.mono ?_
  rintro e w2 ⟨V, rfl, ho⟩
  have S2 := Lib.hid (S0.out.go ho.2)
  obtain ⟨b2, c2, rfl, hr2⟩ := ho.row hbb
  have O2 := Lib.hid ho
  have R2 := Lib.hid hr2
  have N2 := Lib.hid ho.nilc
  have hW : w.heap.size < (w.alloc (.cells #[.int .i64 0, .slice none 0 0, .slice none 0 0] 28)).heap.size := by simp
  clear ho hr2 CI S0
  by_cases h0 : bareZ zs = []
  · have F : Hid (bigZ zs = [0] ++ bareZ zs) := if_pos (.inl h0)
    have L0 : Hid ((bareZ zs).length = 0) := by rw [h0]; exact Lib.hid rfl
    have t0 : (((bareZ zs).length : Int) == 0) = true := by rw [L0.out]; rfl
    have O3 := Lib.hid (out_one w2 0)
    have R3 := Lib.hid (R2.out.below ((Below.refl w2.heap.size w2).alloc (Nat.le_refl _) (.cells #[.int .u8 0] 5)))
    have S3 := Lib.hid (S2.out.go ((Below.refl w2.heap.size w2).alloc (Nat.le_refl _) (.cells #[.int .u8 0] 5)))
    have W2 : Hid (w.heap.size < w2.heap.size) := Nat.lt_of_lt_of_le hW O2.out.2.size
    clear h0 O2
    generalize bareZ zs = bz at *
    go_wp2_with (at_builtin; go_must (refine out_append (W0 := w2) (L := [0]) (zs := bz) rfl _ _ rfl rfl O3.out rfl R3.out N2.out (by simp; omega) ?_; intro V4 w4 ho4; have O4 := Lib.hid ho4; have S4 := Lib.hid (S2.out.go ho4.2); obtain ⟨p0, p1, p2, f0, f1, f2⟩ := S4.out.box.six; rw [← F.out] at ho4 O4; obtain ⟨b4, c4, rfl, hr4⟩ := ho4.row GB.out; clear ho4))
    exact gives_leaf rfl rfl S4.out O4.out W2.out rfl GB.out (by have := GL.out; omega)
  · have L0 : Hid (0 < (bareZ zs).length) := List.length_pos_iff.2 h0
    have t0 : (((bareZ zs).length : Int) == 0) = false := by simp; exact h0
    obtain ⟨b, off, rfl, hbl, hc⟩ := R2.out.2.2 L0.out
    have c0 := hc 0 L0.out
    rw [Nat.add_zero] at c0
    have z0 := R2.out.byte 0
    clear hc
    by_cases h8 : 128 ≤ (bareZ zs)[(0 : Nat)]?.getD 0
    · have F : Hid (bigZ zs = [0] ++ bareZ zs) := if_pos (.inr h8)
      have O3 := Lib.hid (out_one w2 0)
      have R3 := Lib.hid (R2.out.below ((Below.refl w2.heap.size w2).alloc (Nat.le_refl _) (.cells #[.int .u8 0] 5)))
      have W2 : Hid (w.heap.size < w2.heap.size) := Nat.lt_of_lt_of_le hW O2.out.2.size
      clear h0 O2
      generalize (bareZ zs)[(0 : Nat)]?.getD 0 = x0 at c0 z0 h8
      generalize bareZ zs = bz at *
      go_wp2_with (at_builtin; go_must (refine out_append (W0 := w2) (L := [0]) (zs := bz) rfl _ _ rfl rfl O3.out rfl R3.out N2.out (by simp; omega) ?_; intro V4 w4 ho4; have O4 := Lib.hid ho4; have S4 := Lib.hid (S2.out.go ho4.2); obtain ⟨p0, p1, p2, f0, f1, f2⟩ := S4.out.box.six; rw [← F.out] at ho4 O4; obtain ⟨b4, c4, rfl, hr4⟩ := ho4.row GB.out; clear ho4))
      exact gives_leaf rfl rfl S4.out O4.out W2.out rfl GB.out (by have := GL.out; omega)
    · have F : Hid (bigZ zs = bareZ zs) := if_neg (by rintro (h | h); exact h0 h; exact h8 h)
      obtain ⟨p0, p1, p2, f0, f1, f2⟩ := S2.out.box.six
      have HW := Lib.hid hW
      generalize (bareZ zs)[(0 : Nat)]?.getD 0 = x0 at c0 z0 h8
      rw [← F.out] at O2 R2 L0 t0 ⊢
      clear h0
      go_wp2_with fail
      exact gives_leaf rfl rfl S2.out O2.out HW.out rfl GB.out (by have := GL.out; omega)
end Go.Proofs.YtgmefdmeeihgoaaGreatDoor
namespace Go.Proofs.YtgmefdmeeihgoaaGreatDoor
open Go.RowKit
set_option linter.unusedVariables false
def leastM (n : Int) : Nat := if n / 256 ^ 1 = 0 then 1 else if n / 256 ^ 2 = 0 then 2 else if n / 256 ^ 3 = 0 then 3 else if n / 256 ^ 4 = 0 then 4 else if n / 256 ^ 5 = 0 then 5 else if n / 256 ^ 6 = 0 then 6 else if n / 256 ^ 7 = 0 then 7 else 8
theorem leastM_is {n : Int} (h0 : 0 ≤ n) (h1 : n ≤ 18446744073709551615) : IsLeast n (leastM n) := by
  have h8 := div_eight h0 h1 (Nat.le_refl 8)
  unfold leastM IsLeast
  by_cases c1 : n / 256 ^ 1 = 0
  · rw [if_pos c1]; exact ⟨by omega, by omega, c1, .inl rfl⟩
  rw [if_neg c1]
  by_cases c2 : n / 256 ^ 2 = 0
  · rw [if_pos c2]; exact ⟨by omega, by omega, c2, .inr c1⟩
  rw [if_neg c2]
  by_cases c3 : n / 256 ^ 3 = 0
  · rw [if_pos c3]; exact ⟨by omega, by omega, c3, .inr c2⟩
  rw [if_neg c3]
  by_cases c4 : n / 256 ^ 4 = 0
  · rw [if_pos c4]; exact ⟨by omega, by omega, c4, .inr c3⟩
  rw [if_neg c4]
  by_cases c5 : n / 256 ^ 5 = 0
  · rw [if_pos c5]; exact ⟨by omega, by omega, c5, .inr c4⟩
  rw [if_neg c5]
  by_cases c6 : n / 256 ^ 6 = 0
  · rw [if_pos c6]; exact ⟨by omega, by omega, c6, .inr c5⟩
  rw [if_neg c6]
  by_cases c7 : n / 256 ^ 7 = 0
  · rw [if_pos c7]; exact ⟨by omega, by omega, c7, .inr c6⟩
  rw [if_neg c7]
  exact ⟨by omega, by omega, h8, .inr c7⟩
def leastZ (n : Int) : List Int := beZ (leastM n) n
theorem GivesLeast.is {w w' : World} {n : Int} {e : Ending} (h0 : 0 ≤ n) (h1 : n ≤ 18446744073709551615) (h : GivesLeast w n e w') : ∃ b off c, e = .returned (.slice (some ⟨b, off, none⟩) (leastM n) c) ∧ Row w' (some ⟨b, off, none⟩) (leastM n) (leastZ n) ∧ Below w.heap.size w w' ∧ leastM n ≤ c := by
  obtain ⟨m, a, c, hm, rfl, hr, hb, hc⟩ := h
  obtain rfl := IsLeast.eq h0 hm (leastM_is h0 h1)
  obtain ⟨b, off, rfl, _⟩ := hr.2.2 (by have := hm.1; omega)
  exact ⟨b, off, c, rfl, hr, hb, hc⟩
theorem leastM_le (n : Int) : leastM n ≤ 8 := by
  unfold leastM
  repeat (first | omega | split)
def intT (n : Int) : T := bigT (leastZ n)
set_option maxHeartbeats 1000000 in
theorem rint_any (n : Int) (w : World) (h0 : 0 ≤ n) (h1 : n ≤ 18446744073709551615) : Calls Tryz.prog 46 #[.int .u64 n] w (GivesNode (intT n) w) := by
  have S0 := Lib.hid (RB.start w)
  have hml := leastM_le n
  go_enter Tryz.func46, Tryz.ntmps46
  go_wp2_with fail
  refine (rleast_any n _ h0 h1).mono ?_
  intro e w2 h2
  obtain ⟨b, off, c, rfl, hr, hb, hc⟩ := h2.is h0 h1
  have S2 := Lib.hid (S0.out.go hb)
  have CI := Lib.hid (rbig_any (some ⟨b, off, none⟩) (leastM n) c (leastZ n) w2 hr hc (by omega) (fun e => by cases e))
  clear h2 hr hb S0
  generalize leastM n = m at CI hc hml
  go_wp2_with fail
  refine CI.out.mono ?_
  rintro e w3 ⟨A, n3, c3, K, m3, d3, rfl, hin, hb3⟩
  have S3 := Lib.hid (S2.out.go hb3)
  have IN := Lib.hid hin
  have W2 : Hid (w.heap.size < w2.heap.size) := S2.out.box.lt
  obtain ⟨p0, p1, p2, f0, f1, f2⟩ := S3.out.box.six
  clear hin hb3 CI S2
  go_wp2_with fail
  exact gives_copy rfl rfl S3.out IN.out W2.out
def greatZ (t : T) : List Int × Int := if sameT t (bigT (bareZ t.body)) = true then (bareZ t.body, 0) else ([], 2)
def GivesBE (x : List Int × Int) (w : World) (e : Ending) (w' : World) : Prop :=
  ∃ a c, e = .returned (.tuple #[.slice a x.1.length c, .int .i64 x.2]) ∧ Row w' a x.1.length x.1 ∧ (a = none → c = 0) ∧ x.1.length ≤ c ∧ Below w.heap.size w w'
end Go.Proofs.YtgmefdmeeihgoaaGreatDoor
namespace Go.Proofs.YtgmefdmeeihgoaaGreatDoor
open Go.RowKit Go.Deep Go.ChangeShapes Go.WideShapes
section
variable {H : Type} {enc : TypeId × Value → H}
theorem trod_three {P : Program} {w : World} {base : Nat} {spare : Nat → Bool} {held : Bool} {t : TypeId} {f0 f1 f2 : Field} {fuel : Nat} {cs : List Value} {x : DataW H × List MemPlace} (hs : P.underlying t = some (.struct #[f0, f1, f2])) (hone : oneCellFields P #[f0, f1, f2] = true) (hC : P.cellsOf t = 3)
    (h : DataW.trod enc P w base spare held fuel t cs = some x) :
    ∃ (n : Nat) (v0 v1 v2 : Value) (y0 y1 y2 : DataW H × List MemPlace), fuel = n + 1 ∧ cs = [v0, v1, v2] ∧
      DataW.trod enc P w base spare held n f0.type [v0] = some y0 ∧ DataW.trod enc P w base spare held n f1.type [v1] = some y1 ∧ DataW.trod enc P w base spare held n f2.type [v2] = some y2 := by
  obtain ⟨xs, n, hfu, _, hl, hlen, hf⟩ := DataW.trod_struct hs h
  rw [hC] at hl
  obtain ⟨o0, k0⟩ := hone_of hone 0 f0 rfl
  obtain ⟨o1, k1⟩ := hone_of hone 1 f1 rfl
  obtain ⟨o2, k2⟩ := hone_of hone 2 f2 rfl
  match cs, hl, xs, hlen with
  | [v0, v1, v2], _, [y0, y1, y2], _ =>
    exact ⟨n, v0, v1, v2, y0, y1, y2, hfu, rfl, by simpa [o0, k0] using hf 0 f0 rfl, by simpa [o1, k1] using hf 1 f1 rfl, by simpa [o2, k2] using hf 2 f2 rfl⟩
theorem listed {p : Nat → T → Prop} {len : Nat} (h : ∀ i, i < len → ∃ t, p i t) : ∃ ts : List T, ts.length = len ∧ ∀ (i : Nat) (hi : i < ts.length), p i ts[i] := by
  have h' : ∀ i, ∃ t, i < len → p i t := fun i => by
    by_cases hi : i < len
    · obtain ⟨t, ht⟩ := h i hi
      exact ⟨t, fun _ => ht⟩
    · exact ⟨.node 0 [] [], fun hl => absurd hl hi⟩
  obtain ⟨f, hf⟩ := Classical.axiomOfChoice h'
  refine ⟨(List.range len).map f, by simp, fun i hi => ?_⟩
  have hi' : i < len := by simpa using hi
  simpa using hf i hi'
theorem cells_node : Tryz.prog.cellsOf 28 = 3 := by kernel_rfl
theorem cells_byte : Tryz.prog.cellsOf 5 = 1 := by kernel_rfl
theorem open_node {w : World} {spare : Nat → Bool} {held : Bool} (hsp : ∀ b, spare b = true) (fuel : Nat) : ∀ (cs : List Value) (x : DataW H × List MemPlace), DataW.trod enc Tryz.prog w 0 spare held fuel 28 cs = some x →
    ∃ (v0 v1 v2 : Value) (t : T), cs = [v0, v1, v2] ∧ t.In w (.agg #[v0, v1, v2]) := by
  induction fuel using Nat.strongRecOn with
  | ind fuel ih =>
    intro cs x h
    obtain ⟨n, v0, v1, v2, y0, y1, y2, hfu, rfl, h0, h1, h2⟩ := trod_three Tryz.underlying28 (by kernel_rfl) cells_node h
    obtain ⟨tag, e0, _, hw⟩ := DataW.trod_int Tryz.underlying3 h0
    injection e0 with e0 _
    subst e0
    obtain ⟨A, m, c, body, e1, hr, hm, hnil, hmc⟩ : ∃ (A : Option Addr) (m c : Nat) (body : List Int), v1 = .slice A m c ∧ Row w A m body ∧ m ≤ maxLen ∧ (A = none → c = 0) ∧ m ≤ c := by
      rcases open_ints Tryz.underlying22 Tryz.underlying5 cells_byte h1 with ⟨hcs, _⟩ | ⟨a, len, cap, zs, hcs, _, hl, hm, hz, _, hcell, hwz⟩
      · injection hcs with e _
        exact ⟨none, 0, 0, [], e, Row.nil _ _, Nat.zero_le _, fun _ => rfl, Nat.le_refl _⟩
      · injection hcs with e _
        rw [hsp, if_pos rfl] at hz
        obtain ⟨r1, r2⟩ := row_of (w := w) (a := some a) (len := len) (cap := cap) (zs := zs) (.inr ⟨a, rfl, hl, hm, hz, hcell, hwz⟩)
        exact ⟨some a, len, cap, zs.take len, e, r1, r2, fun h => (by cases h), hl⟩
    subst e1
    obtain ⟨K, k, d, kids, e2, hk, hkm, hkd, hall⟩ : ∃ (K : Option Addr) (k d : Nat) (kids : List T), v2 = .slice K k d ∧ kids.length = k ∧ k ≤ maxLen ∧ k ≤ d ∧ (0 < k → ∃ b off, K = some ⟨b, off, none⟩ ∧ b < w.heap.size ∧ T.InAll w kids b off) := by
      rcases DataW.trod_slice Tryz.underlying26 h2 with ⟨hcs, _⟩ | ⟨a, len, cap, elems, rest, n', hn', hcs, _, _, hl, hm, hlen, hel, _, _⟩
      · injection hcs with e _
        exact ⟨none, 0, 0, [], e, rfl, Nat.zero_le _, Nat.le_refl _, fun h => absurd h (by omega)⟩
      · injection hcs with e _
        rw [cells_node] at hel
        obtain ⟨ts, hts, hp⟩ := listed (p := fun i t => ∃ v0 v1 v2 : Value, w.cell? ((a.add (i * 3)).add 0) = some v0 ∧ w.cell? ((a.add (i * 3)).add 1) = some v1 ∧ w.cell? ((a.add (i * 3)).add 2) = some v2 ∧ t.In w (.agg #[v0, v1, v2])) (len := len) (fun i hi => by
          have he := hel i hi
          rw [List.getElem?_eq_getElem (by omega)] at he
          obtain ⟨ci, hci, hti⟩ := Option.bind_eq_some_iff.1 he
          obtain ⟨u0, u1, u2, t, rfl, hin⟩ := ih n' (by omega) ci _ hti
          obtain ⟨_, _, hc⟩ := World.cells?_some hci
          exact ⟨t, u0, u1, u2, by simpa using hc 0 (by omega), by simpa using hc 1 (by omega), by simpa using hc 2 (by omega), hin⟩)
        refine ⟨some a, len, cap, ts, e, hts, by omega, by omega, fun hpos => ?_⟩
        obtain ⟨b, off, spot⟩ := a
        obtain ⟨u0, _, _, hc0, _, _, _⟩ := hp 0 (by omega)
        have hspot : spot = none := by simpa [Addr.add] using World.cell?_spot hc0
        subst hspot
        refine ⟨b, off, rfl, by have := cell_block hc0; simpa [Addr.add] using this, T.InAll.of fun i hi => ?_⟩
        obtain ⟨u0, u1, u2, g0, g1, g2, g3⟩ := hp i hi
        rw [Addr.add_lit] at g0 g1 g2
        rw [Addr.add_lit] at g0 g1 g2
        exact ⟨u0, u1, u2, g0, g1, g2, g3⟩
    subst e2
    refine ⟨_, _, _, .node tag body kids, rfl, ?_⟩
    unfold T.In
    exact ⟨A, m, c, K, k, d, rfl, hw, hr, hm, hnil, hk, ⟨hkm, hmc, hkd⟩, hall⟩
set_option maxRecDepth 100000 in
theorem open_arg {w : World} {r : Reach} {b0 : Nat} {held : Bool} {v : Value} {d : DataW H} {p : List MemPlace} (hv : Value.okWide Tryz.prog w r b0 28 v) (h : DataW.Trod enc Tryz.prog w 0 (fun _ => true) held 28 v d p) : ∃ t : T, t.In w v := by
  obtain ⟨cs, rfl, _⟩ := okWide_struct Tryz.underlying28 hv
  obtain ⟨fuel, hf⟩ := h
  obtain ⟨v0, v1, v2, t, hcs, hin⟩ := open_node (fun _ => rfl) fuel _ _ hf
  have e : cs = #[v0, v1, v2] := by
    obtain ⟨l⟩ := cs
    have hl : l = [v0, v1, v2] := hcs
    rw [hl]
  subst e
  exact ⟨t, hin⟩
end
end Go.Proofs.YtgmefdmeeihgoaaGreatDoor
namespace Go.Proofs.YtgmefdmeeihgoaaGreatDoor
open Go.RowKit Go.Deep Go.ChangeShapes Go.WideShapes
def Capped (v : Value) : Prop := ∀ z A n c y, v = .agg #[z, .slice A n c, y] → n ≤ c
theorem Capped.is {z : Value} {A : Option Addr} {n c : Nat} {y : Value} (h : Capped (.agg #[z, .slice A n c, y])) : n ≤ c := h _ _ _ _ _ rfl
section
variable {H : Type} {enc : TypeId × Value → H}
end
end Go.Proofs.YtgmefdmeeihgoaaGreatDoor
namespace Go.Proofs.YtgmefdmeeihgoaaGreatDoor
open Go.RowKit
set_option linter.unusedVariables false
theorem Box.laters {w wr : World} {g : Nat} {t : T} {A : Option Addr} {n c : Nat} {K : Option Addr} {m d : Nat} (h : Box w wr g t A n c K m d) : (∀ W, Ext wr.drew W → W.cell? ⟨g, 0, none⟩ = some (.int .i64 t.tag)) ∧ (∀ W, Ext wr.drew W → W.cell? ⟨g, 1, none⟩ = some (.slice A n c)) ∧ (∀ W, Ext wr.drew W → W.cell? ⟨g, 2, none⟩ = some (.slice K m d)) :=
  ⟨cell_later h.cells.1, cell_later h.cells.2.1, cell_later h.cells.2.2⟩
set_option maxHeartbeats 2000000 in
set_option maxRecDepth 100000 in
theorem rgreat_any (t : T) (v : Value) (w : World) (hin : t.In w v) (hcap : Capped v) (hwt : t.body.length ≤ 30000) : Calls Tryz.prog 32 #[v] w (GivesBE (greatZ t) w) := by
  obtain ⟨A, n, c, K, m, d, rfl, hw, hr, hn, hc, hm, hm', hks⟩ := hin.open
  have hnc := hcap.is
  have BX := Lib.hid (Box.start hin)
  have hby := hr.2.1
  have hbb : ∀ x ∈ bareZ t.body, 0 ≤ x ∧ x ≤ 255 := fun x hx => hby x (bare_mem hx)
  have hle := bare_le t.body
  have hl := hr.1
  have GZ : Hid (greatZ t = if sameT t (bigT (bareZ t.body)) = true then (bareZ t.body, 0) else ([], 2)) := rfl
  have CI := Lib.hid (rbare_any A n c t.body _ (hr.below BX.out.below) hnc (by omega) hc)
  obtain ⟨g0, g1, g2⟩ := BX.out.cells
  clear hr hks hc hin hcap hby hm hm' hw hn
  go_enter Tryz.func32, Tryz.ntmps32
  go_wp2_with fail
  refine CI.out.mono ?_
  rintro e w2 h2
  obtain ⟨b2, c2, rfl, hr2, hn2, hc2, hb2⟩ := h2.row hbb
  have B2 := Lib.hid (BX.out.go hb2)
  have R2 := Lib.hid hr2
  clear g0 g1 g2 h2 CI hb2 BX hr2
  obtain ⟨l0, l1, l2⟩ := B2.out.laters
  have CB := Lib.hid (fun W (hW : Ext w2 W) => rbig_any b2 (bareZ t.body).length c2 (bareZ t.body) W (R2.out.below hW) hc2 (by omega) hn2)
  have CS := Lib.hid (fun W (hW : Ext w2 W) u (x : T) (hx : x.In W u) => same_any t x _ u W (T.In.below hW t B2.out.has) hx)
  go_wp2_with fail
  refine wp_region_ord Ext Ext.refl (fun _ _ _ => Ext.trans) ((0, false) :: (1, false) :: (2, true) :: (3, true) :: (4, false) :: []) (by kernel_rfl) (by kernel_rfl) rfl (by kernel_rfl) (fun _ _ _ _ _ h => h) ?_
  repeat (refine ord_take _ rfl (by rfl) (fun W hW => by go_simp; first | done | rfl) ?_; simp only [Act.put, List.setIfInBounds_toArray, List.set_cons_zero, List.set_cons_succ])
  clear l0 l1 l2
  refine ord_sole rfl (by rfl) (fun K1 hK1 => ?_)
  go_simp
  refine (CB.out _ (Ext.of_drew (Ext.refl _))).mono ?_
  rintro e w3 ⟨A3, n3, c3, K3, m3, d3, rfl, hin3, hb3⟩
  have E3 : Hid (Ext w2 w3) := Ext.of_drew hb3
  have H3 := Lib.hid (T.InP.in _ hin3)
  refine hK1 _ _ hb3 ?_
  clear hK1 K1 CB hb3 hin3
  refine ord_sole rfl (by rfl) (fun K1 hK1 => ?_)
  go_simp
  refine (CS.out _ E3.out _ _ H3.out).mono ?_
  rintro e w4 ⟨rfl, hb4⟩
  have E4 : Hid (Ext w2 w4) := Ext.trans E3.out hb4
  refine hK1 _ _ hb4 ?_
  clear hK1 K1 CS hb4 H3 E3
  have B4 := Lib.hid (B2.out.go E4.out)
  have R4 := Lib.hid (R2.out.below E4.out)
  clear B2 R2 E4
  cases hs : sameT t (bigT (bareZ t.body))
  · have F : Hid (greatZ t = ([], 2)) := by rw [GZ.out, hs]; rfl
    clear GZ
    repeat (refine ord_take _ rfl (by rfl) (fun W hW => by go_simp; first | done | rfl) ?_; simp only [Act.put, List.setIfInBounds_toArray, List.set_cons_zero, List.set_cons_succ])
    refine ord_end ?_
    go_wp2_with fail
    go_ret2
    rw [F.out]
    exact ⟨none, 0, rfl, Row.nil _ _, fun _ => rfl, Nat.le_refl _, B4.out.below⟩
  · have F : Hid (greatZ t = (bareZ t.body, 0)) := by rw [GZ.out, hs]; rfl
    clear GZ
    repeat (refine ord_take _ rfl (by rfl) (fun W hW => by go_simp; first | done | rfl) ?_; simp only [Act.put, List.setIfInBounds_toArray, List.set_cons_zero, List.set_cons_succ])
    refine ord_end ?_
    go_wp2_with fail
    go_ret2
    rw [F.out]
    exact ⟨b2, c2, rfl, R4.out, hn2, hc2, B4.out.below⟩
end Go.Proofs.YtgmefdmeeihgoaaGreatDoor
namespace Go.Proofs.YtgmefdmeeihgoaaGreatDoor
open Go.RowKit
set_option linter.unusedVariables false
end Go.Proofs.YtgmefdmeeihgoaaGreatDoor
namespace Go.Proofs.YtgmefdmeeihgoaaGreatDoor
open Go.RowKit
set_option linter.unusedVariables false
def sevN (n : Nat) (acc : List Int) : List Int := if h : 128 ≤ n then sevN (n / 128) (((n / 128 % 128 : Nat) + 128 : Int) :: acc) else acc
termination_by n
decreasing_by omega
def sevenN (n : Nat) : List Int := sevN n [((n % 128 : Nat) : Int)]
def SevB (l n : Nat) : Prop := (l ≤ 1 ∨ n < 2 ^ 57) ∧ (l ≤ 2 ∨ n < 2 ^ 50) ∧ (l ≤ 3 ∨ n < 2 ^ 43) ∧ (l ≤ 4 ∨ n < 2 ^ 36) ∧ (l ≤ 5 ∨ n < 2 ^ 29) ∧ (l ≤ 6 ∨ n < 2 ^ 22) ∧ (l ≤ 7 ∨ n < 2 ^ 15) ∧ (l ≤ 8 ∨ n < 2 ^ 8) ∧ (l ≤ 9 ∨ n < 2 ^ 1) ∧ l ≤ 10 ∧ n < 2 ^ 64
theorem SevB.step {l n : Nat} (h : SevB l n) (hn : 128 ≤ n) : SevB (l + 1) (n / 128) := by
  unfold SevB at h ⊢
  omega
theorem sevN_more {n : Nat} (h : 128 ≤ n) (acc : List Int) : sevN n acc = sevN (n / 128) (((n / 128 % 128 : Nat) + 128 : Int) :: acc) := by rw [sevN, dif_pos h]
theorem sevN_end {n : Nat} (h : ¬ 128 ≤ n) (acc : List Int) : sevN n acc = acc := by rw [sevN, dif_neg h]
theorem sevN_byte (n : Nat) : ∀ acc : List Int, (∀ x ∈ acc, 0 ≤ x ∧ x ≤ 255) → ∀ x ∈ sevN n acc, 0 ≤ x ∧ x ≤ 255 := by
  induction n using Nat.strongRecOn with
  | ind n ih =>
    intro acc ha
    by_cases h : 128 ≤ n
    · rw [sevN_more h]
      refine ih _ (by omega) _ ?_
      intro x hx
      rcases List.mem_cons.1 hx with rfl | hx
      · omega
      · exact ha x hx
    · rw [sevN_end h]
      exact ha
theorem sevN_len (n : Nat) : ∀ acc : List Int, SevB acc.length n → (sevN n acc).length ≤ 10 := by
  induction n using Nat.strongRecOn with
  | ind n ih =>
    intro acc ha
    by_cases h : 128 ≤ n
    · rw [sevN_more h]
      exact ih _ (by omega) _ (ha.step h)
    · rw [sevN_end h]
      exact ha.2.2.2.2.2.2.2.2.2.1
theorem seven_byte (n : Nat) : ∀ x ∈ sevenN n, 0 ≤ x ∧ x ≤ 255 := sevN_byte n _ (by intro x hx; simp at hx; omega)
theorem seven_len {n : Nat} (h : n < 2 ^ 64) : (sevenN n).length ≤ 10 := sevN_len n _ (by unfold SevB; simp; omega)
set_option maxHeartbeats 1000000 in
set_option maxRecDepth 100000 in
theorem seven_any (n0 : Nat) (w : World) (hn0 : n0 < 2 ^ 64) : Calls Tryz.prog 80 #[.int .u64 n0] w (GivesNew (sevenN n0) w) := by
  have O0 := Lib.hid (out_one w ((n0 % 128 : Nat) : Int))
  have e0 : IntKind.u8.wrap ((n0 : Int) % 128) = ((n0 % 128 : Nat) : Int) := by rw [IntWalk.u8_in _ (by omega)]; omega
  go_enter Tryz.func80, Tryz.ntmps80
  go_wp2_with fail
  go_loopw [0, 3] (fun t V wr => ∃ (n : Nat) (L : List Int), t = .int .u64 (n : Int) ∧ SevB L.length n ∧ Out w wr V L ∧ (∀ x ∈ L, 0 ≤ x ∧ x ≤ 255) ∧ sevN n L = sevenN n0) (fun t _ _ => (intOf t).toNat)
  case atStart => exact ⟨n0, [((n0 % 128 : Nat) : Int)], rfl, by unfold SevB; simp; omega, O0.out, by intro x hx; simp at hx; omega, rfl⟩
  case round =>
    obtain ⟨n, L, rfl, hsb, ho, hby, hs⟩ := hrel
    have HS := Lib.hid hs
    have HO := Lib.hid ho
    obtain ⟨a, c, rfl, hr⟩ := ho.row hby
    have RW := Lib.hid hr
    have HB := Lib.hid hby
    have SB := Lib.hid hsb
    have hl10 : L.length ≤ 10 := hsb.2.2.2.2.2.2.2.2.2.1
    have hn64 : n < 2 ^ 64 := hsb.2.2.2.2.2.2.2.2.2.2
    clear hs ho hr hby hsb O0
    by_cases h : 128 ≤ n
    · have N : Hid (sevN (n / 128) (((n / 128 % 128 : Nat) + 128 : Int) :: L) = sevenN n0) := by rw [← sevN_more h]; exact HS
      have S2 := Lib.hid (SB.out.step h)
      clear HS SB
      have e1 : IntKind.u8.wrap ((n : Int) / 128 % 128 + 128) = ((n / 128 % 128 : Nat) + 128 : Int) := by rw [IntWalk.u8_in _ (by omega)]; omega
      have hx : (0 : Int) ≤ ((n / 128 % 128 : Nat) + 128 : Int) ∧ ((n / 128 % 128 : Nat) + 128 : Int) ≤ 255 := by omega
      generalize ((n / 128 % 128 : Nat) + 128 : Int) = x at *
      have O3 := Lib.hid (out_one wr x)
      have R3 := Lib.hid (RW.out.below ((Below.refl wr.heap.size wr).alloc (Nat.le_refl _) (.cells #[.int .u8 x] 5)))
      have NI := Lib.hid HO.out.nilc
      go_wp2_with (at_builtin; go_must (refine out_append (W0 := wr) (L := [x]) (zs := L) rfl _ _ rfl rfl O3.out rfl R3.out NI.out (by simp; omega) ?_; intro V4 w4 ho4; have O4 := Lib.hid (ho4.wider HO.out.2); clear ho4))
      go_roundw
      case rel => exact ⟨n / 128, x :: L, by first | rfl | simp, S2.out, O4.out, (by intro y hy; rcases List.mem_cons.1 hy with rfl | hy; exact hx; exact HB.out y hy), N.out⟩
      case measure => simp [intOf]; omega
    · have F : Hid (sevenN n0 = L) := by rw [← HS.out, sevN_end h]; exact Lib.hid rfl
      clear HS SB
      go_wp2_with fail
      go_ret
      exact ⟨_, rfl, by rw [F.out]; exact HO.out⟩
theorem numZ_range (zs : List Int) (hb : ∀ x ∈ zs, 0 ≤ x ∧ x ≤ 255) : ∀ n : Int, 0 ≤ n → n ≤ 18446744073709551615 → 0 ≤ (numZ n zs).1 ∧ (numZ n zs).1 ≤ 18446744073709551615 := by
  induction zs with
  | nil => intro n h0 h1; exact ⟨h0, h1⟩
  | cons x xs ih =>
    intro n h0 h1
    rw [numZ]
    split
    · exact ⟨by simp, by simp⟩
    · rename_i hc
      have hx := hb x (List.mem_cons_self ..)
      unfold B56 at hc
      exact ih (fun y hy => hb y (List.mem_cons_of_mem _ hy)) _ (by omega) (by omega)
def uintZ (t : T) : Int × Int := if (numZ 0 t.body).2 = true ∧ sameT t (intT (numZ 0 t.body).1) = true then ((numZ 0 t.body).1, 0) else (0, 2)
def GivesUint (x : Int × Int) (w : World) (e : Ending) (w' : World) : Prop := e = .returned (.tuple #[.int .u64 x.1, .int .i64 x.2]) ∧ Below w.heap.size w w'
theorem GivesUint.of {x : Int × Int} {b : Int} {n : Int} {w w' : World} (h : x = (b, n)) (hb : Below w.heap.size w w') : GivesUint x w (.returned (.tuple #[.int .u64 b, .int .i64 n])) w' := by subst h; exact ⟨rfl, hb⟩
set_option maxHeartbeats 2000000 in
set_option maxRecDepth 100000 in
theorem ruint_any (t : T) (v : Value) (w : World) (hin : t.In w v) (hwt : t.body.length ≤ 1000000) : Calls Tryz.prog 33 #[v] w (GivesUint (uintZ t) w) := by
  obtain ⟨A, n, c, K, m, d, rfl, hw, hr, hn, hc, hm, hm', hks⟩ := hin.open
  have B2 := Lib.hid (Box.start hin)
  have GZ : Hid (uintZ t = if (numZ 0 t.body).2 = true ∧ sameT t (intT (numZ 0 t.body).1) = true then ((numZ 0 t.body).1, 0) else (0, 2)) := rfl
  have NR := numZ_range t.body hr.2.1 0 (by omega) (by omega)
  have hl := hr.1
  have CN := Lib.hid (rnum_any A n c t.body _ (hr.below B2.out.below) (by omega))
  obtain ⟨g0, g1, g2⟩ := B2.out.cells
  clear hr hks hc hin hm hm' hw hn hl
  generalize (numZ 0 t.body).1 = x at *
  generalize hz : (numZ 0 t.body).2 = is at *
  clear hz
  go_enter Tryz.func33, Tryz.ntmps33
  generalize hw2 : w.alloc (.cells #[.int .i64 t.tag, .slice A n c, .slice K m d] 28) = w2 at *
  go_wp2_with fail
  refine CN.out.mono ?_
  rintro e w3 ⟨rfl, rfl⟩
  clear hw2 CN
  go_wp2_with fail
  clear g0 g1 g2
  obtain ⟨l0, l1, l2⟩ := B2.out.laters
  have CB := Lib.hid (fun W => rint_any x W NR.1 NR.2)
  have CS := Lib.hid (fun W (hW : Ext w3 W) u (y : T) (hy : y.In W u) => same_any t y _ u W (T.In.below hW t B2.out.has) hy)
  refine wp_region_ord Ext Ext.refl (fun _ _ _ => Ext.trans) ((0, false) :: (1, false) :: (2, false) :: (3, false) :: (4, false) :: (5, true) :: (6, true) :: (7, false) :: (8, false) :: []) (by kernel_rfl) (by kernel_rfl) rfl (by kernel_rfl) (fun _ _ _ _ _ h => h) ?_
  cases is
  · have F : Hid (uintZ t = (0, 2)) := by rw [GZ.out]; simp [Hid]
    clear GZ CB CS
    repeat (first | (refine ord_take _ rfl (by rfl) (fun W hW => by go_simp; first | done | rfl) ?_; simp only [Act.put, List.setIfInBounds_toArray, List.set_cons_zero, List.set_cons_succ]) | (refine ord_skip rfl (by rfl) ?_; simp only [Act.put, List.setIfInBounds_toArray, List.set_cons_zero, List.set_cons_succ]))
    refine ord_end ?_
    go_wp2_with fail
    go_ret2
    exact GivesUint.of F.out (Ext.drew B2.out.below)
  have GX : Hid (uintZ t = if sameT t (intT x) = true then (x, 0) else (0, 2)) := by rw [GZ.out]; simp [Hid]
  clear GZ
  repeat (refine ord_take _ rfl (by rfl) (fun W hW => by go_simp; first | done | rfl) ?_; simp only [Act.put, List.setIfInBounds_toArray, List.set_cons_zero, List.set_cons_succ])
  clear l0 l1 l2
  refine ord_sole rfl (by rfl) (fun K1 hK1 => ?_)
  go_simp
  refine (CB.out _).mono ?_
  rintro e w4 ⟨A3, n3, c3, K3, m3, d3, rfl, hin3, hb3⟩
  have E3 : Hid (Ext w3 w4) := Ext.of_drew hb3
  have H3 := Lib.hid (T.InP.in _ hin3)
  refine hK1 _ _ hb3 ?_
  clear hK1 K1 CB hb3 hin3
  refine ord_sole rfl (by rfl) (fun K1 hK1 => ?_)
  go_simp
  refine (CS.out _ E3.out _ _ H3.out).mono ?_
  rintro e w5 ⟨rfl, hb4⟩
  have E4 : Hid (Ext w3 w5) := Ext.trans E3.out hb4
  refine hK1 _ _ hb4 ?_
  clear hK1 K1 CS hb4 H3 E3
  have B4 := Lib.hid (Below.step B2.out.below E4.out)
  clear B2 E4
  cases hs : sameT t (intT x)
  · have F : Hid (uintZ t = (0, 2)) := by rw [GX.out, hs]; rfl
    repeat (refine ord_take _ rfl (by rfl) (fun W hW => by go_simp; first | done | rfl) ?_; simp only [Act.put, List.setIfInBounds_toArray, List.set_cons_zero, List.set_cons_succ])
    refine ord_end ?_
    go_wp2_with fail
    go_ret2
    exact GivesUint.of F.out B4.out
  · have F : Hid (uintZ t = (x, 0)) := by rw [GX.out, hs]; rfl
    repeat (refine ord_take _ rfl (by rfl) (fun W hW => by go_simp; first | done | rfl) ?_; simp only [Act.put, List.setIfInBounds_toArray, List.set_cons_zero, List.set_cons_succ])
    refine ord_end ?_
    go_wp2_with fail
    go_ret2
    exact GivesUint.of F.out B4.out
end Go.Proofs.YtgmefdmeeihgoaaGreatDoor
namespace Go.Proofs.YtgmefdmeeihgoaaGreatDoor
open Go.RowKit
set_option linter.unusedVariables false
def GivesNodeE (x : T × Int) (w : World) (e : Ending) (w' : World) : Prop :=
  ∃ (A : Option Addr) (n c : Nat) (K : Option Addr) (m d : Nat), e = .returned (.tuple #[.agg #[.int .i64 x.1.tag, .slice A n c, .slice K m d], .int .i64 x.2]) ∧ x.1.InP (w.heap.size ≤ ·) w' (.agg #[.int .i64 x.1.tag, .slice A n c, .slice K m d]) ∧ Below w.heap.size w w'
theorem results_nodee {P : Program} {fn : Func} {p u : Tmp} {ty : TypeId} (h : fn.results = #[.cell p ty, .tmp u]) (tmps : Array Value) (w : World) (g : Nat) (t : TypeId) (cs : Array Value) (fr : Nat × Nat) (d : TypeDesc)
    (hp : tmps.getD p undef = .pointer (some ⟨g, 0, none⟩)) (hg : w.heap[g]? = some (.cells cs t fr))
    (hu : P.underlying ty = some d) (hd : (match d with | .struct _ | .array _ _ => true | _ => false) = true) (hi : (P.info? ty).map (·.size) = some cs.size) :
    (results fn tmps).run P w = .ok (.tuple #[.agg cs, tmps.getD u undef]) w := by
  rw [results_cell_tmp h, hp]
  simp [asAddr, run_loadVar_row w g t ty cs fr d hg hu hd hi, Result.andThen]
theorem gives_ate {w W : World} {tmps : Array Value} {fn : Func} {p u : Tmp} {x : T × Int} {z er : Int} {zs : List Int} {a : Option Addr} {c : Nat} (hx : x = (.node z zs [], er)) (hf : fn.results = #[.cell p 28, .tmp u]) (hp : tmps.getD p undef = .pointer (some ⟨w.heap.size, 0, none⟩)) (hu : tmps.getD u undef = .int .i64 er) (hblk : Blk W w.heap.size 28 #[.int .i64 z, .slice a zs.length c, .slice none 0 0]) (hbel : Below w.heap.size w W) (hr : Row W a zs.length zs) (hg : 0 < zs.length → ∃ b off, a = some ⟨b, off, none⟩ ∧ w.heap.size ≤ b) (hnil : (a = none → c = 0) ∧ zs.length ≤ c) (hz : (Lit.int .i64 z).wf = true) (hn : zs.length ≤ 1000000) :
    bodyPost Tryz.prog fn (GivesNodeE x w) .ret { tmps := tmps, defers := [] } W := by
  subst hx
  have h := results_nodee (P := Tryz.prog) hf tmps W w.heap.size 28 #[.int .i64 z, .slice a zs.length c, .slice none 0 0] (0, 0) _ hp hblk Tryz.underlying28 rfl Tryz.sizeNode3
  rw [hu] at h
  exact bodyPost_ret h rfl ⟨a, zs.length, c, none, 0, 0, rfl, leaf_inP hz hr hn hnil hg, hbel⟩
theorem gives_leafe {w W : World} {tmps : Array Value} {fn : Func} {p u : Tmp} {x : T × Int} {z er : Int} {zs : List Int} {a : Option Addr} {c : Nat} (hx : x = (.node z zs [], er)) (hf : fn.results = #[.cell p 28, .tmp u]) (hp : tmps.getD p undef = .pointer (some ⟨w.heap.size, 0, none⟩)) (hu : tmps.getD u undef = .int .i64 er) (hrb : RB w W) (hr : Row W a zs.length zs) (hg : 0 < zs.length → ∃ b off, a = some ⟨b, off, none⟩ ∧ w.heap.size < b) (hnil : (a = none → c = 0) ∧ zs.length ≤ c) (hz : (Lit.int .i64 z).wf = true) (hn : zs.length ≤ 1000000) :
    bodyPost Tryz.prog fn (GivesNodeE x w) .ret { tmps := tmps, defers := [] } (boxed w W (.int .i64 z) (.slice a zs.length c) (.slice none 0 0)) := by
  obtain ⟨h1, h2⟩ := hrb.boxed (.int .i64 z) (.slice a zs.length c) (.slice none 0 0)
  refine gives_ate hx hf hp hu h1 h2 (boxed_row hr (fun h0 => ?_) _ _ _) (fun h0 => ?_) hnil hz hn
  · obtain ⟨b, off, e, hb⟩ := hg h0
    exact ⟨b, off, e, by omega⟩
  · obtain ⟨b, off, e, hb⟩ := hg h0
    exact ⟨b, off, e, by omega⟩
def HasNode (t : T) (w : World) (e : Ending) (w' : World) : Prop :=
  ∃ (A : Option Addr) (n c : Nat) (K : Option Addr) (m d : Nat), e = .returned (.agg #[.int .i64 t.tag, .slice A n c, .slice K m d]) ∧ t.In w' (.agg #[.int .i64 t.tag, .slice A n c, .slice K m d]) ∧ Below w.heap.size w w'
def HasNodeE (x : T × Int) (w : World) (e : Ending) (w' : World) : Prop :=
  ∃ (A : Option Addr) (n c : Nat) (K : Option Addr) (m d : Nat), e = .returned (.tuple #[.agg #[.int .i64 x.1.tag, .slice A n c, .slice K m d], .int .i64 x.2]) ∧ x.1.In w' (.agg #[.int .i64 x.1.tag, .slice A n c, .slice K m d]) ∧ Below w.heap.size w w'
theorem GivesNodeE.has {x : T × Int} {w w' : World} {e : Ending} (h : GivesNodeE x w e w') : HasNodeE x w e w' := by
  obtain ⟨A, n, c, K, m, d, e, hin, hb⟩ := h
  exact ⟨A, n, c, K, m, d, e, T.InP.in _ hin, hb⟩
end Go.Proofs.YtgmefdmeeihgoaaGreatDoor
namespace Go.Proofs.YtgmefdmeeihgoaaGreatDoor
open Go.RowKit
set_option linter.unusedVariables false
def leftZ (zs : List Int) (many : Int) : Int := 8 * (zs.length : Int) - many
def FitBits (zs : List Int) (many : Int) : Prop := ¬ many < 0 ∧ ¬ 8 * (zs.length : Int) < many ∧ (zs.length : Int) = (many + 7) / 8
instance (zs : List Int) (many : Int) : Decidable (FitBits zs many) := by unfold FitBits; infer_instance
def bitsZ (zs : List Int) (many : Int) : T × Int :=
  if FitBits zs many then (if 0 < leftZ zs many ∧ (zs[zs.length - 1]?.getD 0) % 2 ^ (leftZ zs many).toNat ≠ 0 then (zeroT, 1) else (.node 3 (leftZ zs many :: zs) [], 0)) else (zeroT, 1)
set_option maxHeartbeats 4000000 in
set_option maxRecDepth 100000 in
theorem rbits_any (a : Option Addr) (n ca : Nat) (zs : List Int) (many : Int) (w : World) (hr : Row w a n zs) (hn : n ≤ 100000) (hnil : a = none → ca = 0) : Calls Tryz.prog 24 #[.slice a n ca, .int .i64 many] w (GivesNodeE (bitsZ zs many) w) := by
  have S0 := Lib.hid (RB.start w)
  have R0 := Lib.hid (hr.below S0.out.below)
  have HL := Lib.hid hr.1
  have HB := Lib.hid hr.2.1
  have NI := Lib.hid hnil
  clear hr hnil
  have FB : FitBits zs many ↔ (¬ many < 0 ∧ ¬ 8 * (n : Int) < many ∧ (n : Int) = (many + 7) / 8) := by unfold FitBits; rw [HL.out]
  go_enter Tryz.func24, Tryz.ntmps24
  by_cases hfit : FitBits zs many
  rotate_left
  · have F : Hid (bitsZ zs many = (.node 0 [] [], 1)) := if_neg hfit
    rw [FB] at hfit
    have RN := Lib.hid (Row.nil (w.alloc (.cells #[.int .i64 0, .slice none 0 0, .slice none 0 0] 28)))
    by_cases h1 : many < 0
    · go_wp2_with fail
      exact gives_ate (zs := []) (c := 0) F.out rfl rfl rfl S0.out.box S0.out.below (RN.out _) (fun h => absurd h (by simp)) ⟨fun _ => rfl, Nat.le_refl _⟩ rfl (by simp)
    by_cases h2 : 8 * (n : Int) < many
    · go_wp2_with fail
      exact gives_ate (zs := []) (c := 0) F.out rfl rfl rfl S0.out.box S0.out.below (RN.out _) (fun h => absurd h (by simp)) ⟨fun _ => rfl, Nat.le_refl _⟩ rfl (by simp)
    have h3 : ¬ (n : Int) = (many + 7) / 8 := fun h => hfit ⟨h1, h2, h⟩
    have t3 : ((n : Int) != (many + 7) / 8) = true := by simpa using h3
    go_wp2_with fail
    exact gives_ate (zs := []) (c := 0) F.out rfl rfl rfl S0.out.box S0.out.below (RN.out _) (fun h => absurd h (by simp)) ⟨fun _ => rfl, Nat.le_refl _⟩ rfl (by simp)
  have BZ : Hid (bitsZ zs many = if 0 < leftZ zs many ∧ (zs[zs.length - 1]?.getD 0) % 2 ^ (leftZ zs many).toNat ≠ 0 then (zeroT, 1) else (.node 3 (leftZ zs many :: zs) [], 0)) := if_pos hfit
  rw [FB] at hfit
  clear FB
  obtain ⟨h1, h2, h3⟩ := hfit
  have t3 : ((n : Int) != (many + 7) / 8) = false := by simpa using h3
  have LZ : Hid (leftZ zs many = 8 * (n : Int) - many) := by unfold leftZ; rw [HL.out]; exact Lib.hid rfl
  have hq : 8 * (n : Int) - many = 0 ∨ 8 * (n : Int) - many = 1 ∨ 8 * (n : Int) - many = 2 ∨ 8 * (n : Int) - many = 3 ∨ 8 * (n : Int) - many = 4 ∨ 8 * (n : Int) - many = 5 ∨ 8 * (n : Int) - many = 6 ∨ 8 * (n : Int) - many = 7 := by omega
  have H3 := Lib.hid h3
  clear h3
  rcases hq with hq | hq | hq | hq | hq | hq | hq | hq
  · have F : Hid (bitsZ zs many = (.node 3 (0 :: zs) [], 0)) := by rw [BZ.out, LZ.out, hq]; simp [Hid]
    clear BZ LZ
    go_wp2_with fail
    generalize hw0 : w.alloc (.cells #[.int .i64 0, .slice none 0 0, .slice none 0 0] 28) = w0 at *
    have hlt0 : w.heap.size < w0.heap.size := S0.out.box.lt
    clear hw0
    refine wp_region_ord Ext Ext.refl (fun _ _ _ => Ext.trans) ((0, false) :: (1, false) :: (2, false) :: (3, false) :: (4, false) :: (5, false) :: (6, false) :: (7, false) :: (8, false) :: (9, false) :: (10, false) :: (11, false) :: (12, false) :: (13, false) :: []) (by kernel_rfl) (by kernel_rfl) rfl (by kernel_rfl) (fun _ _ _ _ _ h => h) ?_
    repeat (first | (refine ord_take _ rfl (by rfl) (fun W hW => by go_simp; first | done | rfl) ?_; simp only [Act.put, List.setIfInBounds_toArray, List.set_cons_zero, List.set_cons_succ]) | (refine ord_skip rfl (by rfl) ?_; simp only [Act.put, List.setIfInBounds_toArray, List.set_cons_zero, List.set_cons_succ]))
    refine ord_end ?_
    have E1 : Hid (Ext w0 w0.drew) := Ext.drew (Ext.refl w0)
    generalize w0.drew = w1 at E1 ⊢
    have R1 := Lib.hid (R0.out.below E1.out)
    have S1 := Lib.hid (S0.out.go E1.out)
    have hlt1 : w.heap.size < w1.heap.size := S1.out.box.lt
    clear R0 S0 E1 hlt0
    have O3 := Lib.hid (out_one w1 0)
    have R3 := Lib.hid (R1.out.below ((Below.refl w1.heap.size w1).alloc (Nat.le_refl _) (.cells #[.int .u8 0] 5)))
    go_wp2_with (at_builtin; go_must (refine out_append (W0 := w1) (L := [0]) (zs := zs) rfl _ _ rfl rfl O3.out rfl R3.out NI.out (by simp; omega) ?_; intro V4 w4 ho4; have O4 := Lib.hid ho4; have S4 := Lib.hid (S1.out.go ho4.2); obtain ⟨p0, p1, p2, f0, f1, f2⟩ := S4.out.box.six; obtain ⟨b4, c4, rfl, hr4⟩ := ho4.row (by intro y hy; rcases List.mem_cons.1 hy with rfl | hy; omega; exact HB.out y hy); have R4 := Lib.hid hr4; clear ho4 hr4))
    exact gives_leafe (zs := 0 :: zs) (c := c4) F.out rfl rfl rfl S4.out R4.out (fun h0 => by obtain ⟨b, off, e, hb⟩ := out_off O4.out h0; exact ⟨b, off, e, Nat.lt_of_lt_of_le hlt1 hb⟩) ⟨O4.out.nilc, own_cap O4.out.1⟩ rfl (by have := HL.out; simp; omega)
  · obtain ⟨k, rfl⟩ : ∃ k, n = k + 1 := ⟨n - 1, by have := H3.out; omega⟩
    obtain ⟨b, off, rfl, hbl, hc⟩ := R0.out.2.2 (by omega)
    have l0 := cell_later (hc k (by omega))
    have z0 := R0.out.byte k
    have BQ : Hid (bitsZ zs many = if zs[k]?.getD 0 % 2 ≠ 0 then (zeroT, 1) else (.node 3 (1 :: zs) [], 0)) := by rw [BZ.out, LZ.out, hq, HL.out]; simp [Hid]
    clear BZ LZ hc hbl
    generalize zs[k]?.getD 0 = x at *
    have hq2 : 8 * ((k : Int) + 1) - many = 1 := by omega
    have h22 : ¬ 8 * ((k : Int) + 1) < many := by omega
    have t33 : ((k : Int) + 1 != (many + 7) / 8) = false := t3
    have wk : IntKind.i64.wrap (k : Int) = k := IntWalk.i64_in _ (by omega)
    have kk : (k : Int) < (k : Int) + 1 := by omega
    have w8 : IntKind.u8.wrap 2 = 2 := IntWalk.u8_in _ (by omega)
    have tm : x.tmod 2 = x % 2 := Int.tmod_eq_emod_of_nonneg z0.1
    clear hq h2 t3
    go_wp2_with fail
    generalize hw0 : w.alloc (.cells #[.int .i64 0, .slice none 0 0, .slice none 0 0] 28) = w0 at *
    have hlt0 : w.heap.size < w0.heap.size := S0.out.box.lt
    clear hw0
    by_cases hx : x % 2 = 0
    · have F : Hid (bitsZ zs many = (.node 3 (1 :: zs) [], 0)) := by rw [BQ.out, if_neg (by simpa using hx)]; exact Lib.hid rfl
      clear BQ
      refine wp_region_ord Ext Ext.refl (fun _ _ _ => Ext.trans) ((0, false) :: (1, false) :: (2, false) :: (3, false) :: (4, false) :: (5, false) :: (6, false) :: (7, false) :: (8, false) :: (9, false) :: (10, false) :: (11, false) :: (12, false) :: (13, false) :: []) (by kernel_rfl) (by kernel_rfl) rfl (by kernel_rfl) (fun _ _ _ _ _ h => h) ?_
      repeat (first | (refine ord_take _ rfl (by rfl) (fun W hW => by go_simp; first | done | rfl) ?_; simp only [Act.put, List.setIfInBounds_toArray, List.set_cons_zero, List.set_cons_succ]) | (refine ord_skip rfl (by rfl) ?_; simp only [Act.put, List.setIfInBounds_toArray, List.set_cons_zero, List.set_cons_succ]))
      refine ord_end ?_
      clear l0
      have E1 : Hid (Ext w0 w0.drew) := Ext.drew (Ext.refl w0)
      generalize w0.drew = w1 at E1 ⊢
      have R1 := Lib.hid (R0.out.below E1.out)
      have S1 := Lib.hid (S0.out.go E1.out)
      have hlt1 : w.heap.size < w1.heap.size := S1.out.box.lt
      clear R0 S0 E1 hlt0
      have O3 := Lib.hid (out_one w1 1)
      have R3 := Lib.hid (R1.out.below ((Below.refl w1.heap.size w1).alloc (Nat.le_refl _) (.cells #[.int .u8 1] 5)))
      go_wp2_with (at_builtin; go_must (refine out_append (W0 := w1) (L := [1]) (zs := zs) rfl _ _ rfl rfl O3.out rfl R3.out NI.out (by simp; omega) ?_; intro V4 w4 ho4; have O4 := Lib.hid ho4; have S4 := Lib.hid (S1.out.go ho4.2); obtain ⟨p0, p1, p2, f0, f1, f2⟩ := S4.out.box.six; obtain ⟨b4, c4, rfl, hr4⟩ := ho4.row (by intro y hy; rcases List.mem_cons.1 hy with rfl | hy; omega; exact HB.out y hy); have R4 := Lib.hid hr4; clear ho4 hr4))
      exact gives_leafe (zs := 1 :: zs) (c := c4) F.out rfl rfl rfl S4.out R4.out (fun h0 => by obtain ⟨b, off, e, hb⟩ := out_off O4.out h0; exact ⟨b, off, e, Nat.lt_of_lt_of_le hlt1 hb⟩) ⟨O4.out.nilc, own_cap O4.out.1⟩ rfl (by have := HL.out; simp; omega)
    · have F : Hid (bitsZ zs many = (.node 0 [] [], 1)) := by rw [BQ.out, if_pos (by simpa using hx)]; exact Lib.hid rfl
      have tx : (x % 2 != 0) = true := by simpa using hx
      clear BQ
      have RN := Lib.hid (Row.nil w0.drew)
      have S4 := Lib.hid (S0.out.go (Ext.drew (Ext.refl w0)))
      refine wp_region_ord Ext Ext.refl (fun _ _ _ => Ext.trans) ((0, false) :: (1, false) :: (2, false) :: (3, false) :: (4, false) :: (5, false) :: (6, false) :: (7, false) :: (8, false) :: (9, false) :: (10, false) :: (11, false) :: (12, false) :: (13, false) :: []) (by kernel_rfl) (by kernel_rfl) rfl (by kernel_rfl) (fun _ _ _ _ _ h => h) ?_
      repeat (first | (refine ord_take _ rfl (by rfl) (fun W hW => by go_simp; first | done | rfl) ?_; simp only [Act.put, List.setIfInBounds_toArray, List.set_cons_zero, List.set_cons_succ]) | (refine ord_skip rfl (by rfl) ?_; simp only [Act.put, List.setIfInBounds_toArray, List.set_cons_zero, List.set_cons_succ]))
      refine ord_end ?_
      clear l0
      generalize w0.drew = w1 at S4 RN ⊢
      obtain ⟨p0, p1, p2, f0, f1, f2⟩ := S4.out.box.six
      go_wp2_with fail
      exact gives_leafe (zs := []) (c := 0) F.out rfl rfl rfl S4.out (RN.out _) (fun h => absurd h (by simp)) ⟨fun _ => rfl, Nat.le_refl _⟩ rfl (by simp)
  · obtain ⟨k, rfl⟩ : ∃ k, n = k + 1 := ⟨n - 1, by have := H3.out; omega⟩
    obtain ⟨b, off, rfl, hbl, hc⟩ := R0.out.2.2 (by omega)
    have l0 := cell_later (hc k (by omega))
    have z0 := R0.out.byte k
    have BQ : Hid (bitsZ zs many = if zs[k]?.getD 0 % 4 ≠ 0 then (zeroT, 1) else (.node 3 (2 :: zs) [], 0)) := by rw [BZ.out, LZ.out, hq, HL.out]; simp [Hid]
    clear BZ LZ hc hbl
    generalize zs[k]?.getD 0 = x at *
    have hq2 : 8 * ((k : Int) + 1) - many = 2 := by omega
    have h22 : ¬ 8 * ((k : Int) + 1) < many := by omega
    have t33 : ((k : Int) + 1 != (many + 7) / 8) = false := t3
    have wk : IntKind.i64.wrap (k : Int) = k := IntWalk.i64_in _ (by omega)
    have kk : (k : Int) < (k : Int) + 1 := by omega
    have w8 : IntKind.u8.wrap 4 = 4 := IntWalk.u8_in _ (by omega)
    have tm : x.tmod 4 = x % 4 := Int.tmod_eq_emod_of_nonneg z0.1
    clear hq h2 t3
    go_wp2_with fail
    generalize hw0 : w.alloc (.cells #[.int .i64 0, .slice none 0 0, .slice none 0 0] 28) = w0 at *
    have hlt0 : w.heap.size < w0.heap.size := S0.out.box.lt
    clear hw0
    by_cases hx : x % 4 = 0
    · have F : Hid (bitsZ zs many = (.node 3 (2 :: zs) [], 0)) := by rw [BQ.out, if_neg (by simpa using hx)]; exact Lib.hid rfl
      clear BQ
      refine wp_region_ord Ext Ext.refl (fun _ _ _ => Ext.trans) ((0, false) :: (1, false) :: (2, false) :: (3, false) :: (4, false) :: (5, false) :: (6, false) :: (7, false) :: (8, false) :: (9, false) :: (10, false) :: (11, false) :: (12, false) :: (13, false) :: []) (by kernel_rfl) (by kernel_rfl) rfl (by kernel_rfl) (fun _ _ _ _ _ h => h) ?_
      repeat (first | (refine ord_take _ rfl (by rfl) (fun W hW => by go_simp; first | done | rfl) ?_; simp only [Act.put, List.setIfInBounds_toArray, List.set_cons_zero, List.set_cons_succ]) | (refine ord_skip rfl (by rfl) ?_; simp only [Act.put, List.setIfInBounds_toArray, List.set_cons_zero, List.set_cons_succ]))
      refine ord_end ?_
      clear l0
      have E1 : Hid (Ext w0 w0.drew) := Ext.drew (Ext.refl w0)
      generalize w0.drew = w1 at E1 ⊢
      have R1 := Lib.hid (R0.out.below E1.out)
      have S1 := Lib.hid (S0.out.go E1.out)
      have hlt1 : w.heap.size < w1.heap.size := S1.out.box.lt
      clear R0 S0 E1 hlt0
      have O3 := Lib.hid (out_one w1 2)
      have R3 := Lib.hid (R1.out.below ((Below.refl w1.heap.size w1).alloc (Nat.le_refl _) (.cells #[.int .u8 2] 5)))
      go_wp2_with (at_builtin; go_must (refine out_append (W0 := w1) (L := [2]) (zs := zs) rfl _ _ rfl rfl O3.out rfl R3.out NI.out (by simp; omega) ?_; intro V4 w4 ho4; have O4 := Lib.hid ho4; have S4 := Lib.hid (S1.out.go ho4.2); obtain ⟨p0, p1, p2, f0, f1, f2⟩ := S4.out.box.six; obtain ⟨b4, c4, rfl, hr4⟩ := ho4.row (by intro y hy; rcases List.mem_cons.1 hy with rfl | hy; omega; exact HB.out y hy); have R4 := Lib.hid hr4; clear ho4 hr4))
      exact gives_leafe (zs := 2 :: zs) (c := c4) F.out rfl rfl rfl S4.out R4.out (fun h0 => by obtain ⟨b, off, e, hb⟩ := out_off O4.out h0; exact ⟨b, off, e, Nat.lt_of_lt_of_le hlt1 hb⟩) ⟨O4.out.nilc, own_cap O4.out.1⟩ rfl (by have := HL.out; simp; omega)
    · have F : Hid (bitsZ zs many = (.node 0 [] [], 1)) := by rw [BQ.out, if_pos (by simpa using hx)]; exact Lib.hid rfl
      have tx : (x % 4 != 0) = true := by simpa using hx
      clear BQ
      have RN := Lib.hid (Row.nil w0.drew)
      have S4 := Lib.hid (S0.out.go (Ext.drew (Ext.refl w0)))
      refine wp_region_ord Ext Ext.refl (fun _ _ _ => Ext.trans) ((0, false) :: (1, false) :: (2, false) :: (3, false) :: (4, false) :: (5, false) :: (6, false) :: (7, false) :: (8, false) :: (9, false) :: (10, false) :: (11, false) :: (12, false) :: (13, false) :: []) (by kernel_rfl) (by kernel_rfl) rfl (by kernel_rfl) (fun _ _ _ _ _ h => h) ?_
      repeat (first | (refine ord_take _ rfl (by rfl) (fun W hW => by go_simp; first | done | rfl) ?_; simp only [Act.put, List.setIfInBounds_toArray, List.set_cons_zero, List.set_cons_succ]) | (refine ord_skip rfl (by rfl) ?_; simp only [Act.put, List.setIfInBounds_toArray, List.set_cons_zero, List.set_cons_succ]))
      refine ord_end ?_
      clear l0
      generalize w0.drew = w1 at S4 RN ⊢
      obtain ⟨p0, p1, p2, f0, f1, f2⟩ := S4.out.box.six
      go_wp2_with fail
      exact gives_leafe (zs := []) (c := 0) F.out rfl rfl rfl S4.out (RN.out _) (fun h => absurd h (by simp)) ⟨fun _ => rfl, Nat.le_refl _⟩ rfl (by simp)
  · obtain ⟨k, rfl⟩ : ∃ k, n = k + 1 := ⟨n - 1, by have := H3.out; omega⟩
    obtain ⟨b, off, rfl, hbl, hc⟩ := R0.out.2.2 (by omega)
    have l0 := cell_later (hc k (by omega))
    have z0 := R0.out.byte k
    have BQ : Hid (bitsZ zs many = if zs[k]?.getD 0 % 8 ≠ 0 then (zeroT, 1) else (.node 3 (3 :: zs) [], 0)) := by rw [BZ.out, LZ.out, hq, HL.out]; simp [Hid]
    clear BZ LZ hc hbl
    generalize zs[k]?.getD 0 = x at *
    have hq2 : 8 * ((k : Int) + 1) - many = 3 := by omega
    have h22 : ¬ 8 * ((k : Int) + 1) < many := by omega
    have t33 : ((k : Int) + 1 != (many + 7) / 8) = false := t3
    have wk : IntKind.i64.wrap (k : Int) = k := IntWalk.i64_in _ (by omega)
    have kk : (k : Int) < (k : Int) + 1 := by omega
    have w8 : IntKind.u8.wrap 8 = 8 := IntWalk.u8_in _ (by omega)
    have tm : x.tmod 8 = x % 8 := Int.tmod_eq_emod_of_nonneg z0.1
    clear hq h2 t3
    go_wp2_with fail
    generalize hw0 : w.alloc (.cells #[.int .i64 0, .slice none 0 0, .slice none 0 0] 28) = w0 at *
    have hlt0 : w.heap.size < w0.heap.size := S0.out.box.lt
    clear hw0
    by_cases hx : x % 8 = 0
    · have F : Hid (bitsZ zs many = (.node 3 (3 :: zs) [], 0)) := by rw [BQ.out, if_neg (by simpa using hx)]; exact Lib.hid rfl
      clear BQ
      refine wp_region_ord Ext Ext.refl (fun _ _ _ => Ext.trans) ((0, false) :: (1, false) :: (2, false) :: (3, false) :: (4, false) :: (5, false) :: (6, false) :: (7, false) :: (8, false) :: (9, false) :: (10, false) :: (11, false) :: (12, false) :: (13, false) :: []) (by kernel_rfl) (by kernel_rfl) rfl (by kernel_rfl) (fun _ _ _ _ _ h => h) ?_
      repeat (first | (refine ord_take _ rfl (by rfl) (fun W hW => by go_simp; first | done | rfl) ?_; simp only [Act.put, List.setIfInBounds_toArray, List.set_cons_zero, List.set_cons_succ]) | (refine ord_skip rfl (by rfl) ?_; simp only [Act.put, List.setIfInBounds_toArray, List.set_cons_zero, List.set_cons_succ]))
      refine ord_end ?_
      clear l0
      have E1 : Hid (Ext w0 w0.drew) := Ext.drew (Ext.refl w0)
      generalize w0.drew = w1 at E1 ⊢
      have R1 := Lib.hid (R0.out.below E1.out)
      have S1 := Lib.hid (S0.out.go E1.out)
      have hlt1 : w.heap.size < w1.heap.size := S1.out.box.lt
      clear R0 S0 E1 hlt0
      have O3 := Lib.hid (out_one w1 3)
      have R3 := Lib.hid (R1.out.below ((Below.refl w1.heap.size w1).alloc (Nat.le_refl _) (.cells #[.int .u8 3] 5)))
      go_wp2_with (at_builtin; go_must (refine out_append (W0 := w1) (L := [3]) (zs := zs) rfl _ _ rfl rfl O3.out rfl R3.out NI.out (by simp; omega) ?_; intro V4 w4 ho4; have O4 := Lib.hid ho4; have S4 := Lib.hid (S1.out.go ho4.2); obtain ⟨p0, p1, p2, f0, f1, f2⟩ := S4.out.box.six; obtain ⟨b4, c4, rfl, hr4⟩ := ho4.row (by intro y hy; rcases List.mem_cons.1 hy with rfl | hy; omega; exact HB.out y hy); have R4 := Lib.hid hr4; clear ho4 hr4))
      exact gives_leafe (zs := 3 :: zs) (c := c4) F.out rfl rfl rfl S4.out R4.out (fun h0 => by obtain ⟨b, off, e, hb⟩ := out_off O4.out h0; exact ⟨b, off, e, Nat.lt_of_lt_of_le hlt1 hb⟩) ⟨O4.out.nilc, own_cap O4.out.1⟩ rfl (by have := HL.out; simp; omega)
    · have F : Hid (bitsZ zs many = (.node 0 [] [], 1)) := by rw [BQ.out, if_pos (by simpa using hx)]; exact Lib.hid rfl
      have tx : (x % 8 != 0) = true := by simpa using hx
      clear BQ
      have RN := Lib.hid (Row.nil w0.drew)
      have S4 := Lib.hid (S0.out.go (Ext.drew (Ext.refl w0)))
      refine wp_region_ord Ext Ext.refl (fun _ _ _ => Ext.trans) ((0, false) :: (1, false) :: (2, false) :: (3, false) :: (4, false) :: (5, false) :: (6, false) :: (7, false) :: (8, false) :: (9, false) :: (10, false) :: (11, false) :: (12, false) :: (13, false) :: []) (by kernel_rfl) (by kernel_rfl) rfl (by kernel_rfl) (fun _ _ _ _ _ h => h) ?_
      repeat (first | (refine ord_take _ rfl (by rfl) (fun W hW => by go_simp; first | done | rfl) ?_; simp only [Act.put, List.setIfInBounds_toArray, List.set_cons_zero, List.set_cons_succ]) | (refine ord_skip rfl (by rfl) ?_; simp only [Act.put, List.setIfInBounds_toArray, List.set_cons_zero, List.set_cons_succ]))
      refine ord_end ?_
      clear l0
      generalize w0.drew = w1 at S4 RN ⊢
      obtain ⟨p0, p1, p2, f0, f1, f2⟩ := S4.out.box.six
      go_wp2_with fail
      exact gives_leafe (zs := []) (c := 0) F.out rfl rfl rfl S4.out (RN.out _) (fun h => absurd h (by simp)) ⟨fun _ => rfl, Nat.le_refl _⟩ rfl (by simp)
  · obtain ⟨k, rfl⟩ : ∃ k, n = k + 1 := ⟨n - 1, by have := H3.out; omega⟩
    obtain ⟨b, off, rfl, hbl, hc⟩ := R0.out.2.2 (by omega)
    have l0 := cell_later (hc k (by omega))
    have z0 := R0.out.byte k
    have BQ : Hid (bitsZ zs many = if zs[k]?.getD 0 % 16 ≠ 0 then (zeroT, 1) else (.node 3 (4 :: zs) [], 0)) := by rw [BZ.out, LZ.out, hq, HL.out]; simp [Hid]
    clear BZ LZ hc hbl
    generalize zs[k]?.getD 0 = x at *
    have hq2 : 8 * ((k : Int) + 1) - many = 4 := by omega
    have h22 : ¬ 8 * ((k : Int) + 1) < many := by omega
    have t33 : ((k : Int) + 1 != (many + 7) / 8) = false := t3
    have wk : IntKind.i64.wrap (k : Int) = k := IntWalk.i64_in _ (by omega)
    have kk : (k : Int) < (k : Int) + 1 := by omega
    have w8 : IntKind.u8.wrap 16 = 16 := IntWalk.u8_in _ (by omega)
    have tm : x.tmod 16 = x % 16 := Int.tmod_eq_emod_of_nonneg z0.1
    clear hq h2 t3
    go_wp2_with fail
    generalize hw0 : w.alloc (.cells #[.int .i64 0, .slice none 0 0, .slice none 0 0] 28) = w0 at *
    have hlt0 : w.heap.size < w0.heap.size := S0.out.box.lt
    clear hw0
    by_cases hx : x % 16 = 0
    · have F : Hid (bitsZ zs many = (.node 3 (4 :: zs) [], 0)) := by rw [BQ.out, if_neg (by simpa using hx)]; exact Lib.hid rfl
      clear BQ
      refine wp_region_ord Ext Ext.refl (fun _ _ _ => Ext.trans) ((0, false) :: (1, false) :: (2, false) :: (3, false) :: (4, false) :: (5, false) :: (6, false) :: (7, false) :: (8, false) :: (9, false) :: (10, false) :: (11, false) :: (12, false) :: (13, false) :: []) (by kernel_rfl) (by kernel_rfl) rfl (by kernel_rfl) (fun _ _ _ _ _ h => h) ?_
      repeat (first | (refine ord_take _ rfl (by rfl) (fun W hW => by go_simp; first | done | rfl) ?_; simp only [Act.put, List.setIfInBounds_toArray, List.set_cons_zero, List.set_cons_succ]) | (refine ord_skip rfl (by rfl) ?_; simp only [Act.put, List.setIfInBounds_toArray, List.set_cons_zero, List.set_cons_succ]))
      refine ord_end ?_
      clear l0
      have E1 : Hid (Ext w0 w0.drew) := Ext.drew (Ext.refl w0)
      generalize w0.drew = w1 at E1 ⊢
      have R1 := Lib.hid (R0.out.below E1.out)
      have S1 := Lib.hid (S0.out.go E1.out)
      have hlt1 : w.heap.size < w1.heap.size := S1.out.box.lt
      clear R0 S0 E1 hlt0
      have O3 := Lib.hid (out_one w1 4)
      have R3 := Lib.hid (R1.out.below ((Below.refl w1.heap.size w1).alloc (Nat.le_refl _) (.cells #[.int .u8 4] 5)))
      go_wp2_with (at_builtin; go_must (refine out_append (W0 := w1) (L := [4]) (zs := zs) rfl _ _ rfl rfl O3.out rfl R3.out NI.out (by simp; omega) ?_; intro V4 w4 ho4; have O4 := Lib.hid ho4; have S4 := Lib.hid (S1.out.go ho4.2); obtain ⟨p0, p1, p2, f0, f1, f2⟩ := S4.out.box.six; obtain ⟨b4, c4, rfl, hr4⟩ := ho4.row (by intro y hy; rcases List.mem_cons.1 hy with rfl | hy; omega; exact HB.out y hy); have R4 := Lib.hid hr4; clear ho4 hr4))
      exact gives_leafe (zs := 4 :: zs) (c := c4) F.out rfl rfl rfl S4.out R4.out (fun h0 => by obtain ⟨b, off, e, hb⟩ := out_off O4.out h0; exact ⟨b, off, e, Nat.lt_of_lt_of_le hlt1 hb⟩) ⟨O4.out.nilc, own_cap O4.out.1⟩ rfl (by have := HL.out; simp; omega)
    · have F : Hid (bitsZ zs many = (.node 0 [] [], 1)) := by rw [BQ.out, if_pos (by simpa using hx)]; exact Lib.hid rfl
      have tx : (x % 16 != 0) = true := by simpa using hx
      clear BQ
      have RN := Lib.hid (Row.nil w0.drew)
      have S4 := Lib.hid (S0.out.go (Ext.drew (Ext.refl w0)))
      refine wp_region_ord Ext Ext.refl (fun _ _ _ => Ext.trans) ((0, false) :: (1, false) :: (2, false) :: (3, false) :: (4, false) :: (5, false) :: (6, false) :: (7, false) :: (8, false) :: (9, false) :: (10, false) :: (11, false) :: (12, false) :: (13, false) :: []) (by kernel_rfl) (by kernel_rfl) rfl (by kernel_rfl) (fun _ _ _ _ _ h => h) ?_
      repeat (first | (refine ord_take _ rfl (by rfl) (fun W hW => by go_simp; first | done | rfl) ?_; simp only [Act.put, List.setIfInBounds_toArray, List.set_cons_zero, List.set_cons_succ]) | (refine ord_skip rfl (by rfl) ?_; simp only [Act.put, List.setIfInBounds_toArray, List.set_cons_zero, List.set_cons_succ]))
      refine ord_end ?_
      clear l0
      generalize w0.drew = w1 at S4 RN ⊢
      obtain ⟨p0, p1, p2, f0, f1, f2⟩ := S4.out.box.six
      go_wp2_with fail
      exact gives_leafe (zs := []) (c := 0) F.out rfl rfl rfl S4.out (RN.out _) (fun h => absurd h (by simp)) ⟨fun _ => rfl, Nat.le_refl _⟩ rfl (by simp)
  · obtain ⟨k, rfl⟩ : ∃ k, n = k + 1 := ⟨n - 1, by have := H3.out; omega⟩
    obtain ⟨b, off, rfl, hbl, hc⟩ := R0.out.2.2 (by omega)
    have l0 := cell_later (hc k (by omega))
    have z0 := R0.out.byte k
    have BQ : Hid (bitsZ zs many = if zs[k]?.getD 0 % 32 ≠ 0 then (zeroT, 1) else (.node 3 (5 :: zs) [], 0)) := by rw [BZ.out, LZ.out, hq, HL.out]; simp [Hid]
    clear BZ LZ hc hbl
    generalize zs[k]?.getD 0 = x at *
    have hq2 : 8 * ((k : Int) + 1) - many = 5 := by omega
    have h22 : ¬ 8 * ((k : Int) + 1) < many := by omega
    have t33 : ((k : Int) + 1 != (many + 7) / 8) = false := t3
    have wk : IntKind.i64.wrap (k : Int) = k := IntWalk.i64_in _ (by omega)
    have kk : (k : Int) < (k : Int) + 1 := by omega
    have w8 : IntKind.u8.wrap 32 = 32 := IntWalk.u8_in _ (by omega)
    have tm : x.tmod 32 = x % 32 := Int.tmod_eq_emod_of_nonneg z0.1
    clear hq h2 t3
    go_wp2_with fail
    generalize hw0 : w.alloc (.cells #[.int .i64 0, .slice none 0 0, .slice none 0 0] 28) = w0 at *
    have hlt0 : w.heap.size < w0.heap.size := S0.out.box.lt
    clear hw0
    by_cases hx : x % 32 = 0
    · have F : Hid (bitsZ zs many = (.node 3 (5 :: zs) [], 0)) := by rw [BQ.out, if_neg (by simpa using hx)]; exact Lib.hid rfl
      clear BQ
      refine wp_region_ord Ext Ext.refl (fun _ _ _ => Ext.trans) ((0, false) :: (1, false) :: (2, false) :: (3, false) :: (4, false) :: (5, false) :: (6, false) :: (7, false) :: (8, false) :: (9, false) :: (10, false) :: (11, false) :: (12, false) :: (13, false) :: []) (by kernel_rfl) (by kernel_rfl) rfl (by kernel_rfl) (fun _ _ _ _ _ h => h) ?_
      repeat (first | (refine ord_take _ rfl (by rfl) (fun W hW => by go_simp; first | done | rfl) ?_; simp only [Act.put, List.setIfInBounds_toArray, List.set_cons_zero, List.set_cons_succ]) | (refine ord_skip rfl (by rfl) ?_; simp only [Act.put, List.setIfInBounds_toArray, List.set_cons_zero, List.set_cons_succ]))
      refine ord_end ?_
      clear l0
      have E1 : Hid (Ext w0 w0.drew) := Ext.drew (Ext.refl w0)
      generalize w0.drew = w1 at E1 ⊢
      have R1 := Lib.hid (R0.out.below E1.out)
      have S1 := Lib.hid (S0.out.go E1.out)
      have hlt1 : w.heap.size < w1.heap.size := S1.out.box.lt
      clear R0 S0 E1 hlt0
      have O3 := Lib.hid (out_one w1 5)
      have R3 := Lib.hid (R1.out.below ((Below.refl w1.heap.size w1).alloc (Nat.le_refl _) (.cells #[.int .u8 5] 5)))
      go_wp2_with (at_builtin; go_must (refine out_append (W0 := w1) (L := [5]) (zs := zs) rfl _ _ rfl rfl O3.out rfl R3.out NI.out (by simp; omega) ?_; intro V4 w4 ho4; have O4 := Lib.hid ho4; have S4 := Lib.hid (S1.out.go ho4.2); obtain ⟨p0, p1, p2, f0, f1, f2⟩ := S4.out.box.six; obtain ⟨b4, c4, rfl, hr4⟩ := ho4.row (by intro y hy; rcases List.mem_cons.1 hy with rfl | hy; omega; exact HB.out y hy); have R4 := Lib.hid hr4; clear ho4 hr4))
      exact gives_leafe (zs := 5 :: zs) (c := c4) F.out rfl rfl rfl S4.out R4.out (fun h0 => by obtain ⟨b, off, e, hb⟩ := out_off O4.out h0; exact ⟨b, off, e, Nat.lt_of_lt_of_le hlt1 hb⟩) ⟨O4.out.nilc, own_cap O4.out.1⟩ rfl (by have := HL.out; simp; omega)
    · have F : Hid (bitsZ zs many = (.node 0 [] [], 1)) := by rw [BQ.out, if_pos (by simpa using hx)]; exact Lib.hid rfl
      have tx : (x % 32 != 0) = true := by simpa using hx
      clear BQ
      have RN := Lib.hid (Row.nil w0.drew)
      have S4 := Lib.hid (S0.out.go (Ext.drew (Ext.refl w0)))
      refine wp_region_ord Ext Ext.refl (fun _ _ _ => Ext.trans) ((0, false) :: (1, false) :: (2, false) :: (3, false) :: (4, false) :: (5, false) :: (6, false) :: (7, false) :: (8, false) :: (9, false) :: (10, false) :: (11, false) :: (12, false) :: (13, false) :: []) (by kernel_rfl) (by kernel_rfl) rfl (by kernel_rfl) (fun _ _ _ _ _ h => h) ?_
      repeat (first | (refine ord_take _ rfl (by rfl) (fun W hW => by go_simp; first | done | rfl) ?_; simp only [Act.put, List.setIfInBounds_toArray, List.set_cons_zero, List.set_cons_succ]) | (refine ord_skip rfl (by rfl) ?_; simp only [Act.put, List.setIfInBounds_toArray, List.set_cons_zero, List.set_cons_succ]))
      refine ord_end ?_
      clear l0
      generalize w0.drew = w1 at S4 RN ⊢
      obtain ⟨p0, p1, p2, f0, f1, f2⟩ := S4.out.box.six
      go_wp2_with fail
      exact gives_leafe (zs := []) (c := 0) F.out rfl rfl rfl S4.out (RN.out _) (fun h => absurd h (by simp)) ⟨fun _ => rfl, Nat.le_refl _⟩ rfl (by simp)
  · obtain ⟨k, rfl⟩ : ∃ k, n = k + 1 := ⟨n - 1, by have := H3.out; omega⟩
    obtain ⟨b, off, rfl, hbl, hc⟩ := R0.out.2.2 (by omega)
    have l0 := cell_later (hc k (by omega))
    have z0 := R0.out.byte k
    have BQ : Hid (bitsZ zs many = if zs[k]?.getD 0 % 64 ≠ 0 then (zeroT, 1) else (.node 3 (6 :: zs) [], 0)) := by rw [BZ.out, LZ.out, hq, HL.out]; simp [Hid]
    clear BZ LZ hc hbl
    generalize zs[k]?.getD 0 = x at *
    have hq2 : 8 * ((k : Int) + 1) - many = 6 := by omega
    have h22 : ¬ 8 * ((k : Int) + 1) < many := by omega
    have t33 : ((k : Int) + 1 != (many + 7) / 8) = false := t3
    have wk : IntKind.i64.wrap (k : Int) = k := IntWalk.i64_in _ (by omega)
    have kk : (k : Int) < (k : Int) + 1 := by omega
    have w8 : IntKind.u8.wrap 64 = 64 := IntWalk.u8_in _ (by omega)
    have tm : x.tmod 64 = x % 64 := Int.tmod_eq_emod_of_nonneg z0.1
    clear hq h2 t3
    go_wp2_with fail
    generalize hw0 : w.alloc (.cells #[.int .i64 0, .slice none 0 0, .slice none 0 0] 28) = w0 at *
    have hlt0 : w.heap.size < w0.heap.size := S0.out.box.lt
    clear hw0
    by_cases hx : x % 64 = 0
    · have F : Hid (bitsZ zs many = (.node 3 (6 :: zs) [], 0)) := by rw [BQ.out, if_neg (by simpa using hx)]; exact Lib.hid rfl
      clear BQ
      refine wp_region_ord Ext Ext.refl (fun _ _ _ => Ext.trans) ((0, false) :: (1, false) :: (2, false) :: (3, false) :: (4, false) :: (5, false) :: (6, false) :: (7, false) :: (8, false) :: (9, false) :: (10, false) :: (11, false) :: (12, false) :: (13, false) :: []) (by kernel_rfl) (by kernel_rfl) rfl (by kernel_rfl) (fun _ _ _ _ _ h => h) ?_
      repeat (first | (refine ord_take _ rfl (by rfl) (fun W hW => by go_simp; first | done | rfl) ?_; simp only [Act.put, List.setIfInBounds_toArray, List.set_cons_zero, List.set_cons_succ]) | (refine ord_skip rfl (by rfl) ?_; simp only [Act.put, List.setIfInBounds_toArray, List.set_cons_zero, List.set_cons_succ]))
      refine ord_end ?_
      clear l0
      have E1 : Hid (Ext w0 w0.drew) := Ext.drew (Ext.refl w0)
      generalize w0.drew = w1 at E1 ⊢
      have R1 := Lib.hid (R0.out.below E1.out)
      have S1 := Lib.hid (S0.out.go E1.out)
      have hlt1 : w.heap.size < w1.heap.size := S1.out.box.lt
      clear R0 S0 E1 hlt0
      have O3 := Lib.hid (out_one w1 6)
      have R3 := Lib.hid (R1.out.below ((Below.refl w1.heap.size w1).alloc (Nat.le_refl _) (.cells #[.int .u8 6] 5)))
      go_wp2_with (at_builtin; go_must (refine out_append (W0 := w1) (L := [6]) (zs := zs) rfl _ _ rfl rfl O3.out rfl R3.out NI.out (by simp; omega) ?_; intro V4 w4 ho4; have O4 := Lib.hid ho4; have S4 := Lib.hid (S1.out.go ho4.2); obtain ⟨p0, p1, p2, f0, f1, f2⟩ := S4.out.box.six; obtain ⟨b4, c4, rfl, hr4⟩ := ho4.row (by intro y hy; rcases List.mem_cons.1 hy with rfl | hy; omega; exact HB.out y hy); have R4 := Lib.hid hr4; clear ho4 hr4))
      exact gives_leafe (zs := 6 :: zs) (c := c4) F.out rfl rfl rfl S4.out R4.out (fun h0 => by obtain ⟨b, off, e, hb⟩ := out_off O4.out h0; exact ⟨b, off, e, Nat.lt_of_lt_of_le hlt1 hb⟩) ⟨O4.out.nilc, own_cap O4.out.1⟩ rfl (by have := HL.out; simp; omega)
    · have F : Hid (bitsZ zs many = (.node 0 [] [], 1)) := by rw [BQ.out, if_pos (by simpa using hx)]; exact Lib.hid rfl
      have tx : (x % 64 != 0) = true := by simpa using hx
      clear BQ
      have RN := Lib.hid (Row.nil w0.drew)
      have S4 := Lib.hid (S0.out.go (Ext.drew (Ext.refl w0)))
      refine wp_region_ord Ext Ext.refl (fun _ _ _ => Ext.trans) ((0, false) :: (1, false) :: (2, false) :: (3, false) :: (4, false) :: (5, false) :: (6, false) :: (7, false) :: (8, false) :: (9, false) :: (10, false) :: (11, false) :: (12, false) :: (13, false) :: []) (by kernel_rfl) (by kernel_rfl) rfl (by kernel_rfl) (fun _ _ _ _ _ h => h) ?_
      repeat (first | (refine ord_take _ rfl (by rfl) (fun W hW => by go_simp; first | done | rfl) ?_; simp only [Act.put, List.setIfInBounds_toArray, List.set_cons_zero, List.set_cons_succ]) | (refine ord_skip rfl (by rfl) ?_; simp only [Act.put, List.setIfInBounds_toArray, List.set_cons_zero, List.set_cons_succ]))
      refine ord_end ?_
      clear l0
      generalize w0.drew = w1 at S4 RN ⊢
      obtain ⟨p0, p1, p2, f0, f1, f2⟩ := S4.out.box.six
      go_wp2_with fail
      exact gives_leafe (zs := []) (c := 0) F.out rfl rfl rfl S4.out (RN.out _) (fun h => absurd h (by simp)) ⟨fun _ => rfl, Nat.le_refl _⟩ rfl (by simp)
  · obtain ⟨k, rfl⟩ : ∃ k, n = k + 1 := ⟨n - 1, by have := H3.out; omega⟩
    obtain ⟨b, off, rfl, hbl, hc⟩ := R0.out.2.2 (by omega)
    have l0 := cell_later (hc k (by omega))
    have z0 := R0.out.byte k
    have BQ : Hid (bitsZ zs many = if zs[k]?.getD 0 % 128 ≠ 0 then (zeroT, 1) else (.node 3 (7 :: zs) [], 0)) := by rw [BZ.out, LZ.out, hq, HL.out]; simp [Hid]
    clear BZ LZ hc hbl
    generalize zs[k]?.getD 0 = x at *
    have hq2 : 8 * ((k : Int) + 1) - many = 7 := by omega
    have h22 : ¬ 8 * ((k : Int) + 1) < many := by omega
    have t33 : ((k : Int) + 1 != (many + 7) / 8) = false := t3
    have wk : IntKind.i64.wrap (k : Int) = k := IntWalk.i64_in _ (by omega)
    have kk : (k : Int) < (k : Int) + 1 := by omega
    have w8 : IntKind.u8.wrap 128 = 128 := IntWalk.u8_in _ (by omega)
    have tm : x.tmod 128 = x % 128 := Int.tmod_eq_emod_of_nonneg z0.1
    clear hq h2 t3
    go_wp2_with fail
    generalize hw0 : w.alloc (.cells #[.int .i64 0, .slice none 0 0, .slice none 0 0] 28) = w0 at *
    have hlt0 : w.heap.size < w0.heap.size := S0.out.box.lt
    clear hw0
    by_cases hx : x % 128 = 0
    · have F : Hid (bitsZ zs many = (.node 3 (7 :: zs) [], 0)) := by rw [BQ.out, if_neg (by simpa using hx)]; exact Lib.hid rfl
      clear BQ
      refine wp_region_ord Ext Ext.refl (fun _ _ _ => Ext.trans) ((0, false) :: (1, false) :: (2, false) :: (3, false) :: (4, false) :: (5, false) :: (6, false) :: (7, false) :: (8, false) :: (9, false) :: (10, false) :: (11, false) :: (12, false) :: (13, false) :: []) (by kernel_rfl) (by kernel_rfl) rfl (by kernel_rfl) (fun _ _ _ _ _ h => h) ?_
      repeat (first | (refine ord_take _ rfl (by rfl) (fun W hW => by go_simp; first | done | rfl) ?_; simp only [Act.put, List.setIfInBounds_toArray, List.set_cons_zero, List.set_cons_succ]) | (refine ord_skip rfl (by rfl) ?_; simp only [Act.put, List.setIfInBounds_toArray, List.set_cons_zero, List.set_cons_succ]))
      refine ord_end ?_
      clear l0
      have E1 : Hid (Ext w0 w0.drew) := Ext.drew (Ext.refl w0)
      generalize w0.drew = w1 at E1 ⊢
      have R1 := Lib.hid (R0.out.below E1.out)
      have S1 := Lib.hid (S0.out.go E1.out)
      have hlt1 : w.heap.size < w1.heap.size := S1.out.box.lt
      clear R0 S0 E1 hlt0
      have O3 := Lib.hid (out_one w1 7)
      have R3 := Lib.hid (R1.out.below ((Below.refl w1.heap.size w1).alloc (Nat.le_refl _) (.cells #[.int .u8 7] 5)))
      go_wp2_with (at_builtin; go_must (refine out_append (W0 := w1) (L := [7]) (zs := zs) rfl _ _ rfl rfl O3.out rfl R3.out NI.out (by simp; omega) ?_; intro V4 w4 ho4; have O4 := Lib.hid ho4; have S4 := Lib.hid (S1.out.go ho4.2); obtain ⟨p0, p1, p2, f0, f1, f2⟩ := S4.out.box.six; obtain ⟨b4, c4, rfl, hr4⟩ := ho4.row (by intro y hy; rcases List.mem_cons.1 hy with rfl | hy; omega; exact HB.out y hy); have R4 := Lib.hid hr4; clear ho4 hr4))
      exact gives_leafe (zs := 7 :: zs) (c := c4) F.out rfl rfl rfl S4.out R4.out (fun h0 => by obtain ⟨b, off, e, hb⟩ := out_off O4.out h0; exact ⟨b, off, e, Nat.lt_of_lt_of_le hlt1 hb⟩) ⟨O4.out.nilc, own_cap O4.out.1⟩ rfl (by have := HL.out; simp; omega)
    · have F : Hid (bitsZ zs many = (.node 0 [] [], 1)) := by rw [BQ.out, if_pos (by simpa using hx)]; exact Lib.hid rfl
      have tx : (x % 128 != 0) = true := by simpa using hx
      clear BQ
      have RN := Lib.hid (Row.nil w0.drew)
      have S4 := Lib.hid (S0.out.go (Ext.drew (Ext.refl w0)))
      refine wp_region_ord Ext Ext.refl (fun _ _ _ => Ext.trans) ((0, false) :: (1, false) :: (2, false) :: (3, false) :: (4, false) :: (5, false) :: (6, false) :: (7, false) :: (8, false) :: (9, false) :: (10, false) :: (11, false) :: (12, false) :: (13, false) :: []) (by kernel_rfl) (by kernel_rfl) rfl (by kernel_rfl) (fun _ _ _ _ _ h => h) ?_
      repeat (first | (refine ord_take _ rfl (by rfl) (fun W hW => by go_simp; first | done | rfl) ?_; simp only [Act.put, List.setIfInBounds_toArray, List.set_cons_zero, List.set_cons_succ]) | (refine ord_skip rfl (by rfl) ?_; simp only [Act.put, List.setIfInBounds_toArray, List.set_cons_zero, List.set_cons_succ]))
      refine ord_end ?_
      clear l0
      generalize w0.drew = w1 at S4 RN ⊢
      obtain ⟨p0, p1, p2, f0, f1, f2⟩ := S4.out.box.six
      go_wp2_with fail
      exact gives_leafe (zs := []) (c := 0) F.out rfl rfl rfl S4.out (RN.out _) (fun h => absurd h (by simp)) ⟨fun _ => rfl, Nat.le_refl _⟩ rfl (by simp)
end Go.Proofs.YtgmefdmeeihgoaaGreatDoor
