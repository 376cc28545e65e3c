/-
  Merged texts: Pk2, Pk3, ReA, ApP, AnK, AnU, ApW, AnB, ApA, ApB, ApC.
-/
import Derived.Test.YtlmndmfebgaidaaGreatDoorGnM
import Derived.Test.YtlmndmfebgaidaaGreatDoorGnH
import Derived.Test.YtlmndmfebgaidaaGreatDoorGnL
import Derived.Test.YtlmndmfebgaidaaGreatDoorGnK
import Derived.WalkMore
import Derived.Test.YtlmndmfebgaidaaGreatDoorGnG
namespace Go.Proofs.YtlmndmfebgaidaaGreatDoor
open Go.RowKit
set_option linter.unusedVariables false
def GivesRow (zs : List Int) (w : World) (e : Ending) (w' : World) : Prop :=
  ∃ a c, e = .returned (.slice a zs.length c) ∧ Row w' a zs.length zs ∧ (a = none → c = 0) ∧ zs.length ≤ c ∧ Below w.heap.size w w'
theorem GivesRow.of {zs : List Int} {a : Option Addr} {m c : Nat} {w w' : World} (hr : Row w' a m zs) (hnil : a = none → c = 0) (hc : m ≤ c) (hb : Below w.heap.size w w') : GivesRow zs w (.returned (.slice a m c)) w' := by
  obtain rfl := hr.1
  exact ⟨a, c, rfl, hr, hnil, hc, hb⟩
set_option maxHeartbeats 1000000 in
theorem big_any (a : Option Addr) (n ca : Nat) (zs : List Int) (w : World) (hr : Row w a n zs) (hnc : n ≤ ca) (hn : n ≤ 100000) (hnil : a = none → ca = 0) : Calls Tryz.prog 84 #[.slice a n ca] w (GivesNode (bigT zs) w) := by
  have hby := hr.2.1
  have hbb : ∀ x ∈ bareZ zs, 0 ≤ x ∧ x ≤ 255 := fun x hx => hby x (bare_mem hx)
  have hle := bare_le zs
  have hl := hr.1
  have S0 := Lib.hid (RB.start w)
  have CI := Lib.hid (bareW_any a n ca zs _ (hr.below S0.out.below) hnc (by omega) hnil)
  have GB := Lib.hid (big_byte hby)
  have GL := Lib.hid (big_le zs)
  have HBB := Lib.hid hbb
  clear hr hnil hby hbb
  go_enter Tryz.func84, Tryz.ntmps84
  go_wp2_with fail
  refine CI.out.mono ?_
  rintro e w2 ⟨b2, c2, rfl, hr2, hn2, hc2, rfl⟩
  have W2 : Hid (w.heap.size < (w.alloc (.cells #[.int .i64 0, .slice none 0 0, .slice none 0 0] 29)).heap.size) := by simp [Hid]
  generalize w.alloc (.cells #[.int .i64 0, .slice none 0 0, .slice none 0 0] 29) = w2 at *
  have R2 := Lib.hid hr2
  have N2 := Lib.hid hn2
  clear hr2 hn2 CI
  by_cases h0 : bareZ zs = []
  · have F : Hid (bigZ zs = [0] ++ bareZ zs) := if_pos (.inl h0)
    have L0 : Hid ((bareZ zs).length = 0) := by rw [h0]; exact Lib.hid rfl
    have t0 : (((bareZ zs).length : Int) == 0) = true := by rw [L0.out]; rfl
    have O0 := Lib.hid (out_nil (w2.alloc (.cells #[.int .u8 0] 5)) |>.wider ((Below.refl w2.heap.size w2).alloc (Nat.le_refl _) _))
    have R3 := Lib.hid (row_const w2 [0] (0, 0) (by intro x hx; simp at hx; omega))
    clear h0
    generalize bareZ zs = bz at *
    go_wp2_with (at_builtin; first
      | (refine out_append (W0 := w2) (L := []) (zs := [0]) rfl _ _ rfl rfl O0.out rfl R3.out (fun e => by cases e) (by simp) ?_; intro V3 w3 ho3; rw [List.nil_append] at ho3; have O3 := Lib.hid ho3; have R5 := Lib.hid (R2.out.below ho3.2); clear ho3)
      | (go_must (refine out_append (L := [0]) (zs := bz) rfl _ _ rfl rfl O3.out rfl R5.out N2.out (by simp; omega) ?_; intro V4 w4 ho4; have O4 := Lib.hid ho4; have S4 := Lib.hid (S0.out.go ho4.2); obtain ⟨p0, p1, p2, f0, f1, f2⟩ := S4.out.box.six; rw [← F.out] at ho4 O4; obtain ⟨b4, c4, rfl, hr4⟩ := ho4.row GB.out; clear ho4)))
    exact gives_leaf rfl rfl S4.out O4.out W2.out rfl GB.out (by have := GL.out; omega)
  · have L0 : Hid (0 < (bareZ zs).length) := List.length_pos_iff.2 h0
    have t0 : (((bareZ zs).length : Int) == 0) = false := by simp; exact h0
    obtain ⟨b, off, rfl, hbl, hc⟩ := R2.out.2.2 L0.out
    have c0 := hc 0 L0.out
    rw [Nat.add_zero] at c0
    have z0 := R2.out.byte 0
    clear hc
    by_cases h8 : 128 ≤ (bareZ zs)[(0 : Nat)]?.getD 0
    · have F : Hid (bigZ zs = [0] ++ bareZ zs) := if_pos (.inr h8)
      have O0 := Lib.hid (out_nil (w2.alloc (.cells #[.int .u8 0] 5)) |>.wider ((Below.refl w2.heap.size w2).alloc (Nat.le_refl _) _))
      have R3 := Lib.hid (row_const w2 [0] (0, 0) (by intro x hx; simp at hx; omega))
      clear h0
      generalize (bareZ zs)[(0 : Nat)]?.getD 0 = x0 at c0 z0 h8
      generalize bareZ zs = bz at *
      go_wp2_with (at_builtin; first
        | (refine out_append (W0 := w2) (L := []) (zs := [0]) rfl _ _ rfl rfl O0.out rfl R3.out (fun e => by cases e) (by simp) ?_; intro V3 w3 ho3; rw [List.nil_append] at ho3; have O3 := Lib.hid ho3; have R5 := Lib.hid (R2.out.below ho3.2); clear ho3)
        | (go_must (refine out_append (L := [0]) (zs := bz) rfl _ _ rfl rfl O3.out rfl R5.out N2.out (by simp; omega) ?_; intro V4 w4 ho4; have O4 := Lib.hid ho4; have S4 := Lib.hid (S0.out.go ho4.2); obtain ⟨p0, p1, p2, f0, f1, f2⟩ := S4.out.box.six; rw [← F.out] at ho4 O4; obtain ⟨b4, c4, rfl, hr4⟩ := ho4.row GB.out; clear ho4)))
      exact gives_leaf rfl rfl S4.out O4.out W2.out rfl GB.out (by have := GL.out; omega)
    · have F : Hid (bigZ zs = bareZ zs) := if_neg (by rintro (h | h); exact h0 h; exact h8 h)
      have O0 := Lib.hid (out_nil w2)
      generalize (bareZ zs)[(0 : Nat)]?.getD 0 = x0 at c0 z0 h8
      clear h0
      generalize bareZ zs = bz at *
      go_wp2_with (at_builtin; go_must (refine out_append (W0 := w2) (L := []) (zs := bz) rfl _ _ rfl rfl O0.out rfl R2.out N2.out (by simp; omega) ?_; intro V4 w4 ho4; rw [List.nil_append] at ho4; have O4 := Lib.hid ho4; have S4 := Lib.hid (S0.out.go ho4.2); obtain ⟨p0, p1, p2, f0, f1, f2⟩ := S4.out.box.six; rw [← F.out] at ho4 O4; obtain ⟨b4, c4, rfl, hr4⟩ := ho4.row GB.out; clear ho4))
      exact gives_leaf rfl rfl S4.out O4.out W2.out rfl GB.out (by have := GL.out; omega)
set_option maxHeartbeats 1000000 in
theorem int_any (n : Int) (w : World) (h0 : 0 ≤ n) (h1 : n ≤ 18446744073709551615) : Calls Tryz.prog 54 #[.int .u64 n] w (GivesNode (intT n) w) := by
  have S0 := Lib.hid (RB.start w)
  have hml := leastM_le n
  go_enter Tryz.func54, Tryz.ntmps54
  go_wp2_with fail
  refine (least_any n _ h0 h1).mono ?_
  intro e w2 h2
  obtain ⟨b, off, c, rfl, hr, hb, hc⟩ := h2.is h0 h1
  have S2 := Lib.hid (S0.out.go hb)
  have CI := Lib.hid (big_any (some ⟨b, off, none⟩) (leastM n) c (leastZ n) w2 hr hc (by omega) (fun e => by cases e))
  clear h2 hr hb S0
  generalize leastM n = m at CI hc hml
  go_wp2_with fail
  refine CI.out.mono ?_
  rintro e w3 ⟨A, n3, c3, K, m3, d3, rfl, hin, hb3⟩
  have S3 := Lib.hid (S2.out.go hb3)
  have IN := Lib.hid hin
  have W2 : Hid (w.heap.size < w2.heap.size) := S2.out.box.lt
  obtain ⟨p0, p1, p2, f0, f1, f2⟩ := S3.out.box.six
  clear hin hb3 CI S2
  go_wp2_with fail
  exact gives_copy rfl rfl S3.out IN.out W2.out
end Go.Proofs.YtlmndmfebgaidaaGreatDoor
namespace Go.Proofs.YtlmndmfebgaidaaGreatDoor
open Go.RowKit
set_option linter.unusedVariables false
def okE (X : T × Int) (t : T) : Bool := decide (X.2 = 0 ∧ sameT X.1 t = true)
def GivesExact (ok : Bool) (xv zero : Value) (w : World) (e : Ending) (w' : World) : Prop :=
  e = .returned (.tuple #[if ok = true then xv else zero, .int .i64 (if ok = true then 0 else 2)]) ∧ Below w.heap.size w w'
theorem GivesExact.no {ok : Bool} {xv zero : Value} {w w' : World} (h : ok = false) (hb : Below w.heap.size w w') : GivesExact ok xv zero w (.returned (.tuple #[zero, .int .i64 2])) w' := by subst h; exact ⟨rfl, hb⟩
theorem GivesExact.yes {ok : Bool} {xv zero : Value} {w w' : World} (h : ok = true) (hb : Below w.heap.size w w') : GivesExact ok xv zero w (.returned (.tuple #[xv, .int .i64 0])) w' := by subst h; exact ⟨rfl, hb⟩
theorem GivesExact.ways {ok : Bool} {xv zero : Value} {w w' : World} {e : Ending} (h : GivesExact ok xv zero w e w') : (ok = true ∧ e = .returned (.tuple #[xv, .int .i64 0]) ∧ Below w.heap.size w w') ∨ (ok = false ∧ e = .returned (.tuple #[zero, .int .i64 2]) ∧ Below w.heap.size w w') := by
  obtain ⟨h, hb⟩ := h
  cases ok
  · exact .inr ⟨rfl, h, hb⟩
  · exact .inl ⟨rfl, h, hb⟩
theorem same_iff (x y : T) : sameT x y = true ↔ x = y := ⟨same_is x y, fun h => by rw [h]; exact same_refl y⟩
theorem ok_iff (X : T × Int) (t : T) : okE X t = true ↔ X.2 = 0 ∧ X.1 = t := by unfold okE; rw [decide_eq_true_iff, same_iff]
theorem ok_iff_not (X : T × Int) (t : T) : okE X t = false ↔ ¬ (X.2 = 0 ∧ X.1 = t) := by rw [← ok_iff]; simp
theorem ok_err {x t : T} {er : Int} (h : ¬ er = 0) : okE (x, er) t = false := decide_eq_false (fun k => h k.1)
theorem ok_ne {x t : T} {er : Int} (h : ¬ x = t) : okE (x, er) t = false := decide_eq_false (fun k => h (same_is _ _ k.2))
theorem ok_eq {x t : T} (h : x = t) : okE (x, 0) t = true := decide_eq_true ⟨rfl, by rw [h]; exact same_refl t⟩
theorem T.In.rowk {w : World} {t : T} {z : Value} {A : Option Addr} {n c : Nat} {K : Option Addr} {m d : Nat} (h : t.In w (.agg #[z, .slice A n c, .slice K m d])) : Row w A n t.body ∧ t.kids.length = m := by
  obtain ⟨A1, n1, c1, K1, m1, d1, e, _, hr, _, _, hm, _⟩ := h.open
  simp only [Value.agg.injEq] at e
  have e' := congrArg Array.toList e
  simp only [List.cons.injEq, and_true, Value.slice.injEq] at e'
  obtain ⟨_, ⟨rfl, rfl, rfl⟩, rfl, rfl, rfl⟩ := e'
  exact ⟨hr, hm⟩
theorem leaf_eq {x t : T} (hx : x.kids = []) (h1 : x.tag = t.tag) (h2 : x.body = t.body) (h3 : t.kids = []) : x = t := by
  obtain ⟨a, b, c⟩ := x
  obtain ⟨a', b', c'⟩ := t
  simp only [T.kids, T.tag, T.body] at *
  subst hx h1 h2 h3
  rfl
set_option maxHeartbeats 2000000 in
set_option maxRecDepth 100000 in
theorem exact_u64 (t : T) (v : Value) (w : World) (X : T × Int) (x0 : Int) (hX : X.1.kids = []) (hin : t.In w v) (hF : ∀ W, Below w.heap.size w W → Calls Tryz.prog 121 #[.int .u64 x0] W (HasNodeE X W)) :
    Calls Tryz.prog 120 #[v, .int .u64 x0, .func (.func 121) #[] #[]] w (GivesExact (okE X t) (.int .u64 x0) (.int .u64 0) w) := by
  obtain ⟨A, n, c, K, m, d, rfl, hw, hr, hn, hc, hm, hm', hks⟩ := hin.open
  have BX := Lib.hid (Box.start hin)
  have HF := Lib.hid hF
  have HM := Lib.hid hm
  clear hr hks hc hin hm' hw hn hF hm
  go_enter Tryz.func120, Tryz.ntmps120
  generalize hw2 : w.alloc (.cells #[.int .i64 t.tag, .slice A n c, .slice K m d] 29) = w2 at *
  go_wp2_with fail
  refine (HF.out _ BX.out.below).mono ?_
  rintro e w3 ⟨A3, n3, c3, K3, m3, d3, rfl, hin3, hb3⟩
  have P4 := Lib.hid (Box.start hin3)
  have B4 := Lib.hid ((BX.out.go hb3).go P4.out.below)
  clear hb3 hin3 BX HF hw2
  obtain ⟨x, er⟩ := X
  simp only at P4 B4 hX ⊢
  obtain ⟨p0, p1, p2⟩ := P4.out.cells
  obtain ⟨g0, g1, g2⟩ := B4.out.cells
  have HX := Lib.hid hX
  clear hX
  by_cases he : er = 0
  rotate_left
  · have F := ok_err (x := x) (t := t) he
    have t0 : (er != 0) = true := by simpa using he
    have F := Lib.hid F
    clear he
    clear p0 p1 p2 g0 g1 g2
    go_wp2_with fail
    go_ret2
    exact GivesExact.no F.out B4.out.below
  subst he
  by_cases ht : x.tag = t.tag
  rotate_left
  · have F := Lib.hid (ok_ne (x := x) (t := t) (er := 0) (fun e => ht (by rw [e])))
    have t1 : (x.tag != t.tag) = true := by simpa using ht
    clear ht
    go_wp2_with fail
    go_ret2
    exact GivesExact.no F.out B4.out.below
  have HT := Lib.hid ht
  have t1 : (x.tag != t.tag) = false := by simpa using ht
  clear ht
  have CE := Lib.hid (equal_any A3 A n3 n c3 c x.body t.body _ P4.out.has.rowk.1 B4.out.has.rowk.1)
  go_wp2_with fail
  refine CE.out.mono ?_
  rintro e w5 ⟨rfl, rfl⟩
  clear CE
  by_cases hb : x.body = t.body
  rotate_left
  · have F := Lib.hid (ok_ne (x := x) (t := t) (er := 0) (fun e => hb (by rw [e])))
    have t2 : decide (x.body = t.body) = false := decide_eq_false hb
    rw [t2]
    clear hb t2
    go_wp2_with fail
    go_ret2
    exact GivesExact.no F.out B4.out.below
  have HB := Lib.hid hb
  have t2 : decide (x.body = t.body) = true := decide_eq_true hb
  rw [t2]
  clear hb t2
  by_cases hm0 : m = 0
  · subst hm0
    have F := Lib.hid (ok_eq (x := x) (t := t) (leaf_eq HX.out HT.out HB.out (List.eq_nil_of_length_eq_zero HM.out)))
    go_wp2_with fail
    go_ret2
    exact GivesExact.yes F.out B4.out.below
  · have F := Lib.hid (ok_ne (x := x) (t := t) (er := 0) (fun e => hm0 (by rw [← HM.out, ← e, HX.out]; rfl)))
    have t3 : ((m : Int) != 0) = true := by simpa using hm0
    clear hm0
    go_wp2_with fail
    go_ret2
    exact GivesExact.no F.out B4.out.below
end Go.Proofs.YtlmndmfebgaidaaGreatDoor
namespace Go.Proofs.YtlmndmfebgaidaaGreatDoor
open Go.RowKit
set_option linter.unusedVariables false
set_option linter.unusedSimpArgs false
set_option maxRecDepth 100000
theorem op_alloc_res {o : Oper} {a : Act} {w : World} {K : Act → World → Prop} {Q : Exit → Act → World → Prop} (ho : o.op = .alloc 25)
    (hK : ∀ g w', w.heap.size ≤ g → Blk w' g 25 (resC false (.slice none 0 0) (.slice none 0 0)) → Below w.heap.size w w' → K (a.put o.dst (.pointer (some ⟨g, 0, none⟩))) w') : o.wp Tryz.prog a w K Q :=
  op_of_run _ _ (allocRes_run ho) (hK _ _ (Nat.le_refl _) (Blk.new _ _ _) (boxR_below _ _))
theorem op_store_res {o : Oper} {a : Act} {w : World} {K : Act → World → Prop} {Q : Exit → Act → World → Prop} (x y : Operand) (ho : o.op = .store 25 x y) (hdst : o.dst = none) (g : Nat) (b : Bool) (a1 : Option Addr) (n1 c1 : Nat) (a2 : Option Addr) (n2 c2 : Nat) {u : Bool} {y' z' : Value} (hx : a.eval x = .pointer (some ⟨g, 0, none⟩)) (hy : a.eval y = .agg (resC b (.slice a1 n1 c1) (.slice a2 n2 c2)))
    (hb : Blk w g 25 (resC u y' z')) (hK : K a (w.setRow g (resC b (.slice a1 n1 c1) (.slice a2 n2 c2)))) : o.wp Tryz.prog a w K Q := by
  refine op_of_skip (w.setRow g (resC b (.slice a1 n1 c1) (.slice a2 n2 c2))) ?_ (by rw [hdst]; exact hK)
  unfold execOp
  simp only [ho, hx, hy, Instr.storeAt, Instr.sureAddr, Sem.run_bind, Sem.run_pure, Result.andThen_ok, run_storeVar_row (P := Tryz.prog) w g 25 25 (resC u y' z') (resC b (.slice a1 n1 c1) (.slice a2 n2 c2)) hb (Tryz.sizeRes _ _ _) rfl (resC_one _ _ _ _ _ _ _)]
set_option maxHeartbeats 4000000 in
theorem up13_any (hNode : PkNode13) (hRead : PkRead13) (hRes : PkResolve13) : PkUp13 := by
  intro w hf
  have CN := Lib.hid (fun W v h (hb : Below w.heap.size w W) => hNode tenR v W h (by decide) (by decide) (hf.below hb))
  have SM := node_small ten_ok ⟨by decide, by decide⟩
  rw [ten_node] at SM
  have CM := Lib.hid (fun W v (h : NodeAt W v (resT tenR)) (hb : Below w.heap.size w W) => hRead (resT tenR) v W h SM.1 SM.2.1 SM.2.2 (hf.below hb))
  have C4 := Lib.hid (fun W u v h k => hRes twoR tenR u v W h k ⟨by decide, by decide⟩ ⟨by decide, by decide⟩)
  have C5 := Lib.hid (fun W u v h k => hRes tenR twoR u v W h k ⟨by decide, by decide⟩ ⟨by decide, by decide⟩)
  have CT := Lib.hid ten_any
  rw [ten_node] at CN
  rw [ten_read] at CM
  rw [two_of_ten] at C4
  rw [ten_of_two] at C5
  clear SM hNode hRead hRes hf
  have b1 := boxR_below w (.cells (rcells (2, 3)) 54)
  have RA : Hid (RgArg (w.alloc (.cells (rcells (2, 3)) 54)) (some ⟨w.heap.size, 0, none⟩) 1 1 [(2, 3)]) := Lib.hid ⟨rg_one w (s := (2, 3)) ⟨by decide, by decide⟩, fun e => by cases e⟩
  obtain ⟨g0, hg0⟩ : ∃ g0, w.heap.size = g0 := ⟨_, rfl⟩
  rw [hg0] at RA
  generalize hw1 : w.alloc (.cells (rcells (2, 3)) 54) = w1 at *
  have b2 := boxR_below w1 (.cells (resC false (.slice none 0 0) (.slice (some ⟨g0, 0, none⟩) 1 1)) 25)
  have BW := Lib.hid (Below.step b1 b2)
  have B1 := Lib.hid (resbox w1 false (.slice none 0 0) (.slice (some ⟨g0, 0, none⟩) 1 1))
  have A1 : Hid (ResAt (w1.alloc (.cells (resC false (.slice none 0 0) (.slice (some ⟨g0, 0, none⟩) 1 1)) 25)) (.agg (resC false (.slice none 0 0) (.slice (some ⟨g0, 0, none⟩) 1 1))) twoR) := Lib.hid ⟨_, _, _, _, _, _, rfl, SpArg.nilS _, RA.out.below b2⟩
  clear b1 b2 RA
  go_enter Tryz.func8, Tryz.ntmps8
  go_upto_region 2 with (first
    | ((with_reducible refine slice_range_at 10 (2, 3) ?_ ?_); (· rfl); rw [hw1]; simp only [hg0])
    | (with_reducible refine allocRes_at ?_)
    | ((with_reducible refine storeRes_new 1 12 w1 false none 0 0 (some ⟨g0, 0, none⟩) 1 1 ?_ ?_ ?_ ?_); (· rfl); (· rfl); (· rfl)))
  clear hw1
  generalize w1.alloc (.cells (resC false (.slice none 0 0) (.slice (some ⟨g0, 0, none⟩) 1 1)) 25) = w2 at *
  generalize w1.heap.size = g1 at *
  go_upto_region 4 with (first
    | (go_at_call 25
       refine (CT.out _).mono ?_
       rintro r v1 ⟨u1, rfl, hat1, hb1⟩
       replace BW := Lib.hid (Below.step BW.out hb1)
       replace B1 := Lib.hid (B1.out.below hb1 B1.out.lt)
       replace A1 := Lib.hid (A1.out.below hb1)
       have AT := Lib.hid hat1
       clear hat1 hb1)
    | (go_at_call 11
       refine (CN.out _ _ AT.out BW.out).mono ?_
       rintro r v2 ⟨p2, m2, c2, o2, k2, d2, rfl, hat2, hb2⟩
       replace BW := Lib.hid (Below.step BW.out hb2)
       replace B1 := Lib.hid (B1.out.below hb2 B1.out.lt)
       replace A1 := Lib.hid (A1.out.below hb2)
       replace AT := Lib.hid (AT.out.below hb2)
       obtain rfl : 3 = k2 := (T.In.rowk hat2).2
       have AN : Hid (NodeAt v2 (.agg (nodeC 48 (.slice p2 m2 c2) (.slice o2 3 d2))) (resT tenR)) := Lib.hid hat2
       clear hat2 hb2 CN AT)
    | (with_reducible refine allocNode_at ?_)
    | ((with_reducible refine storeNode_new 2 16 v2 48 p2 m2 c2 o2 3 d2 ?_ ?_ ?_ ?_); (· rfl); (· rfl); (· rfl)
       have hb2 := boxR_below v2 (.cells (nodeC 48 (.slice p2 m2 c2) (.slice o2 3 d2)) 29)
       replace BW := Lib.hid (Below.step BW.out hb2)
       replace B1 := Lib.hid (B1.out.below hb2 B1.out.lt)
       replace A1 := Lib.hid (A1.out.below hb2)
       replace AN := Lib.hid (AN.out.below hb2)
       have B2 := Lib.hid (nodebox v2 48 (.slice p2 m2 c2) (.slice o2 3 d2))
       clear hb2
       generalize v2.alloc (.cells (nodeC 48 (.slice p2 m2 c2) (.slice o2 3 d2)) 29) = v2b at *
       generalize v2.heap.size = g2 at *)
    | (refine load_node_any (by rfl) (.tmp 2) rfl g2 rfl B2.out ?_)
    | (go_at_call 14
       refine (CM.out _ _ AN.out BW.out).mono ?_
       rintro r v3 ⟨u3, rfl, hat3, hb3⟩
       replace BW := Lib.hid (Below.step BW.out hb3)
       replace B1 := Lib.hid (B1.out.below hb3 B1.out.lt)
       replace A1 := Lib.hid (A1.out.below hb3)
       replace AN := Lib.hid (AN.out.below hb3)
       replace B2 := Lib.hid (B2.out.below hb3 B2.out.lt)
       obtain ⟨p3, m3, c3, o3, k3, d3, rfl, s3, r3⟩ := hat3
       obtain rfl : 1 = m3 := s3.1.1
       clear s3 r3 hb3 CM AN)
    | (with_reducible refine allocRes_at ?_)
    | ((with_reducible refine storeRes_new 4 21 v3 false p3 1 c3 o3 k3 d3 ?_ ?_ ?_ ?_); (· rfl); (· rfl); (· rfl)
       have hb3 := boxR_below v3 (.cells (resC false (.slice p3 1 c3) (.slice o3 k3 d3)) 25)
       replace BW := Lib.hid (Below.step BW.out hb3)
       replace B1 := Lib.hid (B1.out.below hb3 B1.out.lt)
       replace A1 := Lib.hid (A1.out.below hb3)
       replace B2 := Lib.hid (B2.out.below hb3 B2.out.lt)
       have B4 := Lib.hid (resbox v3 false (.slice p3 1 c3) (.slice o3 k3 d3))
       clear hb3
       generalize v3.alloc (.cells (resC false (.slice p3 1 c3) (.slice o3 k3 d3)) 25) = v3b at *
       generalize v3.heap.size = g4 at *))
  have BCx : Hid (Below v3b.heap.size v3b (v3b.drewN 1)) := Lib.hid (drewN_below _ 1)
  refine wp_region_plan (ExtB v3b.heap.size) (ExtB.refl _) ExtB.trans (.take 0 (.fork 1 (.fork 2 (.take 3 (.take 4 (.take 5 (.sole 6 (.sole 7 (.take 8 .fin)))))) 6 (.sole 2 (.take 3 (.take 4 (.take 5 (.sole 7 (.take 8 .fin))))))) 6 (.sole 1 (.sole 2 (.take 3 (.take 4 (.take 5 (.sole 7 (.take 8 .fin))))))))) (by kernel_rfl) (by kernel_rfl) rfl (by kernel_rfl) (fun _ _ _ _ _ h => h) ?_
  change wpPlan _ _ _ _ _ _ (v3b.drewN 1)
  repeat' (first
    | (refine plan_take _ rfl (by rfl) (fun W hW => yields_row 25 (.tmp 1) rfl g1 25 _ _ rfl (B1.out.below (Below.trans BCx.out hW) B1.out.lt) Tryz.underlying25 rfl (Tryz.sizeRes _ _ _)) ?_; simp only [Act.put, List.setIfInBounds_toArray, List.set_cons_zero, List.set_cons_succ])
    | (refine plan_take _ rfl (by rfl) (fun W hW => by go_simp; first | done | rfl) ?_; simp only [Act.put, List.setIfInBounds_toArray, List.set_cons_zero, List.set_cons_succ])
    | (refine plan_fork ?_ ?_)
    | (first | refine plan_sole (sole_take rfl (by rfl) (fun K1 hK1 => ?_)) | refine sole_take rfl (by rfl) (fun K1 hK1 => ?_)
       refine op_alloc_res rfl ?_
       intro gx w5 hn5 hz5 hb5
       refine hK1 _ _ (hb5.mono (Nat.le_trans BCx.out.size (Nat.le_refl _))) ?_
       clear hK1 K1
       have ZNx : Hid (v3b.heap.size ≤ gx) := Lib.hid (Nat.le_trans BCx.out.size hn5)
       replace BCx := Lib.hid (Below.step BCx.out hb5)
       try (replace ATx := Lib.hid (ATx.out.below hb5))
       have Zx := Lib.hid hz5
       clear hz5 hn5 hb5
       try simp only [Act.put, List.setIfInBounds_toArray, List.set_cons_zero, List.set_cons_succ])
    | (first | refine plan_sole (sole_take rfl (by rfl) (fun K1 hK1 => ?_)) | refine sole_take rfl (by rfl) (fun K1 hK1 => ?_)
       go_simp
       refine (CT.out _).mono ?_
       rintro e w5 ⟨u5, rfl, hat5, hb5⟩
       refine hK1 _ _ (hb5.mono (Nat.le_trans BCx.out.size (Nat.le_refl _))) ?_
       clear hK1 K1
       replace BCx := Lib.hid (Below.step BCx.out hb5)
       try (replace Zx := Lib.hid (Zx.out.below hb5 Zx.out.lt))
       have ATx := Lib.hid hat5
       clear hat5 hb5
       try simp only [Act.put, List.setIfInBounds_toArray, List.set_cons_zero, List.set_cons_succ])
    | (first | refine plan_sole (sole_take rfl (by rfl) (fun K1 hK1 => ?_)) | refine sole_take rfl (by rfl) (fun K1 hK1 => ?_)
       go_simp
       refine (C4.out _ _ _ (A1.out.below BCx.out) ATx.out).mono ?_
       rintro e w5 ⟨u5, rfl, hat5, hb5⟩
       refine hK1 _ _ (hb5.mono (Nat.le_trans BCx.out.size (Nat.le_refl _))) ?_
       clear hK1 K1
       replace BCx := Lib.hid (Below.step BCx.out hb5)
       try (replace Zx := Lib.hid (Zx.out.below hb5 Zx.out.lt))
       obtain ⟨px, mx, cx, ox, kx, dx, rfl, s5, r5⟩ := hat5
       obtain rfl : 1 = kx := r5.1.1
       clear s5 r5 hb5
       try simp only [Act.put, List.setIfInBounds_toArray, List.set_cons_zero, List.set_cons_succ])
    | (first | refine plan_sole (sole_take rfl (by rfl) (fun K1 hK1 => ?_)) | refine sole_take rfl (by rfl) (fun K1 hK1 => ?_)
       refine op_store_res (.tmp 6) (.tmp 27) rfl rfl _ false px mx cx ox 1 dx rfl rfl Zx.out ?_
       refine hK1 _ _ (below_setRow (Below.refl _ _) ZNx.out _) ?_
       clear hK1 K1
       replace BCx := Lib.hid (below_setRow BCx.out ZNx.out (resC false (.slice px mx cx) (.slice ox 1 dx)))
       replace Zx : Hid (Blk (w5.setRow gx (resC false (.slice px mx cx) (.slice ox 1 dx))) gx 25 (resC false (.slice px mx cx) (.slice ox 1 dx))) := Lib.hid (setRow_heap _ _ _ _ 25 _ Zx.out)
       generalize w5.setRow gx (resC false (.slice px mx cx) (.slice ox 1 dx)) = w6x at *)
    | refine plan_end ?_)
  all_goals (
    replace BW := Lib.hid (Below.step BW.out BCx.out)
    replace B1 := Lib.hid (B1.out.below BCx.out B1.out.lt)
    replace A1 := Lib.hid (A1.out.below BCx.out)
    replace B2 := Lib.hid (B2.out.below BCx.out B2.out.lt)
    replace B4 := Lib.hid (B4.out.below BCx.out B4.out.lt)
    clear BCx ZNx ATx C4)
  all_goals (
    have B6 := Zx
    clear Zx
    go_upto_region 5 with fail)
  all_goals (
    have BCy : Hid (Below w6x.heap.size w6x (w6x.drewN 1)) := Lib.hid (drewN_below _ 1)
    refine wp_region_plan (ExtB w6x.heap.size) (ExtB.refl _) ExtB.trans (.take 1 (.fork 0 (.fork 2 (.take 3 (.take 4 (.take 5 (.sole 6 (.sole 7 (.take 8 .fin)))))) 6 (.sole 2 (.take 3 (.take 4 (.take 5 (.sole 7 (.take 8 .fin))))))) 6 (.sole 0 (.sole 2 (.take 3 (.take 4 (.take 5 (.sole 7 (.take 8 .fin))))))))) (by kernel_rfl) (by kernel_rfl) rfl (by kernel_rfl) (fun _ _ _ _ _ h => h) ?_
    change wpPlan _ _ _ _ _ _ (w6x.drewN 1)
    repeat' (first
      | (refine plan_take _ rfl (by rfl) (fun W hW => yields_row 25 (.tmp 1) rfl g1 25 _ _ rfl (B1.out.below (Below.trans BCy.out hW) B1.out.lt) Tryz.underlying25 rfl (Tryz.sizeRes _ _ _)) ?_; simp only [Act.put, List.setIfInBounds_toArray, List.set_cons_zero, List.set_cons_succ])
      | (refine plan_take _ rfl (by rfl) (fun W hW => by go_simp; first | done | rfl) ?_; simp only [Act.put, List.setIfInBounds_toArray, List.set_cons_zero, List.set_cons_succ])
      | (refine plan_fork ?_ ?_)
      | (first | refine plan_sole (sole_take rfl (by rfl) (fun K1 hK1 => ?_)) | refine sole_take rfl (by rfl) (fun K1 hK1 => ?_)
         refine op_alloc_res rfl ?_
         intro gy w5 hn5 hz5 hb5
         refine hK1 _ _ (hb5.mono (Nat.le_trans BCy.out.size (Nat.le_refl _))) ?_
         clear hK1 K1
         have ZNy : Hid (w6x.heap.size ≤ gy) := Lib.hid (Nat.le_trans BCy.out.size hn5)
         replace BCy := Lib.hid (Below.step BCy.out hb5)
         try (replace ATy := Lib.hid (ATy.out.below hb5))
         have Zy := Lib.hid hz5
         clear hz5 hn5 hb5
         try simp only [Act.put, List.setIfInBounds_toArray, List.set_cons_zero, List.set_cons_succ])
      | (first | refine plan_sole (sole_take rfl (by rfl) (fun K1 hK1 => ?_)) | refine sole_take rfl (by rfl) (fun K1 hK1 => ?_)
         go_simp
         refine (CT.out _).mono ?_
         rintro e w5 ⟨u5, rfl, hat5, hb5⟩
         refine hK1 _ _ (hb5.mono (Nat.le_trans BCy.out.size (Nat.le_refl _))) ?_
         clear hK1 K1
         replace BCy := Lib.hid (Below.step BCy.out hb5)
         try (replace Zy := Lib.hid (Zy.out.below hb5 Zy.out.lt))
         have ATy := Lib.hid hat5
         clear hat5 hb5
         try simp only [Act.put, List.setIfInBounds_toArray, List.set_cons_zero, List.set_cons_succ])
      | (first | refine plan_sole (sole_take rfl (by rfl) (fun K1 hK1 => ?_)) | refine sole_take rfl (by rfl) (fun K1 hK1 => ?_)
         go_simp
         refine (C5.out _ _ _ ATy.out (A1.out.below BCy.out)).mono ?_
         rintro e w5 ⟨u5, rfl, hat5, hb5⟩
         refine hK1 _ _ (hb5.mono (Nat.le_trans BCy.out.size (Nat.le_refl _))) ?_
         clear hK1 K1
         replace BCy := Lib.hid (Below.step BCy.out hb5)
         try (replace Zy := Lib.hid (Zy.out.below hb5 Zy.out.lt))
         obtain ⟨py, my, cy, oy, ky, dy, rfl, s5, r5⟩ := hat5
         skip
         clear s5 r5 hb5
         try simp only [Act.put, List.setIfInBounds_toArray, List.set_cons_zero, List.set_cons_succ])
      | (first | refine plan_sole (sole_take rfl (by rfl) (fun K1 hK1 => ?_)) | refine sole_take rfl (by rfl) (fun K1 hK1 => ?_)
         refine op_store_res (.tmp 8) (.tmp 33) rfl rfl _ false py my cy oy ky dy rfl rfl Zy.out ?_
         refine hK1 _ _ (below_setRow (Below.refl _ _) ZNy.out _) ?_
         clear hK1 K1
         replace BCy := Lib.hid (below_setRow BCy.out ZNy.out (resC false (.slice py my cy) (.slice oy ky dy)))
         replace Zy : Hid (Blk (w5.setRow gy (resC false (.slice py my cy) (.slice oy ky dy))) gy 25 (resC false (.slice py my cy) (.slice oy ky dy))) := Lib.hid (setRow_heap _ _ _ _ 25 _ Zy.out)
         generalize w5.setRow gy (resC false (.slice py my cy) (.slice oy ky dy)) = w6y at *)
      | refine plan_end ?_)
    all_goals (
      replace BW := Lib.hid (Below.step BW.out BCy.out)
      replace B1 := Lib.hid (B1.out.below BCy.out B1.out.lt)
      replace A1 := Lib.hid (A1.out.below BCy.out)
      replace B2 := Lib.hid (B2.out.below BCy.out B2.out.lt)
      replace B4 := Lib.hid (B4.out.below BCy.out B4.out.lt)
      replace B6 := Lib.hid (B6.out.below BCy.out B6.out.lt)
      clear BCy ZNy ATy C5))
  all_goals (
    have n2 := Blk.cell B2.out 2
    have n4 := Blk.cell B4.out 1
    have n6 := Blk.cell B6.out 2
    have e2 : w6y.cell? ⟨g2, 2, none⟩ = some (.slice o2 3 d2) := n2
    have e4 : w6y.cell? ⟨g4, 1, none⟩ = some (.slice p3 1 c3) := n4
    have e6 : w6y.cell? ⟨gx, 2, none⟩ = some (.slice ox 1 dx) := n6
    clear n2 n4 n6
    go_wp2_with fail
    go_ret
    exact ⟨rfl, BW.out⟩)
end Go.Proofs.YtlmndmfebgaidaaGreatDoor
namespace Go.Proofs.YtlmndmfebgaidaaGreatDoor
set_option linter.unusedVariables false
theorem norm_split : ∀ {l m : List (Nat × Nat)}, NormZ (l ++ m) → ∀ p ∈ l, ∀ q ∈ m, p.2 < q.1
  | [], _, _, p, hp, _, _ => by cases hp
  | s :: r, m, h, p, hp, q, hq => by
    rcases List.mem_cons.1 hp with rfl | hp
    · have := h.2.1 q (List.mem_append.2 (.inr hq))
      omega
    · exact norm_split (l := r) h.2.2 p hp q hq
def RestY (X Y : List (Nat × Nat)) (i : Nat) (R : List (Nat × Nat)) : Prop := ∃ d, R = Y.drop d ∧ ∀ q ∈ Y.take d, ∀ p ∈ X.drop i, ¬ (q.1 ≤ p.1 ∧ p.2 ≤ q.2)
theorem restY_start (X Y : List (Nat × Nat)) : RestY X Y 0 Y := ⟨0, rfl, fun q hq => by simp at hq⟩
theorem restY_none {X Y R : List (Nat × Nat)} {i : Nat} (h : RestY X Y i R) (hi : i < X.length) (hn : heldZ R X[i] = false) : heldZ Y X[i] = false := by
  obtain ⟨d, rfl, hd⟩ := h
  unfold heldZ at hn ⊢
  rw [Bool.eq_false_iff] at hn ⊢
  intro hy
  obtain ⟨q, hq, hb⟩ := List.any_eq_true.1 hy
  rw [Bool.and_eq_true, decide_eq_true_iff, decide_eq_true_iff] at hb
  rw [← List.take_append_drop d Y] at hq
  rcases List.mem_append.1 hq with hq | hq
  · exact hd q hq _ (by rw [List.drop_eq_getElem_cons hi]; exact List.mem_cons_self) hb
  · exact hn (List.any_eq_true.2 ⟨q, hq, by rw [decide_eq_true hb.1, decide_eq_true hb.2]; rfl⟩)
theorem restY_step {X Y R : List (Nat × Nat)} {i k : Nat} (nx : NormZ X) (ny : NormZ Y) (h : RestY X Y i R) (hi : i < X.length) (hk : k < R.length) (h1 : (R[k]).1 ≤ (X[i]).1) (h2 : (X[i]).2 ≤ (R[k]).2) : RestY X Y (i + 1) (R.drop k) ∧ heldZ Y X[i] = true := by
  obtain ⟨d, rfl, hd⟩ := h
  have hm : (Y.drop d)[k] ∈ Y.drop d := List.getElem_mem hk
  refine ⟨⟨d + k, by rw [List.drop_drop], fun q hq p hp hb => ?_⟩, ?_⟩
  · have hky : d + k < Y.length := by rw [List.length_drop] at hk; omega
    have e : Y.drop (d + k) = (Y.drop d)[k] :: Y.drop (d + k + 1) := by
      rw [List.drop_eq_getElem_cons hky]
      congr 1
      rw [List.getElem_drop]
    have ha : (Y.drop d)[k] ∈ Y.drop (d + k) := by rw [e]; exact List.mem_cons_self
    have f1 := norm_split (l := Y.take (d + k)) (m := Y.drop (d + k)) (by rw [List.take_append_drop]; exact ny) q hq _ ha
    have hx : X.take (i + 1) ++ X.drop (i + 1) = X := List.take_append_drop _ _
    have f2 := norm_split (l := X.take (i + 1)) (m := X.drop (i + 1)) (by rw [hx]; exact nx) X[i] (by rw [List.take_succ_eq_append_getElem hi]; exact List.mem_append.2 (.inr (List.mem_singleton.2 rfl))) p hp
    have vx := norm_valid nx X[i] (List.getElem_mem hi)
    have vp := norm_valid nx p (List.mem_of_mem_drop hp)
    omega
  · unfold heldZ
    exact List.any_eq_true.2 ⟨_, List.mem_of_mem_drop hm, by rw [decide_eq_true h1, decide_eq_true h2]; rfl⟩
end Go.Proofs.YtlmndmfebgaidaaGreatDoor
namespace Go.Proofs.YtlmndmfebgaidaaGreatDoor
open Go.RowKit
set_option linter.unusedVariables false
def PkJoin : Prop := ∀ (a : Option Addr) (n c : Nat) (L : List (Nat × Nat)) (W : World), RgArg W a n c L → n ≤ 10000 → Calls Tryz.prog 42 #[.slice a n c] W (GivesRg (joinZ L) W)
def PkWithin : Prop := ∀ (a b : Option Addr) (n m c d : Nat) (L M : List (Nat × Nat)) (W : World), RgArg W a n c L → n ≤ 10000 → RgArg W b m d M → m ≤ 10000 → Calls Tryz.prog 47 #[.slice a n c, .slice b m d] W fun e w' => e = .returned (.bool (inN L M)) ∧ Below W.heap.size W w'
theorem RgArg.nil (W : World) : RgArg W none 0 0 [] := ⟨RgRow.nil _ _, fun _ => ⟨rfl, rfl⟩⟩
end Go.Proofs.YtlmndmfebgaidaaGreatDoor
namespace Go.Proofs.YtlmndmfebgaidaaGreatDoor
open Go.RowKit
set_option maxRecDepth 100000
set_option linter.unusedVariables false
theorem belowR_setCells {B g : Nat} {w : World} (hg : B ≤ g) : ∀ (vs : List Value) (o : Nat) (w' : World), Below B w w' → Below B w (w'.setCells g o vs)
  | [], _, _, h => h
  | v :: r, o, w', h => belowR_setCells hg r (o + 1) _ (Below.setCell h (p := ⟨g, o, none⟩) hg v)
theorem listR_split {α : Type} {A : List α} {q : Nat} (x : α) (hq : q < A.length) : (A.set q x).take (q + 1) = A.take q ++ [x] ∧ ∀ m, (A.set q x).drop (q + 1 + m) = A.drop (q + 1 + m) := by
  refine ⟨?_, fun m => ?_⟩
  · rw [List.take_add_one, List.take_set_of_le (Nat.le_refl _), List.getElem?_set_self hq]
    rfl
  · rw [List.drop_set_of_lt (by omega)]
theorem ownR_setCells {e : TypeId} {size base g n cap : Nat} : ∀ (vs : List Value) (o : Nat) (w : World) (xs : List Value), w.ownsRow base e size (.slice (some ⟨g, 0, none⟩) n cap) n xs → o + vs.length ≤ xs.length →
    (w.setCells g o vs).ownsRow base e size (.slice (some ⟨g, 0, none⟩) n cap) n (xs.take o ++ vs ++ xs.drop (o + vs.length))
  | [], o, w, xs, h, hl => by
    have e1 : xs.take o ++ [] ++ xs.drop (o + ([] : List Value).length) = xs := by rw [List.append_nil, List.length_nil, Nat.add_zero, List.take_append_drop]
    rw [e1]
    exact h
  | v :: r, o, w, xs, h, hl => by
    simp only [List.length_cons] at hl
    have ih := ownR_setCells r (o + 1) _ (xs.set o v) (h.stored o v).1 (by rw [List.length_set]; omega)
    obtain ⟨e1, e2⟩ := listR_split v (show o < xs.length by omega)
    rw [e1, e2, List.append_assoc (xs.take o)] at ih
    have e3 : xs.take o ++ v :: r ++ xs.drop (o + (v :: r).length) = xs.take o ++ ([v] ++ r) ++ xs.drop (o + 1 + r.length) := by
      rw [List.length_cons, show o + (r.length + 1) = o + 1 + r.length by omega]
      rfl
    rw [e3]
    exact ih
theorem ownR_cut {e : TypeId} {size base g n cap : Nat} {w : World} {xs : List Value} (h : w.ownsRow base e size (.slice (some ⟨g, 0, none⟩) n cap) n xs) (k : Nat) (hk : k ≤ n) : w.ownsRow base e size (.slice (some ⟨g, 0, none⟩) k cap) k (xs.take (k * size)) := by
  have hks : k * size ≤ n * size := Nat.mul_le_mul_right _ hk
  refine ⟨by rw [List.length_take, h.1]; omega, ?_⟩
  rcases h.2 with ⟨e', _⟩ | ⟨g', cap', cur, e', hb, hg, hnc, hcm, hcs, htake⟩
  · cases e'
  · injection e' with e1 e2 e3
    subst e3
    refine .inr ⟨g', cap, cur, ?_, hb, hg, by omega, hcm, hcs, ?_⟩
    · rw [e1]
    · rw [← htake, List.take_take, Nat.min_eq_left hks]
theorem flatR_drop {L : List (Nat × Nat)} (h : OkL L) (k : Nat) (hk : k ≤ L.length) : flatR (L.drop k) = (flatR L).drop (k * 2) := by
  have e : flatR L = flatR (L.take k) ++ flatR (L.drop k) := by rw [← flatR_app, List.take_append_drop]
  have l : (flatR (L.take k)).length = k * 2 := by rw [flatR_take h k hk, List.length_take, flatR_len h]; omega
  rw [e, ← l, List.drop_left]
theorem ok_set {L : List (Nat × Nat)} (h : OkL L) (k : Nat) {s : (Nat × Nat)} (hs : OkR s) : OkL (L.set k s) := fun x hx => by
  rcases List.mem_or_eq_of_mem_set hx with hx | rfl
  · exact h x hx
  · exact hs
theorem flatR_set {L : List (Nat × Nat)} (h : OkL L) (k : Nat) (hk : k < L.length) {s : (Nat × Nat)} (hs : OkR s) : flatR (L.set k s) = (flatR L).take (k * 2) ++ rcL s ++ (flatR L).drop (k * 2 + (rcL s).length) := by
  rw [rcL_len hs, show k * 2 + 2 = (k + 1) * 2 by omega, ← flatR_take h k (by omega), ← flatR_drop h (k + 1) (by omega), List.set_eq_take_append_cons_drop, if_pos hk]
  show flatR (L.take k ++ s :: L.drop (k + 1)) = _
  rw [flatR_app]
  show flatR (L.take k) ++ (rcL s ++ flatR (L.drop (k + 1))) = _
  rw [List.append_assoc]
theorem RgOut.set {W0 wr : World} {g cap n : Nat} {L : List (Nat × Nat)} (h : RgOut W0 wr (.slice (some ⟨g, 0, none⟩) n cap) L) (hn : n = L.length) (hg : W0.heap.size ≤ g) (k : Nat) (hk : k < L.length) {s : (Nat × Nat)} (hs : OkR s) : RgOut W0 (wr.setCells g (k * 2) (rcL s)) (.slice (some ⟨g, 0, none⟩) n cap) (L.set k s) := by
  subst hn
  have h1 := ownR_setCells (rcL s) (k * 2) wr _ h.1 (by rw [rcL_len hs, flatR_len h.2.2]; omega)
  rw [← flatR_set h.2.2 k hk hs] at h1
  refine ⟨by rw [List.length_set]; exact h1, belowR_setCells hg _ _ _ h.2.1, ok_set h.2.2 k hs⟩
theorem RgOut.cut {W0 wr : World} {g cap n : Nat} {L : List (Nat × Nat)} (h : RgOut W0 wr (.slice (some ⟨g, 0, none⟩) n cap) L) (hn : n = L.length) (k : Nat) (hk : k ≤ L.length) : RgOut W0 wr (.slice (some ⟨g, 0, none⟩) k cap) (L.take k) := by
  subst hn
  have h1 := ownR_cut h.1 k hk
  rw [← flatR_take h.2.2 k hk] at h1
  exact ⟨by rw [List.length_take, Nat.min_eq_left hk]; exact h1, h.2.1, fun s hs => h.2.2 s (List.mem_of_mem_take hs)⟩
theorem RgOut.clear {W0 wr : World} {g cap n : Nat} {L : List (Nat × Nat)} (h : RgOut W0 wr (.slice (some ⟨g, 0, none⟩) n cap) L) (hn : n = L.length) (hg : W0.heap.size ≤ g) (k : Nat) (hk : k ≤ L.length) (vs : List Value) (hv : vs.length = (L.length - k) * 2) : RgOut W0 (wr.setCells g (k * 2) vs) (.slice (some ⟨g, 0, none⟩) k cap) (L.take k) := by
  subst hn
  have h1 := ownR_cut (ownR_setCells vs (k * 2) wr _ h.1 (by rw [hv, flatR_len h.2.2]; omega)) k hk
  have l : ((flatR L).take (k * 2)).length = k * 2 := by rw [List.length_take, flatR_len h.2.2]; omega
  rw [List.append_assoc, List.take_append, l, Nat.sub_self, List.take_zero, List.append_nil, List.take_take, Nat.min_self, ← flatR_take h.2.2 k hk] at h1
  exact ⟨by rw [List.length_take, Nat.min_eq_left hk]; exact h1, belowR_setCells hg _ _ _ h.2.1, fun s hs => h.2.2 s (List.mem_of_mem_take hs)⟩
theorem RgOut.there {W0 wr : World} {g cap n : Nat} {L : List (Nat × Nat)} (h : RgOut W0 wr (.slice (some ⟨g, 0, none⟩) n cap) L) (hn : n = L.length) (o m : Nat) (hm : o + m ≤ n * 2) : wr.there g o m := by
  subst hn
  intro j hj
  refine ⟨?_, h.1.frozenAt _⟩
  rw [h.1.cellAt (o + j) (by omega), List.getElem?_eq_getElem (by rw [flatR_len h.2.2]; omega)]
  rfl
theorem rg_zero (w : World) : RgOut w (w.alloc (.cells #[] 54)) (.slice (some ⟨w.heap.size, 0, none⟩) 0 0) [] :=
  ⟨World.ownsRow_made w _ 0 (Nat.le_refl _) (by unfold maxLen; omega) rfl, boxR_below _ _, fun _ h => absurd h (by simp)⟩
set_option maxHeartbeats 500000 in
set_option maxRecDepth 100000 in
theorem cloneR_any (a : Option Addr) (n c : Nat) (L : List (Nat × Nat)) (w : World) (hr : RgRow w a n L) (hA : a = none → n = 0 ∧ c = 0) (hn : n ≤ 90000) :
    Calls Tryz.prog 75 #[.slice a n c] w (GivesRg L w) := by
  have q22 : ∀ (w : World) (a : Option Addr) (n c n' c' : Nat), (binOp .eql 23 (.slice a n c) (.slice none n' c')).run Tryz.prog w = .ok (.bool a.isNone) w := fun w a n c n' c' => Lib.run_eql_slice_nil w _ _ a n c n' c' Tryz.underlying23
  go_enter Tryz.func75, Tryz.ntmps75
  cases a with
  | none =>
    obtain ⟨rfl, rfl⟩ := hA rfl
    obtain rfl : L = [] := List.eq_nil_of_length_eq_zero hr.1
    clear hA hr
    go_wp2_with fail
    go_ret
    exact ⟨_, rfl, RgOut.start w⟩
  | some ad =>
    have RX := Lib.hid (hr.below (boxR_below w (.cells #[] 54)))
    clear hA hr
    go_wp2_with (at_builtin; go_must (refine rg_append (W0 := w) (L := []) (zs := L) rfl _ _ rfl rfl (rg_zero w) rfl RX.out (fun e => by cases e) (by simp; omega) ?_; intro V1 w1 ho1; rw [List.nil_append] at ho1; have HO := Lib.hid ho1; clear ho1))
    go_ret
    exact ⟨_, rfl, HO.out⟩
theorem flatR_setHi : ∀ {L : List (Nat × Nat)} (k : Nat) (hk : k < L.length) (y : Nat), (flatR L).set (k * 2 + 1) (.int .u32 (y : Int)) = flatR (L.set k ((L[k]).1, y))
  | [], k, hk, _ => absurd hk (by simp)
  | s :: r, 0, _, y => rfl
  | s :: r, k + 1, hk, y => by
    show (rcL s ++ flatR r).set ((k + 1) * 2 + 1) _ = rcL s ++ flatR (r.set k ((r[k]'(by simpa using hk)).1, y))
    rw [← flatR_setHi k (by simpa using hk) y, show (k + 1) * 2 + 1 = (k * 2 + 1) + 1 + 1 by omega]
    rfl
theorem RgOut.setHi {W0 wr : World} {g cap n : Nat} {L : List (Nat × Nat)} (h : RgOut W0 wr (.slice (some ⟨g, 0, none⟩) n cap) L) (hn : n = L.length) (hg : W0.heap.size ≤ g) (k : Nat) (hk : k < L.length) {y : Nat} (hy : y < 4294967296) : RgOut W0 (wr.setCell ⟨g, k * 2 + 1, none⟩ (.int .u32 (y : Int))) (.slice (some ⟨g, 0, none⟩) n cap) (L.set k ((L[k]).1, y)) := by
  subst hn
  have s6 := h.2.2 _ (List.getElem_mem hk)
  have e := (h.1.stored (k * 2 + 1) (.int .u32 (y : Int))).1
  rw [flatR_setHi k hk y] at e
  refine ⟨by rw [List.length_set]; exact e, Below.setCell h.2.1 (p := ⟨g, k * 2 + 1, none⟩) hg _, fun x hx => ?_⟩
  rcases List.mem_or_eq_of_mem_set hx with hx | rfl
  · exact h.2.2 x hx
  · exact ⟨s6.1, hy⟩
theorem allocR_run {o : Oper} {a : Act} {w : World} (ho : o.op = .alloc 54) : (execOp a.eval o).run Tryz.prog w = .ok (.value (.pointer (some ⟨w.heap.size, 0, none⟩))) (w.alloc (.cells (rcells (0, 0)) 54)) := by
  unfold execOp
  simp only [ho]
  rfl
theorem allocR_at {ops : Array Oper} {rest : List Oper} {a : Act} {w : World} {Q : Exit → Act → World → Prop} {dst : Option Tmp} {t' : TypeId} {pos : String} {aft : Array Edge}
    (h : wpList Tryz.prog ops Q rest (a.put dst (.pointer (some ⟨w.heap.size, 0, none⟩))) (w.alloc (.cells (rcells (0, 0)) 54))) :
    wpList Tryz.prog ops Q ({ dst := dst, op := .alloc 54, type := t', pos := pos, after := aft, guard := none } :: rest) a w :=
  Great.wpList_allocTo rfl dst rfl _ _ (allocR_run rfl) h
theorem allocR_setRow (w : World) (cs ds : Array Value) (t : TypeId) : (w.alloc (.cells cs t)).setRow w.heap.size ds = w.alloc (.cells ds t) := by
  unfold World.setRow World.alloc
  simp only
  congr 1
  apply Array.ext_getElem?
  intro k
  rw [Array.getElem?_modify]
  by_cases h : w.heap.size = k
  · subst h
    simp
  · rw [if_neg h, Array.getElem?_push, Array.getElem?_push, if_neg (fun e => h e.symm), if_neg (fun e => h e.symm)]
theorem storeR_at {ops : Array Oper} {rest : List Oper} {a : Act} {w : World} {Q : Exit → Act → World → Prop} {t' : TypeId} {pos : String} {aft : Array Edge} (k j : Nat) (w0 : World) (s : Nat × Nat) (hx : a.eval (.tmp k) = .pointer (some ⟨w0.heap.size, 0, none⟩)) (hy : a.eval (.tmp j) = .agg (rcells s)) (hw : w = w0.alloc (.cells (rcells (0, 0)) 54))
    (h : wpList Tryz.prog ops Q rest a (w0.alloc (.cells (rcells s) 54))) :
    wpList Tryz.prog ops Q ({ dst := none, op := .store 54 (.tmp k) (.tmp j), type := t', pos := pos, after := aft, guard := none } :: rest) a w := by
  subst hw
  refine wpList_store_rowTo rfl 54 (.tmp k) (.tmp j) rfl rfl w0.heap.size (rcells s) hx hy 54 (rcells (0, 0)) (Blk.new _ _ _) (by kernel_rfl) rfl (rcells_one s) ?_
  rw [allocR_setRow]
  exact h
theorem wholeR_at {ops : Array Oper} {rest : List Oper} {a : Act} {w : World} {Q : Exit → Act → World → Prop} {dst : Option Tmp} {t' : TypeId} {pos : String} {aft : Array Edge} (k : Nat) (g : Nat) (s : Nat × Nat) (hx : a.eval (.tmp k) = .pointer (some ⟨g, 0, none⟩)) (hb : Blk w g 54 (rcells s))
    (h : wpList Tryz.prog ops Q rest (a.put dst (.agg (rcells s))) w) :
    wpList Tryz.prog ops Q ({ dst := dst, op := .load 54 (.tmp k), type := t', pos := pos, after := aft, guard := none } :: rest) a w :=
  wpList_load_row rfl 54 (.tmp k) rfl g hx 54 (rcells s) (0, 0) _ hb Tryz.underlying54 rfl (by kernel_rfl) h
theorem opR_store {o : Oper} {a : Act} {w : World} {K : Act → World → Prop} {Q : Exit → Act → World → Prop} (x y : Operand) (ho : o.op = .store 52 x y) (hdst : o.dst = none) (g off : Nat) (old : Value) (v : Int) (hx : a.eval x = .pointer (some ⟨g, off, none⟩)) (hy : a.eval y = .int .u32 v)
    (hc : w.cell? ⟨g, off, none⟩ = some old) (hf : w.frozen? ⟨g, off, none⟩ = false) (hK : K a (w.setCell ⟨g, off, none⟩ (.int .u32 v))) : o.wp Tryz.prog a w K Q := by
  have u3 : Tryz.prog.underlying 52 = some (.int .u32) := Tryz.underlying52
  have r : (execOp a.eval o).run Tryz.prog w = .ok .skip (w.setCell ⟨g, off, none⟩ (.int .u32 v)) := by
    unfold execOp
    simp only [ho, hx, hy]
    go_simp
  unfold Oper.wp
  rw [r]
  show K (a.put o.dst undef) _
  rw [hdst]
  exact hK
end Go.Proofs.YtlmndmfebgaidaaGreatDoor
namespace Go.Proofs.YtlmndmfebgaidaaGreatDoor
open Go.RowKit
set_option linter.unusedVariables false
theorem gives_form {Y : List (Nat × Nat)} {w w' : World} {e : Ending} (h : GivesRg Y w e w') : ∃ a c, e = .returned (.slice a Y.length c) ∧ RgArg w' a Y.length c Y ∧ Y.length ≤ c ∧ Below w.heap.size w w' := by
  obtain ⟨V, rfl, ho⟩ := h
  obtain ⟨a, c, hV, hr⟩ := ho.arg
  refine ⟨a, c, by rw [hV], hr, ?_, ho.2.1⟩
  rcases ho.form with ⟨e, h0⟩ | ⟨g, cap, e, _, _, hcap⟩
  · subst h0
    exact Nat.zero_le _
  · rw [hV] at e
    injection e with _ _ e3
    rw [e3]
    exact hcap
set_option maxHeartbeats 2000000 in
set_option maxRecDepth 100000 in
theorem pkWithin_of (PJ : PkJoin) : PkWithin := by
  intro a b n m c d L M w ha hn hb hm
  have CJ := Lib.hid (fun W (h : RgArg W a n c L) => PJ a n c L W h hn)
  have CK := Lib.hid (PJ b m d M w hb hm)
  have RA0 := Lib.hid ha
  have XL : Hid ((joinZ L).length ≤ 10000) := Lib.hid (by have := join_len' L; have := ha.1.1; omega)
  have YL : Hid ((joinZ M).length ≤ 10000) := Lib.hid (by have := join_len' M; have := hb.1.1; omega)
  have EY : Hid ((∀ p ∈ joinZ L, heldZ (joinZ M) p = true) → inN L M = true) := Lib.hid (fun h => by unfold inN; exact List.all_eq_true.2 h)
  have EN : Hid (∀ p ∈ joinZ L, heldZ (joinZ M) p = false → inN L M = false) := Lib.hid (fun p hp h => by
    unfold inN
    rw [Bool.eq_false_iff]
    intro h2
    have := List.all_eq_true.1 h2 p hp
    rw [h] at this
    cases this)
  have NX := Lib.hid (norm_join L)
  have NY := Lib.hid (norm_join M)
  clear ha hb hn hm PJ
  generalize inN L M = r0 at *
  generalize joinZ L = X at *
  generalize joinZ M = Y at *
  go_enter Tryz.func47, Tryz.ntmps47
  go_wp2_with fail
  go_step3
  go_wp2_with (go_at_call 42
               refine CK.out.mono ?_
               rintro r w1 h1
               obtain ⟨aY, cY, rfl, hr1, hc1, hb1⟩ := gives_form h1
               have RY1 := Lib.hid hr1
               have CY := Lib.hid hc1
               have RA1 := Lib.hid (RA0.out.below hb1)
               have B1 := Lib.hid hb1
               clear h1 hr1 hc1 hb1 CK RA0)
  go_step3
  go_wp2_with (go_at_call 42
               refine (CJ.out _ RA1.out).mono ?_
               rintro r w2 h2
               obtain ⟨aX, cX, rfl, hr2, hc2, hb2⟩ := gives_form h2
               have RX := Lib.hid hr2.1
               have RY := Lib.hid (RY1.out.below hb2).1
               have B2 := Lib.hid (Below.step B1.out hb2)
               clear h2 hr2 hc2 hb2 CJ RY1 RA1 B1)
  obtain ⟨x, hx⟩ : ∃ x, X.length = x := ⟨_, rfl⟩
  have HX := Lib.hid hx
  rw [hx] at RX XL
  rw [hx]
  clear hx
  have S0 := Lib.hid (restY_start X Y)
  go_loopg [5, 15] x (fun gk rV iV wr => ∃ (i z : Nat) (R : List (Nat × Nat)) (aR : Option Addr) (cR : Nat), rV = .slice aR z cR ∧ iV = .int .i64 (i : Int) ∧ i + gk = x ∧ RestY X Y i R ∧ (∀ p ∈ X.take i, heldZ Y p = true) ∧ RgRow w2 aR z R ∧ z ≤ cR ∧ z ≤ 10000 ∧ Below w2.heap.size w2 wr)
  case atStart => exact ⟨0, _, Y, aY, cY, rfl, rfl, by omega, S0.out, fun p hp => by simp at hp, RY.out, CY.out, YL.out, Below.refl _ _⟩
  case round =>
    obtain ⟨i, z, R, aR, cR, rfl, rfl, hi, hat, hal, hrr, hcr, hzr, hb⟩ := hrel
    have B5 := Lib.hid hb
    have AL := Lib.hid hal
    have AT := Lib.hid hat
    have RR := Lib.hid hrr
    have HR := Lib.hid hrr.1
    have CR := Lib.hid hcr
    have ZR := Lib.hid hzr
    clear hb hal hat hrr S0 RY CY YL
    rcases gk with _ | g
    · have t0 : decide ((i : Int) < (x : Int)) = false := decide_eq_false (by omega)
      have t0' : decide (i < x) = false := decide_eq_false (by omega)
      have e := EY.out (by have := AL.out; rwa [List.take_of_length_le (by rw [HX.out]; omega)] at this)
      subst e
      clear hi
      go_wp2_with fail
      go_ret
      exact ⟨rfl, Below.step B2.out B5.out⟩
    · have hlt : i < x := by omega
      have t0 : decide ((i : Int) < (x : Int)) = true := decide_eq_true (by omega)
      have t0' : decide (i < x) = true := decide_eq_true hlt
      obtain ⟨bX, oX, rfl, _⟩ := RX.out.form (by omega)
      have kl : i < X.length := by rw [HX.out]; exact hlt
      have i0 : (0 : Int) ≤ (i : Int) := by omega
      have i1 : (i : Int) < (x : Int) := by omega
      have iI : IntKind.i64.wrap ((i : Int) + 1) = (i : Int) + 1 := IntWalk.i64_in _ (by have := XL.out; omega)
      have RG := Lib.hid ((RX.out.below B5.out).range i kl)
      have HT := Lib.hid (fun k hk => held_take R X[i] k hk)
      have ST := Lib.hid (fun k hk h1 h2 => restY_step (k := k) NX.out NY.out AT.out kl hk h1 h2)
      have AN := Lib.hid (fun h : heldZ Y X[i] = true => (show ∀ p ∈ X.take (i + 1), heldZ Y p = true from by
        intro p hp
        rw [List.take_succ_eq_append_getElem kl] at hp
        rcases List.mem_append.1 hp with hp | hp
        · exact AL.out p hp
        · rw [List.mem_singleton.1 hp]
          exact h))
      have EF := Lib.hid (fun (h : heldZ R X[i] = false) => EN.out X[i] (List.getElem_mem kl) (restY_none AT.out kl h))
      have H0 : Hid (heldZ (R.take 0) X[i] = false) := Lib.hid rfl
      clear AL EN EY AT
      generalize X[i] = p at *
      go_upto_region 5 with (first
        | ((with_reducible refine load_range_at 17 bX (oX + i * 2) p ?_ RG.out ?_); (· rfl))
        | (with_reducible refine allocR_at ?_)
        | ((with_reducible refine storeR_at 7 18 wr p ?_ ?_ ?_ ?_); (· rfl); (· rfl); (· rfl)))
      have XB := Lib.hid (rbox wr p)
      have B6 := Lib.hid (Below.step B5.out (boxR_below wr (.cells (rcells p) 54)))
      clear B5 RG
      obtain ⟨g7, hg7⟩ : ∃ g7, g7 = wr.heap.size := ⟨_, rfl⟩
      rw [← hg7] at XB
      rw [← hg7]
      clear hg7
      generalize wr.alloc (.cells (rcells p) 54) = w6 at *
      go_upto_region 6 with fail
      go_loopg [5, 21] z (fun fk qV kV wx => ∃ k : Nat, qV = .slice aR z cR ∧ kV = .int .i64 (k : Int) ∧ k + fk = z ∧ heldZ (R.take k) p = false ∧ Blk wx g7 54 (rcells p) ∧ Below w2.heap.size w2 wx)
      case atStart => exact ⟨0, rfl, rfl, by omega, H0.out, XB.out, B6.out⟩
      case round =>
        obtain ⟨k, rfl, rfl, hk, hf, hx7, hb⟩ := hrel
        have B7 := Lib.hid hb
        have X7 := Lib.hid hx7
        have F7 := Lib.hid hf
        clear hb hx7 hf B6 XB H0
        rcases gk with _ | f
        · have t1 : decide ((k : Int) < (z : Int)) = false := decide_eq_false (by omega)
          have t1' : decide (k < z) = false := decide_eq_false (by omega)
          have e := EF.out (by have := F7.out; rwa [List.take_of_length_le (l := R) (i := k) (by rw [HR.out]; omega)] at this)
          subst e
          clear hk AN EF ST HT
          go_wp2_with fail
          rw [Exit.noGoto_ret]
          go_ret
          exact ⟨rfl, Below.step B2.out B7.out⟩
        · have hlk : k < z := by omega
          have t1 : decide ((k : Int) < (z : Int)) = true := decide_eq_true (by omega)
          have t1' : decide (k < z) = true := decide_eq_true hlk
          obtain ⟨bY, oY, rfl, _⟩ := RR.out.form (by omega)
          have kk : k < R.length := by rw [HR.out]; exact hlk
          have k0 : (0 : Int) ≤ (k : Int) := by omega
          have k1 : (k : Int) < (z : Int) := by omega
          have k2 : (k : Int) ≤ (z : Int) := by omega
          have k3 : (k : Int) ≤ (cR : Int) := by omega
          have k4 : (z : Int) ≤ (cR : Int) := by omega
          have kI : IntKind.i64.wrap ((k : Int) + 1) = (k : Int) + 1 := IntWalk.i64_in _ (by have := ZR.out; omega)
          have RG := Lib.hid ((RR.out.below B7.out).range k kk)
          have RD := Lib.hid (RR.out.rest k (by omega))
          have HS := Lib.hid (HT.out k kk)
          have SN := Lib.hid (ST.out k kk)
          clear HT ST
          generalize R[k] = q at *
          go_upto_region 8 with (first
            | ((with_reducible refine load_range_at 24 bY (oY + k * 2) q ?_ RG.out ?_); (· rfl))
            | (with_reducible refine allocR_at ?_)
            | ((with_reducible refine storeR_at 9 25 wr q ?_ ?_ ?_ ?_); (· rfl); (· rfl); (· rfl)))
          have YB := Lib.hid (rbox wr q)
          have X8 := Lib.hid (X7.out.alloc (.cells (rcells q) 54))
          have B8 := Lib.hid (Below.step B7.out (boxR_below wr (.cells (rcells q) 54)))
          clear B7 X7 RG
          obtain ⟨g9, hg9⟩ : ∃ g9, g9 = wr.heap.size := ⟨_, rfl⟩
          rw [← hg9] at YB
          rw [← hg9]
          clear hg9
          generalize wr.alloc (.cells (rcells q) 54) = w8 at *
          have c0 : w8.cell? ⟨g7, 0, none⟩ = some (.int .u32 (p.1 : Int)) := Blk.cell X8.out 0
          have c1 : w8.cell? ⟨g7, 1, none⟩ = some (.int .u32 (p.2 : Int)) := Blk.cell X8.out 1
          have d0 : w8.cell? ⟨g9, 0, none⟩ = some (.int .u32 (q.1 : Int)) := Blk.cell YB.out 0
          have d1 : w8.cell? ⟨g9, 1, none⟩ = some (.int .u32 (q.2 : Int)) := Blk.cell YB.out 1
          rw [F7.out, Bool.false_or] at HS
          by_cases h1 : q.1 ≤ p.1
          · have t2 : decide ((q.1 : Int) ≤ (p.1 : Int)) = true := decide_eq_true (by omega)
            have t2' : decide (q.1 ≤ p.1) = true := decide_eq_true h1
            rw [t2', Bool.true_and] at HS
            by_cases h2 : p.2 ≤ q.2
            · have t3 : decide ((p.2 : Int) ≤ (q.2 : Int)) = true := decide_eq_true (by omega)
              have t3' : decide (p.2 ≤ q.2) = true := decide_eq_true h2
              obtain ⟨sn1, sn2⟩ := SN.out h1 h2
              have AO := Lib.hid (AN.out sn2)
              have AS := Lib.hid sn1
              have ZS : Hid (z - k ≤ cR - k ∧ z - k ≤ 10000) := Lib.hid (by have := ZR.out; omega)
              clear HS AN EF SN sn1 sn2
              go_wp2_with fail
              go_roundg g
              case measure => omega
              case rel => exact ⟨i + 1, z - k, R.drop k, _, _, rfl, by go_num, by omega, AS.out, AO.out, RD.out, ZS.out.1, ZS.out.2, B8.out⟩
            · have t3 : decide ((p.2 : Int) ≤ (q.2 : Int)) = false := decide_eq_false (by omega)
              have t3' : decide (p.2 ≤ q.2) = false := decide_eq_false h2
              rw [t3'] at HS
              clear AN EF SN
              go_wp2_with fail
              go_roundg f
              case measure => omega
              case rel => exact ⟨k + 1, rfl, by go_num, by omega, HS.out, X8.out, B8.out⟩
          · have t2 : decide ((q.1 : Int) ≤ (p.1 : Int)) = false := decide_eq_false (by omega)
            have t2' : decide (q.1 ≤ p.1) = false := decide_eq_false h1
            rw [t2', Bool.false_and] at HS
            clear AN EF SN
            go_wp2_with fail
            go_roundg f
            case measure => omega
            case rel => exact ⟨k + 1, rfl, by go_num, by omega, HS.out, X8.out, B8.out⟩
end Go.Proofs.YtlmndmfebgaidaaGreatDoor
namespace Go.Proofs.YtlmndmfebgaidaaGreatDoor
set_option linter.unusedVariables false
def validP (p : Nat × Nat) : Bool := decide (p.1 ≤ p.2)
def mergeAllZ : List (Nat × Nat) → List (Nat × Nat)
  | [] => []
  | c :: r => mergeZ c r
theorem sortZ_of : ∀ {S : List (Nat × Nat)}, S.Pairwise (fun a b => a.1 ≤ b.1) → SortZ S
  | [], _ => trivial
  | p :: r, h => ⟨(List.pairwise_cons.1 h).1, sortZ_of (List.pairwise_cons.1 h).2⟩
theorem in_filter {L : List (Nat × Nat)} {x : Nat} : InZ x (L.filter validP) ↔ InZ x L := by
  constructor
  · rintro ⟨p, hp, h⟩
    exact ⟨p, (List.mem_filter.1 hp).1, h⟩
  · rintro ⟨p, hp, h1, h2⟩
    exact ⟨p, List.mem_filter.2 ⟨hp, decide_eq_true (by omega)⟩, h1, h2⟩
theorem in_perm {L M : List (Nat × Nat)} (h : L.Perm M) {x : Nat} : InZ x L ↔ InZ x M := by
  unfold InZ
  constructor
  · rintro ⟨p, hp, k⟩
    exact ⟨p, h.mem_iff.1 hp, k⟩
  · rintro ⟨p, hp, k⟩
    exact ⟨p, h.mem_iff.2 hp, k⟩
theorem merge_all {L S : List (Nat × Nat)} (hp : S.Perm L) (hs : S.Pairwise (fun a b => a.1 ≤ b.1)) : mergeAllZ (S.filter validP) = joinZ L := by
  have s := sortZ_of (hs.filter validP)
  have v : ∀ q ∈ S.filter validP, q.1 ≤ q.2 := fun q hq => of_decide_eq_true (List.mem_filter.1 hq).2
  have i : ∀ x, InZ x (mergeAllZ (S.filter validP)) ↔ InZ x (S.filter validP) := fun x => by
    cases h : S.filter validP with
    | nil => exact Iff.rfl
    | cons c r =>
      rw [h] at s v
      exact in_merge s v
  have n : NormZ (mergeAllZ (S.filter validP)) := by
    cases h : S.filter validP with
    | nil => trivial
    | cons c r =>
      rw [h] at s v
      exact norm_merge s v
  exact norm_one n (norm_join L) (fun x => by rw [i, in_filter, in_perm hp, in_join])
def RunAt (S T : List (Nat × Nat)) (k : Nat) (O : List (Nat × Nat)) : Prop := (O = [] ∧ mergeAllZ ((S.drop k).filter validP) = T) ∨ ∃ D c, O = D ++ [c] ∧ D ++ mergeZ c ((S.drop k).filter validP) = T
theorem run_start (S : List (Nat × Nat)) : RunAt S (mergeAllZ (S.filter validP)) 0 [] := .inl ⟨rfl, rfl⟩
theorem run_first {S T : List (Nat × Nat)} {k : Nat} (h : RunAt S T k []) (hk : k < S.length) (hv : (S[k]).1 ≤ (S[k]).2) : RunAt S T (k + 1) ([] ++ [S[k]]) := by
  have e : (S.drop k).filter validP = S[k] :: (S.drop (k + 1)).filter validP := by
    rw [List.drop_eq_getElem_cons hk, List.filter_cons, if_pos (by unfold validP; simpa using hv)]
  rcases h with ⟨_, h⟩ | ⟨D, c, h, _⟩
  · rw [e] at h
    exact .inr ⟨[], S[k], rfl, h⟩
  · simp at h
theorem run_step {S T O : List (Nat × Nat)} {k e : Nat} (h : RunAt S T k O) (hk : k < S.length) (he : O.length = e + 1) (hv : (S[k]).1 ≤ (S[k]).2) :
    (¬ (S[k]).1 ≤ (O[e]'(by omega)).2 + 1 → RunAt S T (k + 1) (O ++ [S[k]])) ∧ ((S[k]).1 ≤ (O[e]'(by omega)).2 + 1 → RunAt S T (k + 1) (O.set e ((O[e]'(by omega)).1, max (O[e]'(by omega)).2 (S[k]).2))) := by
  have ef : (S.drop k).filter validP = S[k] :: (S.drop (k + 1)).filter validP := by
    rw [List.drop_eq_getElem_cons hk, List.filter_cons, if_pos (by unfold validP; simpa using hv)]
  rcases h with ⟨rfl, _⟩ | ⟨D, c, rfl, hj⟩
  · simp at he
  have hD : D.length = e := by simpa using he
  subst hD
  have ec : (D ++ [c])[D.length]'(by simp) = c := by simp
  rw [ef] at hj
  unfold mergeZ at hj
  simp only [ec]
  refine ⟨fun t => ?_, fun t => ?_⟩
  · rw [if_neg t] at hj
    exact .inr ⟨D ++ [c], S[k], rfl, by rw [← hj]; simp⟩
  · rw [if_pos t] at hj
    refine .inr ⟨D, (c.1, max c.2 (S[k]).2), ?_, hj⟩
    simp
theorem run_end {S T O : List (Nat × Nat)} (h : RunAt S T S.length O) : O = T := by
  unfold RunAt at h
  rw [List.drop_of_length_le (Nat.le_refl _)] at h
  rcases h with ⟨rfl, h⟩ | ⟨D, c, rfl, h⟩
  · exact h
  · exact h
end Go.Proofs.YtlmndmfebgaidaaGreatDoor
namespace Go.Proofs.YtlmndmfebgaidaaGreatDoor
open Go.RowKit
set_option linter.unusedVariables false
set_option maxHeartbeats 500000 in
theorem wrongR_any (s : Nat × Nat) (w : World) : Calls Tryz.prog 100 #[.agg (rcells s)] w fun e w' => e = .returned (.bool (!validP s)) ∧ Below w.heap.size w w' := by
  have BX := rbox w s
  have c1 : (w.alloc (.cells (rcells s) 54)).cell? ⟨w.heap.size, 0, none⟩ = some (.int .u32 (s.1 : Int)) := Blk.cell BX 0
  have c2 : (w.alloc (.cells (rcells s) 54)).cell? ⟨w.heap.size, 1, none⟩ = some (.int .u32 (s.2 : Int)) := Blk.cell BX 1
  have BW := Lib.hid (boxR_below w (.cells (rcells s) 54))
  have EV : Hid (decide (s.2 < s.1) = !validP s) := Lib.hid (by
    unfold validP
    by_cases h : s.1 ≤ s.2
    · rw [decide_eq_true h, decide_eq_false (by omega)]; rfl
    · rw [decide_eq_false h, decide_eq_true (by omega)]; rfl)
  clear BX
  go_enter Tryz.func100, Tryz.ntmps100
  generalize validP s = v at *
  generalize s.1 = x at *
  generalize s.2 = y at *
  generalize hw2 : w.alloc (.cells (rcells s) 54) = w2 at *
  cases v with
  | true =>
    have e := EV.out
    have t0' : decide (y < x) = false := e
    have t0 : decide ((y : Int) < (x : Int)) = false := decide_eq_false (by have := of_decide_eq_false t0'; omega)
    clear e EV
    go_wp2_with fail
    go_ret
    exact ⟨rfl, BW.out⟩
  | false =>
    have e := EV.out
    have t0' : decide (y < x) = true := e
    have t0 : decide ((y : Int) < (x : Int)) = true := decide_eq_true (by have := of_decide_eq_true t0'; omega)
    clear e EV
    go_wp2_with fail
    go_ret
    exact ⟨rfl, BW.out⟩
end Go.Proofs.YtlmndmfebgaidaaGreatDoor
namespace Go.Proofs.YtlmndmfebgaidaaGreatDoor
open Go.RowKit
set_option linter.unusedVariables false
def idxQ (pr : Nat × Nat → Bool) (L : List (Nat × Nat)) : Int := if (L.takeWhile pr).length = L.length then -1 else ((L.takeWhile pr).length : Int)
theorem idxQ_here {pr : Nat × Nat → Bool} : ∀ {L : List (Nat × Nat)} {k : Nat} (hk : k < L.length), (∀ j (hj : j < k), pr (L[j]'(by omega)) = true) → pr L[k] = false → (L.takeWhile pr).length = k
  | [], k, hk, _, _ => absurd hk (by simp)
  | s :: r, 0, hk, _, h => by
    have : pr s = false := h
    simp [List.takeWhile, this]
  | s :: r, k + 1, hk, hj, h => by
    have h0 : pr s = true := hj 0 (by omega)
    have := idxQ_here (L := r) (k := k) (by simpa using hk) (fun j hj' => hj (j + 1) (by omega)) h
    simp [List.takeWhile, h0, this]
theorem idxQ_none {pr : Nat × Nat → Bool} : ∀ {L : List (Nat × Nat)}, (∀ j (hj : j < L.length), pr L[j] = true) → (L.takeWhile pr).length = L.length
  | [], _ => rfl
  | s :: r, h => by
    have h0 : pr s = true := h 0 (by simp)
    have := idxQ_none (L := r) (fun j hj => h (j + 1) (by simpa using hj))
    simp [List.takeWhile, h0, this]
set_option maxHeartbeats 1000000 in
set_option maxRecDepth 100000 in
theorem indexDel_any (a : Option Addr) (n c : Nat) (L : List (Nat × Nat)) (w : World) (hr : RgRow w a n L) (hn : n ≤ 90000) :
    Calls Tryz.prog 115 #[.slice a n c, .func (.func 100) #[] #[]] w fun e w' => e = .returned (.int .i64 (idxQ validP L)) ∧ Below w.heap.size w w' := by
  have HR := Lib.hid hr
  have HL := Lib.hid hr.1
  have CC : Hid (∀ (s : Nat × Nat) (W : World), Below w.heap.size w W → Calls Tryz.prog 100 #[.agg (rcells s)] W fun e w' => e = .returned (.bool (!validP s)) ∧ Below W.heap.size W w') := Lib.hid (fun s W _ => wrongR_any s W)
  clear hr
  generalize hpr : validP = pr at *
  clear hpr
  go_enter Tryz.func115, Tryz.ntmps115
  go_wp2_with fail
  go_loopw [8] (fun iV wr => ∃ (k : Nat), iV = .int .i64 (k : Int) ∧ k ≤ n ∧ (∀ j (hj : j < L.length), j < k → pr L[j] = true) ∧ Below w.heap.size w wr) (fun iV _ => (200000 - intOf iV).toNat)
  case atStart => exact ⟨0, rfl, Nat.zero_le _, fun _ _ h => absurd h (by omega), Below.refl _ _⟩
  case round =>
    obtain ⟨k, rfl, hk, hj, hb⟩ := hrel
    have HJ := Lib.hid hj
    have B5 := Lib.hid hb
    clear hj hb
    by_cases hlt : k < n
    · have t0 : decide ((k : Int) < (n : Int)) = true := decide_eq_true (by omega)
      have t0' : decide (k < n) = true := decide_eq_true hlt
      have hkL : k < L.length := by rw [HL.out]; exact hlt
      obtain ⟨b, off, rfl, hbl⟩ := HR.out.form (by omega)
      have RG := Lib.hid ((HR.out.below B5.out).range k hkL)
      have C1 := Lib.hid (CC.out L[k] wr B5.out)
      have i0 : (0 : Int) ≤ (k : Int) := by omega
      have i1 : (k : Int) < (n : Int) := by omega
      have kI : IntKind.i64.wrap ((k : Int) + 1) = (k : Int) + 1 := IntWalk.i64_in _ (by omega)
      have HD := Lib.hid (fun h => idxQ_here hkL (fun j hj => HJ.out j (by omega) hj) h)
      have HN := Lib.hid (fun (h : pr L[k] = true) j (hj : j < L.length) (h2 : j < k + 1) => (by
        rcases Nat.lt_or_ge j k with h3 | h3
        · exact HJ.out j hj h3
        · obtain rfl : j = k := by omega
          exact h : pr L[j] = true))
      have HI : Hid ((L.takeWhile pr).length = k → idxQ pr L = (k : Int)) := Lib.hid (fun h => by
        unfold idxQ
        rw [h, if_neg (by omega)])
      generalize L[k] = p at *
      clear HR HL HJ CC
      generalize pr p = q at *
      cases q with
      | true =>
        have HN2 := Lib.hid (HN.out rfl)
        clear HN HD HI
        go_wp2_with (first
          | ((with_reducible refine load_range_at 14 b (off + k * 2) p ?_ RG.out ?_); (· rfl))
          | (go_at_call 100
             refine C1.out.mono ?_
             rintro r w6 ⟨rfl, hb6⟩
             have B6 := Lib.hid (Below.step B5.out hb6)
             clear hb6))
        go_roundw
        case rel => exact ⟨k + 1, by go_num, by omega, HN2.out, B6.out⟩
        case measure => simp only [intOf]; omega
      | false =>
        have HD2 := Lib.hid (HI.out (HD.out rfl))
        clear HN HD HI
        go_wp2_with (first
          | ((with_reducible refine load_range_at 14 b (off + k * 2) p ?_ RG.out ?_); (· rfl))
          | (go_at_call 100
             refine C1.out.mono ?_
             rintro r w6 ⟨rfl, hb6⟩
             have B6 := Lib.hid (Below.step B5.out hb6)
             clear hb6))
        go_ret
        exact ⟨by rw [HD2.out]; rfl, B6.out⟩
    · obtain rfl : k = n := by omega
      have t0 : decide ((k : Int) < (k : Int)) = false := decide_eq_false (by omega)
      have t0' : decide (k < k) = false := decide_eq_false (by omega)
      have HI : Hid (idxQ pr L = -1) := Lib.hid (by
        unfold idxQ
        rw [if_pos (idxQ_none (fun j hj => HJ.out j hj (by rw [← HL.out]; exact hj)))])
      clear HR HL HJ
      go_wp2_with fail
      go_ret
      exact ⟨by rw [HI.out]; rfl, B5.out⟩
end Go.Proofs.YtlmndmfebgaidaaGreatDoor
namespace Go.Proofs.YtlmndmfebgaidaaGreatDoor
open Go.RowKit
set_option linter.unusedVariables false
def GivesInR (W0 : World) (L : List (Nat × Nat)) (e : Ending) (w' : World) : Prop := ∃ V, e = .returned V ∧ RgOut W0 w' V L
def DelR (L : List (Nat × Nat)) (i j : Nat) (R : List (Nat × Nat)) : Prop := R.length = L.length ∧ i < j ∧ R.take i = (L.take j).filter validP ∧ R.drop j = L.drop j
theorem delR_start {L : List (Nat × Nat)} (h : ¬ (L.takeWhile validP).length = L.length) : (L.takeWhile validP).length < L.length ∧ DelR L (L.takeWhile validP).length ((L.takeWhile validP).length + 1) L := by
  have key : ∀ M : List (Nat × Nat), ¬ (M.takeWhile validP).length = M.length → (M.takeWhile validP).length < M.length ∧ M.take (M.takeWhile validP).length = (M.take ((M.takeWhile validP).length + 1)).filter validP := by
    intro M
    induction M with
    | nil => intro h; exact absurd rfl h
    | cons s r ih =>
      intro h
      cases hs : validP s with
      | true =>
        simp only [List.takeWhile, hs, List.length_cons] at h ⊢
        obtain ⟨h1, h2⟩ := ih (by omega)
        refine ⟨by omega, ?_⟩
        rw [List.take_succ_cons, List.take_succ_cons, List.filter_cons_of_pos hs, ← h2]
      | false =>
        simp [List.takeWhile, hs]
  obtain ⟨h1, h2⟩ := key L h
  exact ⟨h1, rfl, Nat.lt_succ_self _, h2, rfl⟩
theorem allR_right : ∀ {L : List (Nat × Nat)}, (L.takeWhile validP).length = L.length → L.filter validP = L
  | [], _ => rfl
  | s :: r, h => by
    cases hs : validP s with
    | true =>
      simp only [List.takeWhile, hs, List.length_cons] at h
      rw [List.filter_cons_of_pos hs, allR_right (by omega)]
    | false => simp [List.takeWhile, hs] at h
theorem delR_at {L R : List (Nat × Nat)} {i j : Nat} (h : DelR L i j R) (hj : j < L.length) : R[j]'(by rw [h.1]; exact hj) = L[j] := by
  have hR : j < R.length := by rw [h.1]; exact hj
  have e := h.2.2.2
  rw [List.drop_eq_getElem_cons hR, List.drop_eq_getElem_cons hj] at e
  injection e
theorem delR_next {L R : List (Nat × Nat)} {i j : Nat} (h : DelR L i j R) (hj : j < L.length) : R.drop (j + 1) = L.drop (j + 1) := by
  have hR : j < R.length := by rw [h.1]; exact hj
  have e := h.2.2.2
  rw [List.drop_eq_getElem_cons hR, List.drop_eq_getElem_cons hj] at e
  injection e
theorem delR_keep {L R : List (Nat × Nat)} {i j : Nat} (h : DelR L i j R) (hj : j < L.length) (hr : validP L[j] = true) : DelR L (i + 1) (j + 1) (R.set i L[j]) := by
  have hi : i < R.length := by have := h.1; have := h.2.1; omega
  refine ⟨by rw [List.length_set]; exact h.1, by have := h.2.1; omega, ?_, ?_⟩
  · rw [(listR_split L[j] hi).1, h.2.2.1, List.take_add_one, List.filter_append, List.getElem?_eq_getElem hj]
    simp [hr]
  · rw [List.drop_set_of_lt (by have := h.2.1; omega), delR_next h hj]
theorem delR_skip {L R : List (Nat × Nat)} {i j : Nat} (h : DelR L i j R) (hj : j < L.length) (hr : validP L[j] = false) : DelR L i (j + 1) R := by
  refine ⟨h.1, by have := h.2.1; omega, ?_, delR_next h hj⟩
  rw [h.2.2.1, List.take_add_one, List.filter_append, List.getElem?_eq_getElem hj]
  simp [hr]
theorem delR_end {L R : List (Nat × Nat)} {i : Nat} (h : DelR L i L.length R) : R.take i = L.filter validP := by
  have := h.2.2.1
  rwa [List.take_length] at this
theorem run_clear_range (w : World) (ty : TypeId) (g o n c : Nat) (hn : 0 < n) (ht : w.there g o (n * 2)) :
    (Builtin.clear_ #[23] ty #[.slice (some ⟨g, o, none⟩) n c]).run Tryz.prog w = .ok (.tuple #[]) (w.setCells g o (Builtin.zeroCells (rcells (0, 0)) n).toList) ∧ (Builtin.zeroCells (rcells (0, 0)) n).toList.length = n * 2 := by
  have hl : (Builtin.zeroCells (rcells (0, 0)) n).toList.length = n * 2 := by
    simp [Builtin.zeroCells, rcells_size zeroR_ok]
  have hv : ∀ w, (zeroValue 54).run Tryz.prog w = .ok (.agg (rcells (0, 0))) w := fun w => by kernel_rfl
  have hst := run_storeCells_cells (P := Tryz.prog) g o (Builtin.zeroCells (rcells (0, 0)) n).toList 0 w (fun j hj => (ht j (by rw [hl] at hj; exact hj)).1) (fun j hj => (ht j (by rw [hl] at hj; exact hj)).2) (fun v hv => by
    have hall := Array.all_eq_true_iff_forall_mem.1 (rcells_one (0, 0))
    obtain ⟨i, _, rfl⟩ := Array.mem_map.1 (Array.mem_toList_iff.1 hv)
    have hi : i % (rcells (0, 0)).size < (rcells (0, 0)).size := Nat.mod_lt _ (by rw [rcells_size zeroR_ok]; decide)
    rw [getElem!_pos (rcells (0, 0)) (i % (rcells (0, 0)).size) hi]
    exact hall _ (Array.getElem_mem hi))
  refine ⟨?_, hl⟩
  simp only [Nat.add_zero] at hst
  obtain ⟨m, rfl⟩ : ∃ m, n = m + 1 := ⟨n - 1, by omega⟩
  simp [Builtin.clear_, run_underlying Tryz.underlying23, hv, hst, Value.cells]
theorem storeMidR_at {ops : Array Oper} {rest : List Oper} {a : Act} {w : World} {Q : Exit → Act → World → Prop} {t' : TypeId} {pos : String} {aft : Array Edge} (k j : Nat) (g o : Nat) (s : Nat × Nat) (hx : a.eval (.tmp k) = .pointer (some ⟨g, o, none⟩)) (hy : a.eval (.tmp j) = .agg (rcells s)) (ht : w.there g o (rcells s).size)
    (h : wpList Tryz.prog ops Q rest a (w.setCells g o (rcL s))) :
    wpList Tryz.prog ops Q ({ dst := none, op := .store 54 (.tmp k) (.tmp j), type := t', pos := pos, after := aft, guard := none } :: rest) a w :=
  wpList_store_mid rfl 54 (.tmp k) (.tmp j) rfl g o (rcells s) hx hy ht (by kernel_rfl) (rcells_one s) h
set_option maxHeartbeats 2000000 in
set_option maxRecDepth 100000 in
theorem deleteR_any (W0 w : World) (V : Value) (L : List (Nat × Nat)) (ho : RgOut W0 w V L) (hl : L.length ≤ 90000) :
    Calls Tryz.prog 99 #[V, .func (.func 100) #[] #[]] w (GivesInR W0 (L.filter validP)) := by
  obtain ⟨a, c, rfl, hr, hA⟩ := ho.row
  have CI := Lib.hid (indexDel_any a L.length c L w hr hl)
  have HO := Lib.hid ho
  by_cases hall : (L.takeWhile validP).length = L.length
  · have ix : idxQ validP L = -1 := by unfold idxQ; rw [if_pos hall]
    rw [ix] at CI
    have FL := Lib.hid (allR_right hall)
    clear ho hr hA ix hall
    go_enter Tryz.func99, Tryz.ntmps99
    go_wp2_with (go_at_call 115; refine CI.out.mono ?_; rintro r w2 ⟨rfl, hb2⟩; have O2 := Lib.hid (HO.out.below hb2); clear hb2)
    go_ret
    exact ⟨_, rfl, by rw [FL.out]; exact O2.out⟩
  · obtain ⟨hk, hst⟩ := delR_start hall
    have ix : idxQ validP L = ((L.takeWhile validP).length : Int) := by unfold idxQ; rw [if_neg hall]
    rw [ix] at CI
    have form := ho.form
    obtain ⟨g, cap, hV, hg0, hg1, hcap⟩ : ∃ g cap, Value.slice a L.length c = .slice (some ⟨g, 0, none⟩) L.length cap ∧ W0.heap.size ≤ g ∧ g < w.heap.size ∧ L.length ≤ cap := by
      rcases form with ⟨_, h0⟩ | h
      · rw [h0] at hk
        exact absurd hk (by simp)
      · exact h
    injection hV with e1 _ e2
    subst e1 e2
    have DS := Lib.hid hst
    have HK := Lib.hid hk
    generalize (L.takeWhile validP).length = k at *
    clear ho hr hA ix hall form hst
    obtain ⟨n, hn⟩ : ∃ n, L.length = n := ⟨_, rfl⟩
    have HN := Lib.hid hn
    rw [hn] at CI HO hk hl hcap ⊢
    clear hn
    have kI : IntKind.i64.wrap ((k : Int) + 1) = (k : Int) + 1 := IntWalk.i64_in _ (by omega)
    go_enter Tryz.func99, Tryz.ntmps99
    have k1 : ((k : Int) == -1) = false := by simp
    go_wp2_with (go_at_call 115; refine CI.out.mono ?_; rintro r w2 ⟨rfl, hb2⟩; have O2 := Lib.hid (HO.out.below hb2); clear hb2)
    clear HO CI
    go_loopw [5, 6] (fun iV jV wr => ∃ (i j : Nat) (R : List (Nat × Nat)), iV = .int .i64 (i : Int) ∧ jV = .int .i64 (j : Int) ∧ j ≤ n ∧ DelR L i j R ∧ RgOut W0 wr (.slice (some ⟨g, 0, none⟩) n c) R) (fun _ jV _ => ((n : Int) - intOf jV).toNat)
    case atStart => exact ⟨k, k + 1, L, rfl, by go_num, by omega, DS.out, O2.out⟩
    case round =>
      obtain ⟨i, j, R, rfl, rfl, hj, hd, ho⟩ := hrel
      have D5 := Lib.hid hd
      have O5 := Lib.hid ho
      have RL : Hid (R.length = n) := Lib.hid (by rw [hd.1]; exact HN.out)
      have hij := hd.2.1
      clear hd ho DS O2
      by_cases hlt : j < n
      · have t0 : decide ((j : Int) < (n : Int)) = true := decide_eq_true (by omega)
        have t0' : decide (j < n) = true := decide_eq_true hlt
        have hjL : j < L.length := by rw [HN.out]; exact hlt
        have hjR : j < R.length := by rw [RL.out]; exact hlt
        obtain ⟨a', c', hV, hrow, _⟩ := O5.out.row
        injection hV with e1 e2 e3
        subst e1
        have ra := hrow.range j hjR
        rw [delR_at D5.out hjL] at ra
        rw [Nat.zero_add] at ra
        have RG := Lib.hid ra
        have s6 := O5.out.2.2 _ (List.getElem_mem hjR)
        rw [delR_at D5.out hjL] at s6
        have C1 := Lib.hid (fun W => wrongR_any L[j] W)
        have NK := Lib.hid (fun h => delR_keep D5.out hjL h)
        have NS := Lib.hid (fun h => delR_skip D5.out hjL h)
        have ST := Lib.hid (fun (W : World) (h : RgOut W0 W (.slice (some ⟨g, 0, none⟩) n c) R) => h.set RL.out.symm hg0 i (by rw [RL.out]; omega) s6)
        have TH := Lib.hid (fun (W : World) (h : RgOut W0 W (.slice (some ⟨g, 0, none⟩) n c) R) => h.there RL.out.symm (i * 2) (rcells L[j]).size (by rw [rcells_size s6]; omega))
        have BX := Lib.hid (rbox wr L[j])
        have OX := Lib.hid (O5.out.below (boxR_below wr (.cells (rcells L[j]) 54)))
        have i0 : (0 : Int) ≤ (j : Int) := by omega
        have i1 : (j : Int) < (n : Int) := by omega
        have i2 : (0 : Int) ≤ (i : Int) := by omega
        have i3 : (i : Int) < (n : Int) := by omega
        have iI : IntKind.i64.wrap ((i : Int) + 1) = (i : Int) + 1 := IntWalk.i64_in _ (by omega)
        have jI : IntKind.i64.wrap ((j : Int) + 1) = (j : Int) + 1 := IntWalk.i64_in _ (by omega)
        clear s6 hrow ra e2 e3 HN RL
        generalize L[j] = s at *
        clear D5
        go_upto_region 8 with (first
          | ((with_reducible refine load_range_at 24 g (j * 2) s ?_ RG.out ?_); (· rfl))
          | (with_reducible refine allocR_at ?_)
          | ((with_reducible refine storeR_at 7 25 wr s ?_ ?_ ?_ ?_); (· rfl); (· rfl); (· rfl)))
        clear O5 RG
        generalize wr.alloc (.cells (rcells s) 54) = w3 at *
        generalize wr.heap.size = gb at *
        generalize hq : validP s = q at *
        clear hq
        cases q with
        | true =>
          have N7 := Lib.hid (NK.out rfl)
          clear NK NS
          go_wp2_with (first
            | ((with_reducible refine wholeR_at 7 gb s ?_ BX.out ?_); (· rfl))
            | (go_at_call 100
               refine (C1.out _).mono ?_
               rintro r w6 ⟨rfl, hb6⟩
               have O6 := Lib.hid (OX.out.below hb6)
               replace BX := Lib.hid (BX.out.below hb6 BX.out.lt)
               have T6 := Lib.hid (TH.out _ O6.out)
               have S6 := Lib.hid (ST.out _ O6.out)
               clear hb6)
            | ((with_reducible refine storeMidR_at 33 32 g (i * 2) s ?_ ?_ T6.out ?_); (· rfl); (· rfl)))
          go_roundw
          case rel => exact ⟨i + 1, j + 1, _, by go_num, by go_num, by omega, N7.out, S6.out⟩
          case measure => simp only [intOf]; omega
        | false =>
          have N7 := Lib.hid (NS.out rfl)
          clear NK NS
          go_wp2_with (first
            | ((with_reducible refine wholeR_at 7 gb s ?_ BX.out ?_); (· rfl))
            | (go_at_call 100
               refine (C1.out _).mono ?_
               rintro r w6 ⟨rfl, hb6⟩
               have O6 := Lib.hid (OX.out.below hb6)
               clear hb6))
          go_roundw
          case rel => exact ⟨i, j + 1, R, rfl, by go_num, by omega, N7.out, O6.out⟩
          case measure => simp only [intOf]; omega
      · obtain rfl : j = n := by omega
        have t0 : decide ((j : Int) < (j : Int)) = false := decide_eq_false (by omega)
        have t0' : decide (j < j) = false := decide_eq_false (by omega)
        have e0 := O5.out
        have e2 := (run_clear_range wr 0 g (i * 2) (j - i) (c - i) (by omega) (e0.there RL.out.symm _ _ (by omega))).2
        have hcl : ∀ ty, (Builtin.clear_ #[23] ty #[.slice (some ⟨g, i * 2, none⟩) (j - i) (c - i)]).run Tryz.prog wr = .ok (.tuple #[]) (wr.setCells g (i * 2) (Builtin.zeroCells (rcells (0, 0)) (j - i)).toList) := fun ty => (run_clear_range wr ty g (i * 2) (j - i) (c - i) (by omega) (e0.there RL.out.symm _ _ (by omega))).1
        have O7 := Lib.hid (e0.clear RL.out.symm hg0 i (by rw [RL.out]; omega) _ (by rw [RL.out]; exact e2))
        have DE := Lib.hid (delR_end (show DelR L i L.length R by rw [HN.out]; exact D5.out))
        rw [DE.out] at O7
        have i0 : (0 : Int) ≤ (i : Int) := by omega
        have i1 : (i : Int) ≤ (j : Int) := by omega
        have i2 : (j : Int) ≤ (c : Int) := by omega
        have i3 : (i : Int) ≤ (c : Int) := by omega
        clear e0 e2 O5 D5 HN RL DE
        generalize wr.setCells g (i * 2) (Builtin.zeroCells (rcells (0, 0)) (j - i)).toList = w7 at *
        go_wp2_with fail
        go_ret
        exact ⟨_, rfl, O7.out⟩
def GivesSortedR (L : List (Nat × Nat)) (w : World) (e : Ending) (w' : World) : Prop := ∃ V L', e = .returned V ∧ RgOut w w' V L' ∧ L'.Perm (L.filter validP) ∧ L'.Pairwise (fun a b => a.1 ≤ b.1)
def PkSorted : Prop := ∀ (a : Option Addr) (n c : Nat) (L : List (Nat × Nat)) (W : World), RgArg W a n c L → n ≤ 90000 → Calls Tryz.prog 69 #[.slice a n c] W (GivesSortedR L W)
end Go.Proofs.YtlmndmfebgaidaaGreatDoor
