/-
  Merged texts (stage 5): Pk16, Back5.
-/
import Derived.Test.YtjhffnoddhlikaaDoorGrpJ
import Derived.Test.YtjhffnoddhlikaaDoorGrpH
import Derived.Deep.DeepCutAuto
import Derived.Deep.Cut
namespace Go.Proofs.YtjhffnoddhlikaaDoor
open Go.RowKit
set_option linter.unusedVariables false

/-- An element whose bytes have room for as many. -/
def GivesNodeC (t : T) (w : World) (e : Ending) (w' : World) : Prop :=
  ∃ (A : Option Addr) (n c : Nat) (K : Option Addr) (m d : Nat), e = .returned (.agg #[.int .i64 t.tag, .slice A n c, .slice K m d]) ∧ t.InP (w.heap.size ≤ ·) w' (.agg #[.int .i64 t.tag, .slice A n c, .slice K m d]) ∧ Below w.heap.size w w' ∧ n ≤ c
def GivesNodeEC (x : T × Int) (w : World) (e : Ending) (w' : World) : Prop :=
  ∃ (A : Option Addr) (n c : Nat) (K : Option Addr) (m d : Nat), e = .returned (.tuple #[.agg #[.int .i64 x.1.tag, .slice A n c, .slice K m d], .int .i64 x.2]) ∧ x.1.InP (w.heap.size ≤ ·) w' (.agg #[.int .i64 x.1.tag, .slice A n c, .slice K m d]) ∧ Below w.heap.size w w' ∧ n ≤ c
theorem capped_of {z : Value} {A : Option Addr} {n c : Nat} {y : Value} (h : n ≤ c) : Capped (.agg #[z, .slice A n c, y]) := by
  intro z' A' n' c' y' e
  simp only [Value.agg.injEq] at e
  have e' := congrArg Array.toList e
  simp only [List.cons.injEq, and_true, Value.slice.injEq] at e'
  obtain ⟨_, ⟨_, rfl, rfl⟩, _⟩ := e'
  exact h
theorem gives_leafC {w W W0 : World} {tmps : Array Value} {fn : Func} {p : Tmp} {z : Int} {zs : List Int} {a : Option Addr} {c : Nat} (hf : fn.results = #[.cell p 26]) (hp : tmps.getD p undef = .pointer (some ⟨w.heap.size, 0, none⟩)) (hrb : RB w W) (ho : Out W0 W (.slice a zs.length c) zs) (hW : w.heap.size < W0.heap.size) (hz : (Lit.int .i64 z).wf = true) (hb : ∀ x ∈ zs, 0 ≤ x ∧ x ≤ 255) (hn : zs.length ≤ 1000000) :
    bodyPost Tryd.prog fn (GivesNodeC (.node z zs []) w) .ret { tmps := tmps, defers := [] } (boxed w W (.int .i64 z) (.slice a zs.length c) (.slice none 0 0)) := by
  obtain ⟨h1, h2⟩ := hrb.boxed (.int .i64 z) (.slice a zs.length c) (.slice none 0 0)
  refine bodyPost_ret (results_cell_row hf _ _ w.heap.size 26 #[.int .i64 z, .slice a zs.length c, .slice none 0 0] (0, 0) _ hp h1 Tryd.underlying26 rfl Tryd.sizeNode3) rfl ⟨a, zs.length, c, none, 0, 0, rfl, leaf_inP hz ?_ hn ho.nilc (fun h0 => by
    obtain ⟨b, off, e, hb⟩ := out_off ho h0
    exact ⟨b, off, e, by omega⟩), h2, own_cap ho.1⟩
  obtain ⟨a', c', e, hr⟩ := ho.row hb
  injection e with e1 e2 e3
  subst e1
  exact boxed_row hr (fun h0 => by
    obtain ⟨b, off, e, hb⟩ := out_off ho h0
    exact ⟨b, off, e, by omega⟩) _ _ _
theorem gives_leafeC {w W : World} {tmps : Array Value} {fn : Func} {p u : Tmp} {x : T × Int} {z er : Int} {zs : List Int} {a : Option Addr} {c : Nat} (hx : x = (.node z zs [], er)) (hf : fn.results = #[.cell p 26, .tmp u]) (hp : tmps.getD p undef = .pointer (some ⟨w.heap.size, 0, none⟩)) (hu : tmps.getD u undef = .int .i64 er) (hrb : RB w W) (hr : Row W a zs.length zs) (hg : 0 < zs.length → ∃ b off, a = some ⟨b, off, none⟩ ∧ w.heap.size < b) (hnil : a = none → c = 0) (hz : (Lit.int .i64 z).wf = true) (hn : zs.length ≤ 1000000) (hc : zs.length ≤ c) :
    bodyPost Tryd.prog fn (GivesNodeEC x w) .ret { tmps := tmps, defers := [] } (boxed w W (.int .i64 z) (.slice a zs.length c) (.slice none 0 0)) := by
  obtain ⟨h1, h2⟩ := hrb.boxed (.int .i64 z) (.slice a zs.length c) (.slice none 0 0)
  subst hx
  have h := results_nodee (P := Tryd.prog) hf tmps (boxed w W (.int .i64 z) (.slice a zs.length c) (.slice none 0 0)) w.heap.size 26 #[.int .i64 z, .slice a zs.length c, .slice none 0 0] (0, 0) _ hp h1 Tryd.underlying26 rfl Tryd.sizeNode3
  rw [hu] at h
  refine bodyPost_ret h rfl ⟨a, zs.length, c, none, 0, 0, rfl, leaf_inP hz (boxed_row hr (fun h0 => ?_) _ _ _) hn hnil (fun h0 => ?_), h2, hc⟩
  · obtain ⟨b, off, e, hb⟩ := hg h0
    exact ⟨b, off, e, by omega⟩
  · obtain ⟨b, off, e, hb⟩ := hg h0
    exact ⟨b, off, e, by omega⟩

set_option maxHeartbeats 1000000 in
theorem bigC_any (a : Option Addr) (n ca : Nat) (zs : List Int) (w : World) (hr : Row w a n zs) (hnc : n ≤ ca) (hn : n ≤ 100000) (hnil : a = none → ca = 0) : Calls Tryd.prog 14 #[.slice a n ca] w (GivesNodeC (bigT zs) w) := by
  have hby := hr.2.1
  have hbb : ∀ x ∈ bareZ zs, 0 ≤ x ∧ x ≤ 255 := fun x hx => hby x (bare_mem hx)
  have hle := bare_le zs
  have hl := hr.1
  have S0 := Lib.hid (RB.start w)
  have CI := Lib.hid (bareW_any a n ca zs _ (hr.below S0.out.below) hnc (by omega) hnil)
  have GB := Lib.hid (big_byte hby)
  have GL := Lib.hid (big_le zs)
  have HBB := Lib.hid hbb
  clear hr hnil hby hbb
  go_enter Tryd.func14, Tryd.ntmps14
  go_wp2_with fail
  refine CI.out.mono ?_
  rintro e w2 ⟨b2, c2, rfl, hr2, hn2, hc2, rfl⟩
  have W2 : Hid (w.heap.size < (w.alloc (.cells #[.int .i64 0, .slice none 0 0, .slice none 0 0] 26)).heap.size) := by simp [Hid]
  generalize w.alloc (.cells #[.int .i64 0, .slice none 0 0, .slice none 0 0] 26) = w2 at *
  have R2 := Lib.hid hr2
  have N2 := Lib.hid hn2
  clear hr2 hn2 CI
  by_cases h0 : bareZ zs = []
  · have F : Hid (bigZ zs = [0] ++ bareZ zs) := if_pos (.inl h0)
    have L0 : Hid ((bareZ zs).length = 0) := by rw [h0]; exact Lib.hid rfl
    have t0 : (((bareZ zs).length : Int) == 0) = true := by rw [L0.out]; rfl
    have O0 := Lib.hid (out_nil (w2.alloc (.cells #[.int .u8 0] 5)) |>.wider ((Below.refl w2.heap.size w2).alloc (Nat.le_refl _) _))
    have R3 := Lib.hid (row_const w2 [0] (0, 0) (by intro x hx; simp at hx; omega))
    clear h0
    generalize bareZ zs = bz at *
    go_wp2_with (at_builtin; first
      | (refine out_append (W0 := w2) (L := []) (zs := [0]) rfl _ _ rfl rfl O0.out rfl R3.out (fun e => by cases e) (by simp) ?_; intro V3 w3 ho3; rw [List.nil_append] at ho3; have O3 := Lib.hid ho3; have R5 := Lib.hid (R2.out.below ho3.2); clear ho3)
      | (go_must (refine out_append (L := [0]) (zs := bz) rfl _ _ rfl rfl O3.out rfl R5.out N2.out (by simp; omega) ?_; intro V4 w4 ho4; have O4 := Lib.hid ho4; have S4 := Lib.hid (S0.out.go ho4.2); obtain ⟨p0, p1, p2, f0, f1, f2⟩ := S4.out.box.six; rw [← F.out] at ho4 O4; obtain ⟨b4, c4, rfl, hr4⟩ := ho4.row GB.out; clear ho4)))
    exact gives_leafC rfl rfl S4.out O4.out W2.out rfl GB.out (by have := GL.out; omega)
  · have L0 : Hid (0 < (bareZ zs).length) := List.length_pos_iff.2 h0
    have t0 : (((bareZ zs).length : Int) == 0) = false := by simp; exact h0
    obtain ⟨b, off, rfl, hbl, hc⟩ := R2.out.2.2 L0.out
    have c0 := hc 0 L0.out
    rw [Nat.add_zero] at c0
    have z0 := R2.out.byte 0
    clear hc
    by_cases h8 : 128 ≤ (bareZ zs)[(0 : Nat)]?.getD 0
    · have F : Hid (bigZ zs = [0] ++ bareZ zs) := if_pos (.inr h8)
      have O0 := Lib.hid (out_nil (w2.alloc (.cells #[.int .u8 0] 5)) |>.wider ((Below.refl w2.heap.size w2).alloc (Nat.le_refl _) _))
      have R3 := Lib.hid (row_const w2 [0] (0, 0) (by intro x hx; simp at hx; omega))
      clear h0
      generalize (bareZ zs)[(0 : Nat)]?.getD 0 = x0 at c0 z0 h8
      generalize bareZ zs = bz at *
      go_wp2_with (at_builtin; first
        | (refine out_append (W0 := w2) (L := []) (zs := [0]) rfl _ _ rfl rfl O0.out rfl R3.out (fun e => by cases e) (by simp) ?_; intro V3 w3 ho3; rw [List.nil_append] at ho3; have O3 := Lib.hid ho3; have R5 := Lib.hid (R2.out.below ho3.2); clear ho3)
        | (go_must (refine out_append (L := [0]) (zs := bz) rfl _ _ rfl rfl O3.out rfl R5.out N2.out (by simp; omega) ?_; intro V4 w4 ho4; have O4 := Lib.hid ho4; have S4 := Lib.hid (S0.out.go ho4.2); obtain ⟨p0, p1, p2, f0, f1, f2⟩ := S4.out.box.six; rw [← F.out] at ho4 O4; obtain ⟨b4, c4, rfl, hr4⟩ := ho4.row GB.out; clear ho4)))
      exact gives_leafC rfl rfl S4.out O4.out W2.out rfl GB.out (by have := GL.out; omega)
    · have F : Hid (bigZ zs = bareZ zs) := if_neg (by rintro (h | h); exact h0 h; exact h8 h)
      have O0 := Lib.hid (out_nil w2)
      generalize (bareZ zs)[(0 : Nat)]?.getD 0 = x0 at c0 z0 h8
      clear h0
      generalize bareZ zs = bz at *
      go_wp2_with (at_builtin; go_must (refine out_append (W0 := w2) (L := []) (zs := bz) rfl _ _ rfl rfl O0.out rfl R2.out N2.out (by simp; omega) ?_; intro V4 w4 ho4; rw [List.nil_append] at ho4; have O4 := Lib.hid ho4; have S4 := Lib.hid (S0.out.go ho4.2); obtain ⟨p0, p1, p2, f0, f1, f2⟩ := S4.out.box.six; rw [← F.out] at ho4 O4; obtain ⟨b4, c4, rfl, hr4⟩ := ho4.row GB.out; clear ho4))
      exact gives_leafC rfl rfl S4.out O4.out W2.out rfl GB.out (by have := GL.out; omega)

set_option maxHeartbeats 4000000 in
set_option maxRecDepth 100000 in
theorem bits0_any (a : Option Addr) (n ca : Nat) (zs : List Int) (w : World) (hr : Row w a n zs) (hn : n ≤ 100000) (hnil : a = none → ca = 0) : Calls Tryd.prog 25 #[.slice a n ca, .int .i64 (8 * (n : Int))] w (GivesNodeEC (.node 3 (0 :: zs) [], 0) w) := by
  have S0 := Lib.hid (RB.start w)
  have R0 := Lib.hid (hr.below S0.out.below)
  have HL := Lib.hid hr.1
  have HB := Lib.hid hr.2.1
  have NI := Lib.hid hnil
  clear hr hnil
  have t3 : ((n : Int) != (8 * (n : Int) + 7) / 8) = false := by have : (8 * (n : Int) + 7) / 8 = (n : Int) := by omega
                                                                 rw [this]; simp
  have hq : 8 * (n : Int) - 8 * (n : Int) = 0 := by omega
  go_enter Tryd.func25, Tryd.ntmps25
  go_wp2_with fail
  refine (bob_any (8 * (n : Int)) _ (by omega) (by omega)).mono ?_
  rintro e w1 ⟨rfl, rfl⟩
  go_wp2_with fail
  generalize hw0 : w.alloc (.cells #[.int .i64 0, .slice none 0 0, .slice none 0 0] 26) = w0 at *
  have hlt0 : w.heap.size < w0.heap.size := S0.out.box.lt
  clear hw0
  refine wp_region_ord Ext Ext.refl (fun _ _ _ => Ext.trans) ((0, false) :: (1, false) :: (2, false) :: (3, false) :: (4, false) :: (5, false) :: (6, false) :: (7, false) :: (8, false) :: (9, false) :: (10, false) :: (11, false) :: (12, false) :: (13, false) :: (14, false) :: []) (by kernel_rfl) (by kernel_rfl) rfl (by kernel_rfl) (fun _ _ _ _ _ h => h) ?_
  repeat (first | (refine ord_take _ rfl (by rfl) (fun W hW => by go_simp; first | done | rfl) ?_; simp only [Act.put, List.setIfInBounds_toArray, List.set_cons_zero, List.set_cons_succ]) | (refine ord_skip rfl (by rfl) ?_; simp only [Act.put, List.setIfInBounds_toArray, List.set_cons_zero, List.set_cons_succ]))
  refine ord_end ?_
  have E1 : Hid (Ext w0 w0.drew) := Ext.drew (Ext.refl w0)
  generalize w0.drew = w1 at E1 ⊢
  have R1 := Lib.hid (R0.out.below E1.out)
  have S1 := Lib.hid (S0.out.go E1.out)
  have hlt1 : w.heap.size < w1.heap.size := S1.out.box.lt
  clear R0 S0 E1 hlt0
  have O3 := Lib.hid (out_one w1 0)
  have R3 := Lib.hid (R1.out.below ((Below.refl w1.heap.size w1).alloc (Nat.le_refl _) (.cells #[.int .u8 0] 5)))
  go_wp2_with (at_builtin; go_must (refine out_append (W0 := w1) (L := [0]) (zs := zs) rfl _ _ rfl rfl O3.out rfl R3.out NI.out (by simp; omega) ?_; intro V4 w4 ho4; have O4 := Lib.hid ho4; have S4 := Lib.hid (S1.out.go ho4.2); obtain ⟨p0, p1, p2, f0, f1, f2⟩ := S4.out.box.six; obtain ⟨b4, c4, rfl, hr4⟩ := ho4.row (by intro y hy; rcases List.mem_cons.1 hy with rfl | hy; omega; exact HB.out y hy); have R4 := Lib.hid hr4; clear ho4 hr4))
  exact gives_leafeC (zs := 0 :: zs) (c := c4) rfl rfl rfl rfl S4.out R4.out (fun h0 => by obtain ⟨b, off, e, hb⟩ := out_off O4.out h0; exact ⟨b, off, e, Nat.lt_of_lt_of_le hlt1 hb⟩) O4.out.nilc rfl (by have := HL.out; simp; omega) (own_cap O4.out.1)

end Go.Proofs.YtjhffnoddhlikaaDoor

namespace Go.Proofs.YtjhffnoddhlikaaDoor
open Go.RowKit
set_option linter.unusedVariables false

theorem sevens_len (ys : List Int) (h : ∀ y ∈ ys, 0 ≤ y ∧ y ≤ 4294967295) : (sevens ys).length ≤ 10 * ys.length := by
  induction ys with
  | nil => simp [sevens]
  | cons y ys ih =>
    have h1 := seven_len (n := y.toNat) (by have := h y (List.mem_cons_self ..); omega)
    have h2 := ih (fun z hz => h z (List.mem_cons_of_mem _ hz))
    rw [show sevens (y :: ys) = sevenN y.toNat ++ sevens ys by simp [sevens], List.length_append, List.length_cons]
    omega
theorem oidB_len {zs : List Int} (h : OidOk zs) (hy : ∀ y ∈ zs, 0 ≤ y ∧ y ≤ 4294967295) : (oidB zs).length ≤ 10 + 10 * zs.length := by
  obtain ⟨h2, h20, hp, hq, hpq⟩ := h
  have h1 := sevens_len (zs.drop 2) (fun y hy' => hy y (List.mem_of_mem_drop hy'))
  have h3 := seven_len (n := (40 * zs[(0 : Nat)]?.getD 0 + zs[(1 : Nat)]?.getD 0).toNat) (by omega)
  unfold oidB
  rw [List.length_append]
  rw [List.length_drop] at h1
  omega
theorem conv_later {wr : World} {a : Option Addr} {n : Nat} {l : List Int} (c : Nat) (h : Row wr a n l) : ∀ W, Ext wr.drew W → (convert 23 9 (.slice a n c)).run Tryd.prog W = .ok (.string (strOfNums l)) W := fun W hW => conv_at c (h.below ⟨hW.os, hW.tape, hW.output, hW.size, hW.block⟩)
/-- What a world that goes on from another one is. -/
def Goes (w W : World) : Prop := Below w.heap.size w W

set_option maxHeartbeats 16000000 in
set_option maxRecDepth 100000 in
theorem back_walk (x : Int) (a1 : Option Addr) (len1 cap1 : Nat) (ls : List Int) (a2 : Option Addr) (len2 cap2 : Nat) (zs : List Int) (w : World) (h0 : 0 ≤ x) (h1 : x ≤ 18446744073709551615)
    (hr1 : Row32 w a1 len1 ls) (hnc1 : len1 ≤ cap1) (hr2 : Row w a2 len2 zs) (hnc2 : len2 ≤ cap2) (hnil2 : a2 = none → cap2 = 0) :
    Calls Tryd.prog 7 #[.int .u64 x, .slice a1 len1 cap1, .slice a2 len2 cap2] w fun e w' => e = .returned (.bool true) ∧ Below w.heap.size w w' := by
  obtain rfl := hr1.1
  obtain rfl := hr2.1
  have R1 := Lib.hid hr1
  have R2 := Lib.hid hr2
  have NI := Lib.hid hnil2
  clear hr1 hr2 hnil2
  go_enter Tryd.func7, Tryd.ntmps7
  go_wp2_with fail
  refine (up_said _).mono ?_
  rintro e w1 ⟨rfl, hb⟩
  have B1 := Lib.hid hb
  clear hb
  by_cases hl1 : 100 < ls.length
  · go_wp2_with fail
    go_ret
    exact ⟨rfl, B1.out⟩
  by_cases hl2 : 500 < zs.length
  · go_wp2_with fail
    go_ret
    exact ⟨rfl, B1.out⟩
  -- Int, Uint
  go_wp2_with fail
  refine (int_any x _ h0 h1).mono ?_
  rintro e w2 ⟨A2, n2, c2, K2, m2, d2, rfl, hin2, hb2⟩
  have I2 := Lib.hid (T.InP.in _ hin2)
  have B2 := Lib.hid (Below.step B1.out hb2)
  have hlx : (intT x).body.length ≤ 1000000 := by
    have h1 := big_le (leastZ x)
    have h2 := leastM_le x
    have h3 : (leastZ x).length = leastM x := beZ_length _ _
    show (bigZ (leastZ x)).length ≤ 1000000
    omega
  clear hin2 hb2 B1
  go_wp2_with fail
  refine (uint_any (intT x) _ _ I2.out hlx).mono ?_
  rintro e w3 ⟨rfl, hb3⟩
  rw [uint_int x h0 h1]
  have B3 := Lib.hid (Below.step B2.out hb3)
  clear hb3 B2 I2 hlx
  -- Oid
  go_wp2_with fail
  refine (oid_any a1 ls.length cap1 ls _ (R1.out.below B3.out) hnc1).mono ?_
  intro e w4 h4
  obtain ⟨A4, n4, c4, K4, m4, d4, rfl, hin4, hb4⟩ := h4.has
  have P5 := Lib.hid (Box.start hin4)
  have B5 := Lib.hid (Below.step (Below.step B3.out hb4) P5.out.below)
  clear h4 hin4 hb4 B3
  generalize hw5 : w4.alloc (.cells #[.int .i64 (oidZ ls).1.tag, .slice A4 n4 c4, .slice K4 m4 d4] 26) = w5 at *
  go_upto_if 51 with (fail)
  go_cut [11] (fun s11 wx => Goes w5 wx)
  case first =>
    by_cases hok : OidOk ls
    · have hos : oidZ ls = (.node 6 (oidB ls) [], 0) := if_pos hok
      have hby := R1.out.2.1
      have AB := Lib.hid (arcs_back ls hok hby)
      have hbl := oidB_len hok hby
      have hll : ls.length ≤ 100 := by have := R1.out.1; omega
      rw [hos] at P5 ⊢
      simp only at P5
      clear hok hos hby
      obtain ⟨p0, p1, p2⟩ := P5.out.cells
      go_wp2_with fail
      refine (arcs_any _ _ _ P5.out.has (by show (oidB ls).length ≤ 30000; omega)).mono ?_
      intro e w6 h6
      rw [AB.out] at h6
      obtain ⟨a6, c6, rfl, hr6, hn6, hc6, hb6⟩ := h6
      have R6 := Lib.hid hr6
      have G6 := Lib.hid hb6
      clear hr6 hb6 hn6 p0 p1 p2 AB
      go_wp2_with fail
      refine (same32_any a6 a1 _ ls.length c6 cap1 ls ls _ R6.out ((R1.out.below B5.out).below G6.out) (by omega)).mono ?_
      rintro e w7 ⟨rfl, q, rfl⟩
      rw [decide_eq_true rfl]
      go_wp2_with fail
      go_meet
      exact Below.step G6.out (drewN_below w6 q)
    · have hos : (oidZ ls).2 = 1 := by unfold oidZ; rw [if_neg hok]
      rw [hos]
      clear hok hos
      go_wp2_with fail
      go_meet
      exact Below.refl _ _
  case rest =>
    have hcut' : Below w5.heap.size w5 wc := hcut
    have B6 := Lib.hid (Below.step B5.out hcut')
    clear hcut hcut' B5 P5 hw5
    have R6 := Lib.hid (R2.out.below B6.out)
    have w8 : IntKind.i64.wrap (8 * (zs.length : Int)) = 8 * (zs.length : Int) := IntWalk.i64_in _ (by omega)
    -- Bits, Of
    go_wp2_with fail
    refine (bits0_any a2 zs.length cap2 zs _ R6.out (by omega) NI.out).mono ?_
    rintro e w7 ⟨A7, n7, c7, K7, m7, d7, rfl, hin7, hb7, hc7⟩
    have P8 := Lib.hid (Box.start (T.InP.in _ hin7))
    have B8 := Lib.hid (Below.step (Below.step B6.out hb7) P8.out.below)
    have hz2 : zs.length ≤ 500 := by have := R2.out.1; omega
    clear hin7 hb7 B6 R6
    obtain ⟨p0, p1, p2⟩ := P8.out.cells
    go_wp2_with fail
    refine (of_any _ _ _ P8.out.has (capped_of hc7) (by show (0 :: zs).length ≤ 30000; rw [List.length_cons]; omega)).mono ?_
    intro e w9 h9
    rw [of_bits zs] at h9
    obtain ⟨a9, c9, rfl, hr9, hn9, hc9, hb9⟩ := h9
    have B9 := Lib.hid (Below.step B8.out hb9)
    have R9 := Lib.hid hr9
    clear hr9 hb9 B8 P8 p0 p1 p2
    -- Big, Great
    go_wp2_with fail
    refine (bigC_any a2 zs.length cap2 zs _ (R2.out.below B9.out) hnc2 (by omega) NI.out).mono ?_
    rintro e w10 ⟨A10, n10, c10, K10, m10, d10, rfl, hin10, hb10, hc10⟩
    have I10 := Lib.hid (T.InP.in _ hin10)
    have B10 := Lib.hid (Below.step B9.out hb10)
    have R10 := Lib.hid (R9.out.below hb10)
    have hbg := big_le zs
    clear hin10 hb10 B9 R9
    go_wp2_with fail
    refine (great_any _ _ _ I10.out (capped_of hc10) (by show (bigZ zs).length ≤ 30000; omega)).mono ?_
    intro e w11 h11
    rw [great_big zs] at h11
    obtain ⟨a11, c11, rfl, hr11, hn11, hc11, hb11⟩ := h11
    have B11 := Lib.hid (Below.step B10.out hb11)
    have R11 := Lib.hid hr11
    have R12 := Lib.hid (R10.out.below hb11)
    have R13 := Lib.hid (R2.out.below B11.out)
    clear hr11 hb11 B10 R10 I10
    go_upto_region 16 with (fail)
    have hble := bare_le zs
    obtain ⟨m, hm⟩ : ∃ m : Nat, zs.length = m + (bareZ zs).length := ⟨zs.length - (bareZ zs).length, by omega⟩
    have BE : Hid (bareZ zs = zs.drop m) := by
      have h := bare_end zs
      rw [show zs.length - (bareZ zs).length = m by omega] at h
      exact Lib.hid h
    have tle : decide (((bareZ zs).length : Int) ≤ (zs.length : Int)) = true := decide_eq_true (by omega)
    have wsub : IntKind.i64.wrap ((zs.length : Int) - ((bareZ zs).length : Int)) = (m : Int) := by
      rw [show (zs.length : Int) - ((bareZ zs).length : Int) = (m : Int) by omega]
      exact IntWalk.i64_in _ (by omega)
    have hm0 : (0 : Int) ≤ (m : Int) := by omega
    have hm1 : (m : Int) ≤ (zs.length : Int) := by omega
    have HMm := Lib.hid hm
    clear hm
    have R14 : Hid (Row w11 (if cap2 = m then a2 else a2.map (·.add m)) (zs.length - m) (bareZ zs)) := by
      have h := R13.out.rest m cap2 (by omega) hnc2
      rw [← BE.out] at h
      exact Lib.hid h
    have cv4 := conv_later (cap2 - m) R14.out
    have cv1 := conv_later c9 R12.out
    have cv2 := conv_later cap2 R13.out
    have cv3 := conv_later c11 R11.out
    refine wp_region_ord Ext Ext.refl (fun _ _ _ => Ext.trans) ((0, false) :: (1, false) :: (2, false) :: (3, false) :: (4, false) :: (5, false) :: (6, false) :: (7, false) :: (8, false) :: (9, false) :: (10, false) :: (11, false) :: (12, false) :: (13, false) :: (14, false) :: (15, false) :: (16, false) :: (17, false) :: (18, false) :: (19, false) :: (20, false) :: (21, false) :: (22, false) :: (23, false) :: (24, false) :: (25, false) :: (26, false) :: (27, false) :: (28, false) :: (29, false) :: (30, false) :: (31, false) :: (32, false) :: (33, false) :: (34, false) :: (35, false) :: (36, false) :: (37, false) :: (38, false) :: (39, false) :: (40, false) :: (41, false) :: (42, false) :: (43, false) :: (44, false) :: (45, false) :: (46, false) :: (47, false) :: []) (by kernel_rfl) (by kernel_rfl) rfl (by kernel_rfl) (fun _ _ _ _ _ h => h) ?_
    repeat (first | (refine ord_take _ rfl (by rfl) (fun W hW => by go_simp; first | done | rfl) ?_; simp only [Act.put, List.setIfInBounds_toArray, List.set_cons_zero, List.set_cons_succ]) | (refine ord_skip rfl (by rfl) ?_; simp only [Act.put, List.setIfInBounds_toArray, List.set_cons_zero, List.set_cons_succ]))
    clear cv1 cv2 cv3 cv4
    refine ord_end ?_
    go_wp2_with fail
    all_goals (go_ret; exact ⟨rfl, Ext.drew B11.out⟩)

end Go.Proofs.YtjhffnoddhlikaaDoor
