/-
  Merged texts (stage 5): NumbersWalk, NamesWalk, BitsWalk, TextsWalk, JustFacts.
-/
import Derived.Test.YtjhffnoddhlikaaDoorGrpDS
import Derived.Test.YtjhffnoddhlikaaDoorGrpA
namespace Go.Proofs.YtjhffnoddhlikaaDoor
open Go.RowKit
set_option linter.unusedVariables false

/-- A call that hands an element back, wherever it lies. -/
def HasNode (t : T) (w : World) (e : Ending) (w' : World) : Prop :=
  ∃ (A : Option Addr) (n c : Nat) (K : Option Addr) (m d : Nat), e = .returned (.agg #[.int .i64 t.tag, .slice A n c, .slice K m d]) ∧ t.In w' (.agg #[.int .i64 t.tag, .slice A n c, .slice K m d]) ∧ Below w.heap.size w w'
theorem GivesNode.has {t : T} {w w' : World} {e : Ending} (h : GivesNode t w e w') : HasNode t w e w' := by
  obtain ⟨A, n, c, K, m, d, e, hin, hb⟩ := h
  exact ⟨A, n, c, K, m, d, e, T.InP.in _ hin, hb⟩
def UpSaid : Prop := ∀ W, Calls Tryd.prog 9 #[] W fun e w' => e = .returned (.bool true) ∧ Below W.heap.size W w'
def IntSaid : Prop := ∀ (x : Int) W, 0 ≤ x → x ≤ 18446744073709551615 → Calls Tryd.prog 12 #[.int .u64 x] W (HasNode (intT x) W)
def BigSaid : Prop := ∀ (a : Option Addr) (n ca : Nat) (zs : List Int) W, Row W a n zs → n ≤ ca → n ≤ 1000 → (a = none → ca = 0) → Calls Tryd.prog 14 #[.slice a n ca] W (HasNode (bigT zs) W)
def UintSaid : Prop := ∀ (t : T) (v : Value) W, t.In W v → Capped v → t.body.length ≤ 30000 → Calls Tryd.prog 16 #[v] W (GivesUint (uintZ t) W)
def GreatSaid : Prop := ∀ (t : T) (v : Value) W, t.In W v → Capped v → t.body.length ≤ 30000 → Calls Tryd.prog 18 #[v] W (GivesBE (greatZ t) W)
theorem body_wt (t : T) : t.body.length ≤ wt t := by
  obtain ⟨tag, body, kids⟩ := t
  have := wtAll_pos kids
  rw [wt]
  simp only [T.body]
  omega
theorem great_byte {t : T} (h : ∀ x ∈ t.body, 0 ≤ x ∧ x ≤ 255) : ∀ x ∈ (greatZ t).1, 0 ≤ x ∧ x ≤ 255 := by
  intro x hx
  unfold greatZ at hx
  split at hx
  · exact h x (bare_mem hx)
  · simp at hx

set_option maxHeartbeats 4000000 in
set_option maxRecDepth 100000 in
theorem numbers_walk (hUp : UpSaid) (hInt : IntSaid) (hBig : BigSaid) (hUint : UintSaid) (hGreat : GreatSaid)
    (a0 : Int) (a1 : Option Addr) (len1 cap1 : Nat) (zs : List Int) (v : Value) (t : T) (w : World) (h0 : 0 ≤ a0) (h1 : a0 ≤ 18446744073709551615) (hr : Row w a1 len1 zs) (hnc : len1 ≤ cap1) (hnil : a1 = none → cap1 = 0) (hin : t.In w v) (hcap : Capped v) :
    Calls Tryd.prog 3 #[.int .u64 a0, .slice a1 len1 cap1, v] w fun e w' => e = .returned (.bool true) ∧ Below w.heap.size w w' := by
  obtain ⟨A, n, c, K, m, d, rfl, hw, hrt, hn, hc, hm, hm', hks⟩ := hin.open
  have BX := Lib.hid (Box.start hin)
  have R0 := Lib.hid hr
  have CP := Lib.hid hcap
  have NI := Lib.hid hnil
  have UP := Lib.hid hUp
  have IN := Lib.hid hInt
  have BG := Lib.hid hBig
  have UN := Lib.hid hUint
  have GR := Lib.hid hGreat
  clear hks hc hin hm hm' hw hn hrt hr hcap hnil hUp hInt hBig hUint hGreat
  go_enter Tryd.func3, Tryd.ntmps3
  go_wp2_with fail
  refine (UP.out _).mono ?_
  rintro e w1 ⟨rfl, hb⟩
  have B1 := Lib.hid (BX.out.go hb)
  clear hb BX UP
  obtain ⟨g0, g1, g2⟩ := B1.out.cells
  go_wp2_with fail
  refine (light_any t _ _ B1.out.has).mono ?_
  rintro e w2 ⟨rfl, hb⟩
  have B2 := Lib.hid (B1.out.go hb)
  clear hb B1 g0 g1 g2
  rcases Bool.eq_false_or_eq_true (lightT t) with hl | hl
  rotate_left
  · rw [hl]
    clear hl
    go_wp2_with fail
    go_ret
    exact ⟨rfl, B2.out.below⟩
  have hwt : t.body.length ≤ 30000 := by have := (light_wt hl).1; have := body_wt t; omega
  rw [hl]
  clear hl
  by_cases hlen : 1000 < len1
  · go_wp2_with fail
    go_ret
    exact ⟨rfl, B2.out.below⟩
  obtain ⟨g0, g1, g2⟩ := B2.out.cells
  -- Int
  go_wp2_with fail
  refine (IN.out a0 _ h0 h1).mono ?_
  rintro e w3 ⟨A3, n3, c3, K3, m3, d3, rfl, hin3, hb3⟩
  have B3 := Lib.hid (B2.out.go hb3)
  have X3 := Lib.hid hin3
  clear hb3 hin3 B2 g0 g1 g2 IN
  go_wp2_with fail
  refine (rint_any a0 _ h0 h1).mono ?_
  intro e w4 h4
  obtain ⟨A4, n4, c4, K4, m4, d4, rfl, hin4, hb4⟩ := h4.has
  have B4 := Lib.hid (B3.out.go hb4)
  have X4 := Lib.hid (T.In.below hb4 _ X3.out)
  have Y4 := Lib.hid hin4
  clear h4 hb4 hin4 B3 X3
  go_wp2_with fail
  refine (same_any (intT a0) (intT a0) _ _ _ X4.out Y4.out).mono ?_
  rintro e w5 ⟨rfl, hb5⟩
  have B5 := Lib.hid (B4.out.go hb5)
  clear hb5 B4 X4 Y4
  rw [same_refl]
  -- Big
  go_wp2_with fail
  refine (BG.out a1 len1 cap1 zs _ (R0.out.below B5.out.below) hnc (by omega) NI.out).mono ?_
  rintro e w6 ⟨A6, n6, c6, K6, m6, d6, rfl, hin6, hb6⟩
  have B6 := Lib.hid (B5.out.go hb6)
  have X6 := Lib.hid hin6
  clear hb6 hin6 B5 BG
  go_wp2_with fail
  refine (rbig_any a1 len1 cap1 zs _ (R0.out.below B6.out.below) hnc (by omega) NI.out).mono ?_
  intro e w7 h7
  obtain ⟨A7, n7, c7, K7, m7, d7, rfl, hin7, hb7⟩ := h7.has
  have B7 := Lib.hid (B6.out.go hb7)
  have X7 := Lib.hid (T.In.below hb7 _ X6.out)
  have Y7 := Lib.hid hin7
  clear h7 hb7 hin7 B6 X6
  go_wp2_with fail
  refine (same_any (bigT zs) (bigT zs) _ _ _ X7.out Y7.out).mono ?_
  rintro e w8 ⟨rfl, hb8⟩
  have B8 := Lib.hid (B7.out.go hb8)
  clear hb8 B7 X7 Y7 R0
  rw [same_refl]
  obtain ⟨g0, g1, g2⟩ := B8.out.cells
  -- Uint
  go_wp2_with fail
  refine (UN.out t _ _ B8.out.has CP.out hwt).mono ?_
  rintro e w9 ⟨rfl, hb9⟩
  have B9 := Lib.hid (B8.out.go hb9)
  clear hb9 B8 g0 g1 g2 UN
  obtain ⟨g0, g1, g2⟩ := B9.out.cells
  go_wp2_with fail
  refine (ruint_any t _ _ B9.out.has (by omega)).mono ?_
  rintro e w10 ⟨rfl, hb10⟩
  have B10 := Lib.hid (B9.out.go hb10)
  clear hb10 B9 g0 g1 g2
  obtain ⟨g0, g1, g2⟩ := B10.out.cells
  -- Great
  go_wp2_with fail
  refine (GR.out t _ _ B10.out.has CP.out hwt).mono ?_
  rintro e w11 ⟨a11, c11, rfl, hr11, _, _, hb11⟩
  have B11 := Lib.hid (B10.out.go hb11)
  have R11 := Lib.hid hr11
  clear hb11 hr11 B10 g0 g1 g2 GR
  obtain ⟨g0, g1, g2⟩ := B11.out.cells
  go_wp2_with fail
  refine (rgreat_any t _ _ B11.out.has CP.out hwt).mono ?_
  rintro e w12 ⟨a12, c12, rfl, hr12, _, _, hb12⟩
  have B12 := Lib.hid (B11.out.go hb12)
  have cv1 := conv_at c11 (R11.out.below hb12)
  have cv2 := conv_at c12 hr12
  clear hb12 hr12 B11 R11 g0 g1 g2
  generalize uintZ t = U at *
  generalize greatZ t = G at *
  go_wp2_with fail
  go_ret
  exact ⟨rfl, B12.out.below⟩

end Go.Proofs.YtjhffnoddhlikaaDoor

namespace Go.Proofs.YtjhffnoddhlikaaDoor
open Go.RowKit
set_option linter.unusedVariables false

/-- A call that hands an element and an error back, wherever the element lies. -/
def HasNodeE (x : T × Int) (w : World) (e : Ending) (w' : World) : Prop :=
  ∃ (A : Option Addr) (n c : Nat) (K : Option Addr) (m d : Nat), e = .returned (.tuple #[.agg #[.int .i64 x.1.tag, .slice A n c, .slice K m d], .int .i64 x.2]) ∧ x.1.In w' (.agg #[.int .i64 x.1.tag, .slice A n c, .slice K m d]) ∧ Below w.heap.size w w'
theorem GivesNodeE.has {x : T × Int} {w w' : World} {e : Ending} (h : GivesNodeE x w e w') : HasNodeE x w e w' := by
  obtain ⟨A, n, c, K, m, d, e, hin, hb⟩ := h
  exact ⟨A, n, c, K, m, d, e, T.InP.in _ hin, hb⟩
def OidSaid : Prop := ∀ (a : Option Addr) (n ca : Nat) (zs : List Int) W, Row32 W a n zs → n ≤ ca → n ≤ 100 → (a = none → ca = 0) → Calls Tryd.prog 20 #[.slice a n ca] W (HasNodeE (oidZ zs) W)
def ArcsSaid : Prop := ∀ (t : T) (v : Value) W, t.In W v → t.body.length ≤ 30000 → Calls Tryd.prog 22 #[v] W (GivesArcs (arcsR t) W)

theorem oid_long {zs : List Int} (h : (oidZ zs).2 = 0) : zs.length ≤ 20 := by
  unfold oidZ at h
  split at h
  · rename_i c
    exact c.2.1
  · simp at h
theorem arcs_len (t : T) : (arcsR t).1.length ≤ 1000000 := by
  unfold arcsR
  split
  · simp
  · split
    · rename_i c
      have := oid_long c.1
      simp only
      omega
    · simp

set_option maxHeartbeats 4000000 in
set_option maxRecDepth 100000 in
theorem names_walk (hUp : UpSaid) (hOid : OidSaid) (hArcs : ArcsSaid)
    (a0 : Option Addr) (len0 cap0 : Nat) (zs : List Int) (v : Value) (t : T) (w : World) (hr : Row32 w a0 len0 zs) (hnc : len0 ≤ cap0) (hnil : a0 = none → cap0 = 0) (hin : t.In w v) :
    Calls Tryd.prog 4 #[.slice a0 len0 cap0, v] w fun e w' => e = .returned (.bool true) ∧ Below w.heap.size w w' := by
  obtain ⟨A, n, c, K, m, d, rfl, hw, hrt, hn, hc, hm, hm', hks⟩ := hin.open
  have BX := Lib.hid (Box.start hin)
  have R0 := Lib.hid hr
  have NI := Lib.hid hnil
  have UP := Lib.hid hUp
  have OI := Lib.hid hOid
  have AC := Lib.hid hArcs
  clear hks hc hin hm hm' hw hn hrt hr hnil hUp hOid hArcs
  go_enter Tryd.func4, Tryd.ntmps4
  go_wp2_with fail
  refine (UP.out _).mono ?_
  rintro e w1 ⟨rfl, hb⟩
  have B1 := Lib.hid (BX.out.go hb)
  clear hb BX UP
  obtain ⟨g0, g1, g2⟩ := B1.out.cells
  go_wp2_with fail
  refine (light_any t _ _ B1.out.has).mono ?_
  rintro e w2 ⟨rfl, hb⟩
  have B2 := Lib.hid (B1.out.go hb)
  clear hb B1 g0 g1 g2
  rcases Bool.eq_false_or_eq_true (lightT t) with hl | hl
  rotate_left
  · rw [hl]
    clear hl
    go_wp2_with fail
    go_ret
    exact ⟨rfl, B2.out.below⟩
  have hwt : t.body.length ≤ 30000 := by have := (light_wt hl).1; have := body_wt t; omega
  rw [hl]
  clear hl
  by_cases hlen : 100 < len0
  · go_wp2_with fail
    go_ret
    exact ⟨rfl, B2.out.below⟩
  -- Oid
  go_wp2_with fail
  refine (OI.out a0 len0 cap0 zs _ (R0.out.below B2.out.below) hnc (by omega) NI.out).mono ?_
  rintro e w3 ⟨A3, n3, c3, K3, m3, d3, rfl, hin3, hb3⟩
  have P3 := Lib.hid (Box.start hin3)
  have B3 := Lib.hid ((B2.out.go hb3).go P3.out.below)
  clear hb3 hin3 B2 OI
  go_wp2_with fail
  refine (roid_any a0 len0 cap0 zs _ (R0.out.below B3.out.below)).mono ?_
  intro e w4 h4
  obtain ⟨A4, n4, c4, K4, m4, d4, rfl, hin4, hb4⟩ := h4.has
  have Q4 := Lib.hid (Box.start hin4)
  have P4 := Lib.hid ((P3.out.go hb4).go Q4.out.below)
  have B4 := Lib.hid ((B3.out.go hb4).go Q4.out.below)
  clear h4 hb4 hin4 B3 P3 R0
  generalize oidZ zs = X at *
  obtain ⟨p0, p1, p2⟩ := P4.out.cells
  obtain ⟨q0, q1, q2⟩ := Q4.out.cells
  go_wp2_with fail
  refine (same_any X.1 X.1 _ _ _ P4.out.has Q4.out.has).mono ?_
  rintro e w5 ⟨rfl, hb5⟩
  have B5 := Lib.hid (B4.out.go hb5)
  clear hb5 B4 P4 Q4 p0 p1 p2 q0 q1 q2
  rw [same_refl]
  obtain ⟨g0, g1, g2⟩ := B5.out.cells
  -- Arcs
  go_wp2_with fail
  refine (AC.out t _ _ B5.out.has hwt).mono ?_
  rintro e w6 ⟨a6, c6, rfl, hr6, _, _, hb6⟩
  have B6 := Lib.hid (B5.out.go hb6)
  have R6 := Lib.hid hr6
  clear hb6 hr6 B5 g0 g1 g2 AC
  obtain ⟨g0, g1, g2⟩ := B6.out.cells
  go_wp2_with fail
  refine (rarcs_any t _ _ B6.out.has (by omega)).mono ?_
  rintro e w7 ⟨a7, c7, rfl, hr7, _, _, hb7⟩
  have B7 := Lib.hid (B6.out.go hb7)
  have R7 := Lib.hid hr7
  have S7 := Lib.hid (R6.out.below hb7)
  clear hb7 hr7 B6 R6 g0 g1 g2
  go_wp2_with fail
  refine (same32_any a6 a7 _ _ c6 c7 _ _ _ S7.out R7.out (arcs_len t)).mono ?_
  rintro e w8 ⟨rfl, q, rfl⟩
  generalize arcsR t = G at *
  have t1 : decide (G.1 = G.1) = true := decide_eq_true rfl
  rw [t1]
  go_wp2_with fail
  go_ret
  exact ⟨rfl, Below.step B7.out.below (drewN_below w7 q)⟩

end Go.Proofs.YtjhffnoddhlikaaDoor

namespace Go.Proofs.YtjhffnoddhlikaaDoor
open Go.RowKit
set_option linter.unusedVariables false

def BitsSaid : Prop := ∀ (a : Option Addr) (n ca : Nat) (zs : List Int) (many : Int) W, Row W a n zs → n ≤ ca → n ≤ 30000 → (a = none → ca = 0) → (Lit.int .i64 many).wf = true → Calls Tryd.prog 25 #[.slice a n ca, .int .i64 many] W (HasNodeE (bitsZ zs many) W)
def OfSaid : Prop := ∀ (t : T) (v : Value) W, t.In W v → Capped v → t.body.length ≤ 30000 → Calls Tryd.prog 27 #[v] W (GivesOf (ofZ t) W)
def BoolSaid : Prop := ∀ (b : Bool) W, Calls Tryd.prog 31 #[.bool b] W (HasNode (boolT b) W)
def TrueSaid : Prop := ∀ (t : T) (v : Value) W, t.In W v → Calls Tryd.prog 29 #[v] W (GivesTruth (trueZ t) W)

set_option maxHeartbeats 4000000 in
set_option maxRecDepth 100000 in
theorem bits_walk (hUp : UpSaid) (hBits : BitsSaid) (hOf : OfSaid) (hBool : BoolSaid) (hTrue : TrueSaid)
    (a0 : Option Addr) (len0 cap0 : Nat) (zs : List Int) (many : Int) (v : Value) (t : T) (w : World) (hr : Row w a0 len0 zs) (hnc : len0 ≤ cap0) (hnil : a0 = none → cap0 = 0) (hwf : (Lit.int .i64 many).wf = true) (hin : t.In w v) (hcap : Capped v) :
    Calls Tryd.prog 5 #[.slice a0 len0 cap0, .int .i64 many, v] w fun e w' => e = .returned (.bool true) ∧ Below w.heap.size w w' := by
  obtain ⟨A, n, c, K, m, d, rfl, hw, hrt, hn, hc, hm, hm', hks⟩ := hin.open
  have BX := Lib.hid (Box.start hin)
  have R0 := Lib.hid hr
  have NI := Lib.hid hnil
  have UP := Lib.hid hUp
  have CP := Lib.hid hcap
  have BI := Lib.hid hBits
  have OF := Lib.hid hOf
  have BO := Lib.hid hBool
  have TR := Lib.hid hTrue
  have WF := Lib.hid hwf
  clear hks hc hin hm hm' hw hn hrt hr hnil hUp hBits hOf hBool hTrue hcap hwf
  go_enter Tryd.func5, Tryd.ntmps5
  go_wp2_with fail
  refine (UP.out _).mono ?_
  rintro e w1 ⟨rfl, hb⟩
  have B1 := Lib.hid (BX.out.go hb)
  clear hb BX UP
  obtain ⟨g0, g1, g2⟩ := B1.out.cells
  go_wp2_with fail
  refine (light_any t _ _ B1.out.has).mono ?_
  rintro e w2 ⟨rfl, hb⟩
  have B2 := Lib.hid (B1.out.go hb)
  clear hb B1 g0 g1 g2
  rcases Bool.eq_false_or_eq_true (lightT t) with hl | hl
  rotate_left
  · rw [hl]
    clear hl
    go_wp2_with fail
    go_ret
    exact ⟨rfl, B2.out.below⟩
  have hwt : t.body.length ≤ 30000 := by have := (light_wt hl).1; have := body_wt t; omega
  rw [hl]
  clear hl
  by_cases hlen : 1000 < len0
  · go_wp2_with fail
    go_ret
    exact ⟨rfl, B2.out.below⟩
  -- Bits
  go_wp2_with fail
  refine (BI.out a0 len0 cap0 zs many _ (R0.out.below B2.out.below) hnc (by omega) NI.out WF.out).mono ?_
  rintro e w3 ⟨A3, n3, c3, K3, m3, d3, rfl, hin3, hb3⟩
  have P3 := Lib.hid (Box.start hin3)
  have B3 := Lib.hid ((B2.out.go hb3).go P3.out.below)
  clear hb3 hin3 B2 BI
  go_wp2_with fail
  refine (rbits_any a0 len0 cap0 zs many _ (R0.out.below B3.out.below) (by omega) NI.out).mono ?_
  intro e w4 h4
  obtain ⟨A4, n4, c4, K4, m4, d4, rfl, hin4, hb4⟩ := h4.has
  have Q4 := Lib.hid (Box.start hin4)
  have P4 := Lib.hid ((P3.out.go hb4).go Q4.out.below)
  have B4 := Lib.hid ((B3.out.go hb4).go Q4.out.below)
  clear h4 hb4 hin4 B3 P3 R0
  generalize bitsZ zs many = X at *
  obtain ⟨p0, p1, p2⟩ := P4.out.cells
  obtain ⟨q0, q1, q2⟩ := Q4.out.cells
  go_wp2_with fail
  refine (same_any X.1 X.1 _ _ _ P4.out.has Q4.out.has).mono ?_
  rintro e w5 ⟨rfl, hb5⟩
  have B5 := Lib.hid (B4.out.go hb5)
  clear hb5 B4 P4 Q4 p0 p1 p2 q0 q1 q2
  rw [same_refl]
  obtain ⟨g0, g1, g2⟩ := B5.out.cells
  -- Of
  go_wp2_with fail
  refine (OF.out t _ _ B5.out.has CP.out hwt).mono ?_
  rintro e w6 ⟨a6, c6, rfl, hr6, _, _, hb6⟩
  have B6 := Lib.hid (B5.out.go hb6)
  have R6 := Lib.hid hr6
  clear hb6 hr6 B5 g0 g1 g2 OF
  obtain ⟨g0, g1, g2⟩ := B6.out.cells
  go_wp2_with fail
  refine (rof_any t _ _ B6.out.has CP.out (by omega)).mono ?_
  rintro e w7 ⟨a7, c7, rfl, hr7, _, _, hb7⟩
  have B7 := Lib.hid (B6.out.go hb7)
  have R7 := Lib.hid hr7
  have S7 := Lib.hid (R6.out.below hb7)
  clear hb7 hr7 B6 R6 g0 g1 g2
  generalize ofZ t = G at *
  obtain ⟨g0, g1, g2⟩ := B7.out.cells
  -- True
  go_wp2_with fail
  refine (TR.out t _ _ B7.out.has).mono ?_
  rintro e w8 ⟨rfl, hb8⟩
  have B8 := Lib.hid (B7.out.go hb8)
  have R8 := Lib.hid (R7.out.below hb8)
  have S8 := Lib.hid (S7.out.below hb8)
  clear hb8 B7 R7 S7 g0 g1 g2 TR
  obtain ⟨g0, g1, g2⟩ := B8.out.cells
  go_wp2_with fail
  refine (rtrue_any t _ _ B8.out.has).mono ?_
  rintro e w9 ⟨rfl, hb9⟩
  have B9 := Lib.hid (Below.step B8.out.below hb9)
  have R9 := Lib.hid (R8.out.below hb9)
  have S9 := Lib.hid (S8.out.below hb9)
  clear hb9 B8 R8 S8 g0 g1 g2
  generalize trueZ t = U at *
  generalize hd : decide (3 < many) = bb
  -- Bool
  go_wp2_with fail
  try rw [hd]
  refine (BO.out bb _).mono ?_
  rintro e w10 ⟨A10, n10, c10, K10, m10, d10, rfl, hin10, hb10⟩
  have B10 := Lib.hid (Below.step B9.out hb10)
  have X10 := Lib.hid hin10
  have R10 := Lib.hid (R9.out.below hb10)
  have S10 := Lib.hid (S9.out.below hb10)
  clear hb10 hin10 B9 R9 S9 BO
  go_wp2_with fail
  try rw [hd]
  refine (rbool_any bb _).mono ?_
  intro e w11 h11
  obtain ⟨A11, n11, c11, K11, m11, d11, rfl, hin11, hb11⟩ := h11.has
  have B11 := Lib.hid (Below.step B10.out hb11)
  have X11 := Lib.hid (T.In.below hb11 _ X10.out)
  have Y11 := Lib.hid hin11
  have R11 := Lib.hid (R10.out.below hb11)
  have S11 := Lib.hid (S10.out.below hb11)
  clear h11 hb11 hin11 B10 X10 R10 S10
  go_wp2_with fail
  refine (same_any (boolT bb) (boolT bb) _ _ _ X11.out Y11.out).mono ?_
  rintro e w12 ⟨rfl, hb12⟩
  have B12 := Lib.hid (Below.step B11.out hb12)
  have cv1 := conv_at c6 (S11.out.below hb12)
  have cv2 := conv_at c7 (R11.out.below hb12)
  clear hb12 B11 X11 Y11 R11 S11
  rw [same_refl]
  go_wp2_with fail
  go_ret
  exact ⟨rfl, B12.out⟩

end Go.Proofs.YtjhffnoddhlikaaDoor

namespace Go.Proofs.YtjhffnoddhlikaaDoor
open Go.RowKit
set_option linter.unusedVariables false

def TextSaid : Prop := ∀ (s : ByteArray) W, s.size ≤ 1000 → Calls Tryd.prog 33 #[.string s] W (HasNodeE (textZ s) W)
def WordsSaid : Prop := ∀ (t : T) (v : Value) W, t.In W v → t.body.length ≤ 30000 → Calls Tryd.prog 35 #[v] W (GivesStr (wordsZ t) W)
def HasTime (s : Int) (w : World) (e : Ending) (w' : World) : Prop := ∃ S ok, Clk.TextR s S ok ∧ HasNodeE (timeZ S ok) w e w'
def TimeSaid : Prop := ∀ (s : Int) W, (Lit.int .i64 s).wf = true → Calls Tryd.prog 37 #[.int .i64 s] W (HasTime s W)
def WhenSaid : Prop := ∀ (t : T) (v : Value) W, t.In W v → t.body.length ≤ 30000 → Calls Tryd.prog 39 #[v] W (GivesWhen t W)

set_option maxHeartbeats 4000000 in
set_option maxRecDepth 100000 in
theorem texts_walk (hUp : UpSaid) (hText : TextSaid) (hWords : WordsSaid) (hTime : TimeSaid) (hWhen : WhenSaid)
    (s : ByteArray) (sec : Int) (v : Value) (t : T) (w : World) (hwf : (Lit.int .i64 sec).wf = true) (hin : t.In w v) :
    Calls Tryd.prog 6 #[.string s, .int .i64 sec, v] w fun e w' => e = .returned (.bool true) ∧ Below w.heap.size w w' := by
  obtain ⟨A, n, c, K, m, d, rfl, hw, hrt, hn, hc, hm, hm', hks⟩ := hin.open
  have BX := Lib.hid (Box.start hin)
  have UP := Lib.hid hUp
  have TX := Lib.hid hText
  have WO := Lib.hid hWords
  have TI := Lib.hid hTime
  have WN := Lib.hid hWhen
  have WF := Lib.hid hwf
  clear hks hc hin hm hm' hw hn hrt hUp hText hWords hTime hWhen hwf
  go_enter Tryd.func6, Tryd.ntmps6
  go_wp2_with fail
  refine (UP.out _).mono ?_
  rintro e w1 ⟨rfl, hb⟩
  have B1 := Lib.hid (BX.out.go hb)
  clear hb BX UP
  obtain ⟨g0, g1, g2⟩ := B1.out.cells
  go_wp2_with fail
  refine (light_any t _ _ B1.out.has).mono ?_
  rintro e w2 ⟨rfl, hb⟩
  have B2 := Lib.hid (B1.out.go hb)
  clear hb B1 g0 g1 g2
  rcases Bool.eq_false_or_eq_true (lightT t) with hl | hl
  rotate_left
  · rw [hl]
    clear hl
    go_wp2_with fail
    go_ret
    exact ⟨rfl, B2.out.below⟩
  have hwt : t.body.length ≤ 30000 := by have := (light_wt hl).1; have := body_wt t; omega
  rw [hl]
  clear hl
  by_cases hlen : 1000 < s.size
  · go_wp2_with fail
    go_ret
    exact ⟨rfl, B2.out.below⟩
  -- Text
  go_wp2_with fail
  refine (TX.out s _ (by omega)).mono ?_
  rintro e w3 ⟨A3, n3, c3, K3, m3, d3, rfl, hin3, hb3⟩
  have P3 := Lib.hid (Box.start hin3)
  have B3 := Lib.hid ((B2.out.go hb3).go P3.out.below)
  clear hb3 hin3 B2 TX
  go_wp2_with fail
  refine (rtextn_any s _ (by omega)).mono ?_
  intro e w4 h4
  obtain ⟨A4, n4, c4, K4, m4, d4, rfl, hin4, hb4⟩ := h4.has
  have Q4 := Lib.hid (Box.start hin4)
  have P4 := Lib.hid ((P3.out.go hb4).go Q4.out.below)
  have B4 := Lib.hid ((B3.out.go hb4).go Q4.out.below)
  clear h4 hb4 hin4 B3 P3
  generalize textZ s = X at *
  obtain ⟨p0, p1, p2⟩ := P4.out.cells
  obtain ⟨q0, q1, q2⟩ := Q4.out.cells
  go_wp2_with fail
  refine (same_any X.1 X.1 _ _ _ P4.out.has Q4.out.has).mono ?_
  rintro e w5 ⟨rfl, hb5⟩
  have B5 := Lib.hid (B4.out.go hb5)
  clear hb5 B4 P4 Q4 p0 p1 p2 q0 q1 q2
  rw [same_refl]
  obtain ⟨g0, g1, g2⟩ := B5.out.cells
  -- Words
  go_wp2_with fail
  refine (WO.out t _ _ B5.out.has hwt).mono ?_
  rintro e w6 ⟨rfl, hb6⟩
  have B6 := Lib.hid (B5.out.go hb6)
  clear hb6 B5 g0 g1 g2 WO
  obtain ⟨g0, g1, g2⟩ := B6.out.cells
  go_wp2_with fail
  refine (rwords_any t _ _ B6.out.has (by omega)).mono ?_
  rintro e w7 ⟨rfl, hb7⟩
  have B7 := Lib.hid (B6.out.go hb7)
  clear hb7 B6 g0 g1 g2
  generalize wordsZ t = G at *
  -- Time
  go_wp2_with fail
  refine (TI.out sec _ WF.out).mono ?_
  rintro e w8 ⟨S8, ok8, hR8, A8, n8, c8, K8, m8, d8, rfl, hin8, hb8⟩
  have P8 := Lib.hid (Box.start hin8)
  have B8 := Lib.hid ((B7.out.go hb8).go P8.out.below)
  have T8 := Lib.hid hR8
  clear hb8 hin8 hR8 B7 TI
  go_wp2_with fail
  refine (rtime_any sec _).mono ?_
  rintro e w9 ⟨S9, ok9, hR9, h9⟩
  obtain ⟨rfl, rfl⟩ := T8.out.eq hR9
  obtain ⟨A9, n9, c9, K9, m9, d9, rfl, hin9, hb9⟩ := h9.has
  have Q9 := Lib.hid (Box.start hin9)
  have P9 := Lib.hid ((P8.out.go hb9).go Q9.out.below)
  have B9 := Lib.hid ((B8.out.go hb9).go Q9.out.below)
  clear h9 hb9 hin9 hR9 T8 B8 P8
  generalize timeZ S8 ok8 = Y at *
  obtain ⟨p0, p1, p2⟩ := P9.out.cells
  obtain ⟨q0, q1, q2⟩ := Q9.out.cells
  go_wp2_with fail
  refine (same_any Y.1 Y.1 _ _ _ P9.out.has Q9.out.has).mono ?_
  rintro e w10 ⟨rfl, hb10⟩
  have B10 := Lib.hid (B9.out.go hb10)
  clear hb10 B9 P9 Q9 p0 p1 p2 q0 q1 q2
  rw [same_refl]
  obtain ⟨g0, g1, g2⟩ := B10.out.cells
  -- When
  go_wp2_with fail
  refine (WN.out t _ _ B10.out.has hwt).mono ?_
  rintro e w11 ⟨x11, hW11, rfl, hb11⟩
  have B11 := Lib.hid (B10.out.go hb11)
  have W11 := Lib.hid hW11
  clear hb11 hW11 B10 g0 g1 g2 WN
  obtain ⟨g0, g1, g2⟩ := B11.out.cells
  go_wp2_with fail
  refine (rwhen_any t _ _ B11.out.has).mono ?_
  rintro e w12 ⟨x12, hW12, rfl, hb12⟩
  obtain rfl := W11.out.eq hW12
  have B12 := Lib.hid (Below.step B11.out.below hb12)
  clear hb12 hW12 W11 B11 g0 g1 g2
  go_wp2_with fail
  go_ret
  exact ⟨rfl, B12.out⟩

end Go.Proofs.YtjhffnoddhlikaaDoor

namespace Go.Proofs.YtjhffnoddhlikaaDoor
open Go.RowKit
set_option linter.unusedVariables false

theorem uint_range {t : T} (hb : ∀ x ∈ t.body, 0 ≤ x ∧ x ≤ 255) : 0 ≤ (uintZ t).1 ∧ (uintZ t).1 ≤ 18446744073709551615 := by
  have := numZ_range t.body hb 0 (by omega) (by omega)
  unfold uintZ
  split
  · exact this
  · exact ⟨by simp, by simp⟩
theorem arcs_short (t : T) : (arcsR t).1.length ≤ 20 := by
  unfold arcsR
  split
  · simp
  · split
    · rename_i c
      exact oid_long c.1
    · simp
theorem of_short (t : T) : (ofZ t).1.length ≤ t.body.length := by
  unfold ofZ
  split
  · simp
  · split
    · simp only [List.length_drop]; omega
    · simp
theorem of_many {t : T} (hb : ∀ x ∈ t.body, 0 ≤ x ∧ x ≤ 255) (h : t.body.length ≤ 30000) : -255 ≤ (ofZ t).2.1 ∧ (ofZ t).2.1 ≤ 240000 := by
  have hx : 0 ≤ t.body[(0 : Nat)]?.getD 0 ∧ t.body[(0 : Nat)]?.getD 0 ≤ 255 := by
    rcases Nat.lt_or_ge 0 t.body.length with hk | hk
    · rw [List.getElem?_eq_getElem hk]
      exact hb _ (List.getElem_mem hk)
    · rw [List.getElem?_eq_none hk]
      simp
  unfold ofZ
  split
  · exact ⟨by simp, by simp⟩
  · split
    · simp only [List.length_drop]; omega
    · exact ⟨by simp, by simp⟩
theorem words_size (t : T) : (wordsZ t).1.size ≤ 200 := by
  unfold wordsZ
  split
  · rename_i c
    have h := c.1
    unfold textZ at h
    split at h
    · rename_i f
      rcases Nat.eq_zero_or_pos (strOfNums t.body).size with h0 | h0
      · simp only; omega
      · exact (f 0 h0).1
    · simp at h
  · exact Nat.zero_le _
theorem time_range {s : Int} {S : ByteArray} (h : Clk.TextR s S true) : -631152000 ≤ s ∧ s ≤ 7258118399 := by
  have k : ∀ a, Clk.IsDate s a → -631152000 ≤ s ∧ s ≤ 7258118399 := fun a ha => by
    have := Clk.no_date ha
    omega
  rcases h with ⟨_, h⟩ | ⟨_, h⟩
  · rcases h with ⟨_, a, ha, _⟩ | ⟨h, _⟩
    · exact k a ha
    · cases h
  · rcases h with ⟨_, a, ha, _⟩ | ⟨h, _⟩
    · exact k a ha
    · cases h
theorem when_range {t : T} {x : Int × Int} (h : WhenR t x) : -631152000 ≤ x.1 ∧ x.1 ≤ 7258118399 := by
  obtain ⟨S, ok, hR, rfl⟩ := h
  split
  · rename_i c
    have h2 := c.2.1
    cases ok
    · simp [timeZ] at h2
    · exact time_range hR
  · exact ⟨by simp, by simp⟩

end Go.Proofs.YtjhffnoddhlikaaDoor
