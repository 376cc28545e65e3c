/-
  Merged texts: Wrap, SkY.
-/
import Derived.Test.YtgmefdmeeihgoaaDoorRows
import Derived.ProofKit
import Derived.OpenShut
import Derived.ShutString
import Derived.LaidMore
import Derived.Lay
import Derived.Stop.Joined
import Derived.Test.YtgmefdmeeihgoaaDoorGrI
import Derived.Test.YtgmefdmeeihgoaaDoorGrJ
namespace Go.Proofs.YtgmefdmeeihgoaaDoor
open Go.ChangeShapes Go.WideShapes Go.ChangeAt Go.RowKit

theorem own : ownKnob Tryd.prog.godebug = none := by kernel_rfl
theorem laidOut : laidOutB Tryd.prog = true := by kernel_rfl

def laids : List (String × DataW Unit) := [("unicode/utf8.acceptRanges", Rows.laid_unicode_utf8_acceptRanges), ("unicode/utf8.first", Rows.laid_unicode_utf8_first)]

section
variable {H : Type} {enc : TypeId × Value → H}
set_option maxRecDepth 100000 in
/-- The wrap: the row's condition is the listed variables'; the call is told that the world has its shape. -/
theorem wrapped {f : FuncId} {fn : Func} {s : ChangeSpec} {conds : List PathCond} {os : Os} (started : os.Started) (noInit : Tryd.prog.inits.idxOf? f = none) (hfn : Tryd.prog.funcs[f]? = some fn)
    (witness : ∃ (w : World) (tape : Tape) (i : Input), w.os = os ∧ (w.forCall tape i).Shaped Tryd.prog ∧ i.vars = [] ∧ Input.okWide Tryd.prog (w.forCall tape i) .any w.heap.size f i ∧
      ((s.pre enc Tryd.prog fn conds false (w.forCall tape i).memory i.args ∧ laidMetH Tryd.prog laids (w.forCall tape i).memory) ∧ sizedMet enc Tryd.prog fn (OpenSpec.ofChange s) false (w.forCall tape i).memory i.args) ∧ ({} : Assume).holds Tryd.prog (lone (Frame.enter Tryd.prog f i.args .normal) [] (w.forCall tape i)))
    (contract : ∀ (W : World) (base : Nat) (args : Array Value) (ds gs : List (DataW H)) (before : List MemPlace),
      (∀ (j : Nat) t v, fn.params[j]? = some t → args[j]? = some v → Value.okWide Tryd.prog W .any base t v) →
      DataW.Whole enc Tryd.prog fn.params.toList s.vars false W args.toList ds gs before →
      W.ShapedOpen Tryd.prog →
      Calls Tryd.prog f args W fun e W' => ∃ v, e = .returned v ∧ s.post enc Tryd.prog fn false true false false W args v W') :
    ReturnsInHanded {} Tryd.checked os f .any (fun w args => (s.pre enc Tryd.prog fn conds false w args ∧ laidMetH Tryd.prog laids w) ∧ sizedMet enc Tryd.prog fn (OpenSpec.ofChange s) false w args) (s.post enc Tryd.prog fn false true false false) := by
  refine returnsInHanded_of_calls (C := Tryd.checked) own started noInit witness ?_
  intro w tape i _ hsh _ hok hpre _
  obtain ⟨_, _, _, fn', hfn', _, _, _, _, hval⟩ := hok
  obtain rfl : fn' = fn := Option.some.inj (hfn'.symm.trans hfn)
  obtain ⟨⟨⟨ds, gs, before, hw, _⟩, _⟩, _⟩ := hpre
  refine (contract (w.forCall tape i) w.heap.size i.args ds gs before hval (DataW.Whole.of_heap (w' := w.forCall tape i) (by rfl) hw) hsh).mono fun e W' ⟨v, he, hp⟩ => ?_
  subst he
  exact ChangeSpec.post_blind hp
end
end Go.Proofs.YtgmefdmeeihgoaaDoor

namespace Go.Proofs.YtgmefdmeeihgoaaDoor
open Go.RowKit
set_option linter.unusedVariables false
set_option linter.unusedSimpArgs false

/-- What Read hands back, as one word. -/
def rkN (x : Option (List Int × Int)) : List Int := match x with | some v => v.1 | none => []
def rkE (x : Option (List Int × Int)) : Int := match x with | some v => v.2 | none => 0
def rkZ (x : Option (List Int × Int)) : Int := match x with | some _ => 0 | none => 2
theorem key_one {x : Option (List Int × Int)} {w w' : World} {e : Ending} (h : GivesKey x w e w') : Below w.heap.size w w' ∧ ∃ a c, e = .returned (.tuple #[.agg #[.slice a (rkN x).length c, .int .u32 (rkE x)], .int .i64 (rkZ x)]) ∧ KeyAt w' a (rkN x).length c (rkE x) (rkN x) := by
  obtain ⟨hb, ⟨rfl, rfl⟩ | ⟨ns, ex, a, c, rfl, rfl, hk⟩⟩ := h
  · exact ⟨hb, none, 0, rfl, Row.nil _ _, Nat.le_refl _, fun _ => rfl, by decide, by decide⟩
  · exact ⟨hb, a, c, rfl, hk⟩

/-- The arguments in their boxes. -/
structure VB (w W : World) (a : Option Addr) (n c : Nat) (e : Int) (ns : List Int) (t : T) (A : Option Addr) (nb cb : Nat) (K : Option Addr) (m d : Nat) (s : Option Addr) (ls : Nat) (sig : List Int) : Prop where
  box1 : Blk W w.heap.size 25 #[.slice a n c, .int .u32 e]
  box2 : Blk W (w.heap.size + 1) 28 #[.int .i64 t.tag, .slice A nb cb, .slice K m d]
  below : Below w.heap.size w W
  k1 : KeyAt W a n c e ns
  has : t.In W (.agg #[.int .i64 t.tag, .slice A nb cb, .slice K m d])
  row : Row W s ls sig
theorem VB.go {w W W' : World} {a : Option Addr} {n c : Nat} {e : Int} {ns : List Int} {t : T} {A : Option Addr} {nb cb : Nat} {K : Option Addr} {m d : Nat} {s : Option Addr} {ls : Nat} {sig : List Int} (h : VB w W a n c e ns t A nb cb K m d s ls sig) (hb : Below W.heap.size W W') : VB w W' a n c e ns t A nb cb K m d s ls sig :=
  ⟨h.box1.below hb h.box1.lt, h.box2.below hb h.box2.lt, h.below.trans (hb.mono h.below.size), h.k1.below hb, T.In.below hb _ h.has, h.row.below hb⟩
theorem VB.cells {w W : World} {a : Option Addr} {n c : Nat} {e : Int} {ns : List Int} {t : T} {A : Option Addr} {nb cb : Nat} {K : Option Addr} {m d : Nat} {s : Option Addr} {ls : Nat} {sig : List Int} (h : VB w W a n c e ns t A nb cb K m d s ls sig) : W.cell? ⟨w.heap.size, 0, none⟩ = some (.slice a n c) ∧ W.cell? ⟨w.heap.size, 1, none⟩ = some (.int .u32 e) ∧ W.cell? ⟨w.heap.size + 1, 0, none⟩ = some (.int .i64 t.tag) ∧ W.cell? ⟨w.heap.size + 1, 1, none⟩ = some (.slice A nb cb) ∧ W.cell? ⟨w.heap.size + 1, 2, none⟩ = some (.slice K m d) :=
  ⟨h.box1.cell 0, h.box1.cell 1, h.box2.cell 0, h.box2.cell 1, h.box2.cell 2⟩

theorem wt_key (ns : List Int) (e : Int) (h : ns.length ≤ 3000) : wt (keyT ns e) ≤ 5 * ns.length + 135 := by
  have h1 := wt_alg 1 (by omega) (by omega)
  have h2 := wt_bits (ownZ ns e)
  have h3 := own_short (ns := ns) e h
  unfold keyT
  simp only [wt, wtAll, List.length_nil]
  omega
theorem wt_node (ns : List Int) (e : Int) (h : ns.length ≤ 3000) : wt (nodeK ns e).1 ≤ 5 * ns.length + 135 := by
  unfold nodeK
  split
  · exact wt_key ns e h
  · unfold zeroT
    simp [wt, wtAll]
    omega
/-- What the law asks of a key's element: read, it is that key. -/
theorem back_key {ns : List Int} {e : Int} (h0 : 0 ≤ e) (h1 : e ≤ 4294967295) (h : (nodeK ns e).2 = 0) : rkN (readK (nodeK ns e).1) = ns ∧ rkE (readK (nodeK ns e).1) = e ∧ rkZ (readK (nodeK ns e).1) = 0 := by
  cases hr : rightZ ns e
  · unfold nodeK at h
    rw [hr] at h
    simp at h
  · have N : nodeK ns e = (keyT ns e, 0) := by unfold nodeK; rw [hr]; rfl
    rw [N]
    have R := (read_key hr h0 h1).1
    simp only
    rw [R]
    exact ⟨rfl, rfl, rfl⟩
/-- What the law asks of an element that is read as a key: the key has just that element. -/
theorem back_node {t : T} (h : rkZ (readK t) = 0) : nodeK (rkN (readK t)) (rkE (readK t)) = (t, 0) := by
  cases hr : readK t with
  | none =>
    rw [hr] at h
    exact absurd h (by decide)
  | some v =>
    obtain ⟨ns, e⟩ := v
    obtain ⟨rfl, hq, _, _⟩ := key_read hr
    show nodeK ns e = _
    unfold nodeK
    rw [hq]
    rfl
theorem rkN_len (t : T) : (rkN (readK t)).length ≤ 512 := by
  cases hr : readK t with
  | none => simp [rkN]
  | some v =>
    obtain ⟨ns, e⟩ := v
    exact (right_len (key_read hr).2.1).2

theorem write_none {t : T} (h : ¬ (writeZ t).2 = 0) : (writeZ t).1 = [] := by
  unfold writeZ at h ⊢
  split
  · rfl
  · split
    · rfl
    · split
      · rfl
      · rename_i h1 h2 h3
        rw [if_neg h1, if_neg h2, if_neg h3] at h
        exact absurd rfl h

set_option maxRecDepth 100000 in
set_option maxHeartbeats 8000000 in
theorem back14_walk (a : Option Addr) (n c : Nat) (e : Int) (ns : List Int) (t : T) (v : Value) (s : Option Addr) (ls cs : Nat) (sig : List Int) (w : World) (h1 : KeyAt w a n c e ns) (hn : n ≤ maxLen) (hin : t.In w v) (hr : Row w s ls sig) (hls : ls ≤ maxLen) (hnil : s = none → cs = 0) :
    Calls Tryd.prog 3 #[.agg #[.slice a n c, .int .u32 e], v, .slice s ls cs] w fun r w' => r = .returned (.bool true) ∧ Below w.heap.size w w' := by
  obtain ⟨A, nb, cb, K, m, d, rfl⟩ := (T.In.inP t hin).form
  have b2 : Below w.heap.size w ((w.alloc (.cells #[.slice a n c, .int .u32 e] 25)).alloc (.cells #[.int .i64 t.tag, .slice A nb cb, .slice K m d] 28)) := ((Below.refl _ _).alloc (Nat.le_refl _) _).alloc (by simp) _
  have X1 := (key_box w a n c e).alloc (.cells #[.int .i64 t.tag, .slice A nb cb, .slice K m d] 28)
  have Y1 := Blk.new (w.alloc (.cells #[.slice a n c, .int .u32 e] 25)) 28 #[.int .i64 t.tag, .slice A nb cb, .slice K m d]
  rw [show (w.alloc (.cells #[.slice a n c, .int .u32 e] 25)).heap.size = w.heap.size + 1 by simp] at Y1
  have U2 := Lib.hid (VB.mk X1 Y1 b2 (h1.below b2) (T.In.below b2 t hin) (hr.below b2))
  have e0 := h1.2.2.2.1
  have e1 := h1.2.2.2.2
  have hl1 := h1.1.1
  have NI := Lib.hid hnil
  unfold maxLen at hls
  clear b2 X1 Y1 h1 hin hr hnil
  go_enter Tryd.func3, Tryd.ntmps3
  generalize hw2 : (w.alloc (.cells #[.slice a n c, .int .u32 e] 25)).alloc (.cells #[.int .i64 t.tag, .slice A nb cb, .slice K m d] 28) = w2 at *
  go_wp2_with fail
  refine (awake14_any _).mono ?_
  rintro r w3 ⟨rfl, hb3⟩
  have U3 := Lib.hid (U2.out.go hb3)
  clear U2 hb3 hw2
  obtain ⟨x0, x1, y0, y1, y2⟩ := U3.out.cells
  go_wp2_with fail
  refine (klight_any a n c e ns w3 U3.out.k1 hn).mono ?_
  rintro r w4 ⟨rfl, hb4⟩
  have U4 := Lib.hid (U3.out.go hb4)
  clear U3 hb4 x0 x1 y0 y1 y2
  obtain ⟨x0, x1, y0, y1, y2⟩ := U4.out.cells
  go_wp2_with fail
  refine (light_any t _ w4 U4.out.has).mono ?_
  rintro r w5 ⟨rfl, hb5⟩
  have U5 := Lib.hid (U4.out.go hb5)
  clear U4 hb5 x0 x1 y0 y1 y2
  obtain ⟨x0, x1, y0, y1, y2⟩ := U5.out.cells
  by_cases h1 : n ≤ 140
  rotate_left
  · have t1 : decide (n ≤ 140) = false := decide_eq_false h1
    rw [t1]
    clear x0 x1 y0 y1 y2 t1
    go_wp2_with fail
    go_ret
    exact ⟨rfl, U5.out.below⟩
  have t1 : decide (n ≤ 140) = true := decide_eq_true h1
  rw [t1]
  clear t1
  cases hlt : lightT t
  · clear x0 x1 y0 y1 y2
    go_wp2_with fail
    go_ret
    exact ⟨rfl, U5.out.below⟩
  obtain ⟨hwt, _⟩ := light_wt hlt
  clear hlt
  by_cases h3 : 500 < ls
  · have t1 : decide (500 < (ls : Int)) = true := by simp; omega
    clear x0 x1 y0 y1 y2
    go_wp2_with fail
    go_ret
    exact ⟨rfl, U5.out.below⟩
  have t3 : decide (500 < (ls : Int)) = false := by simp; omega
  have CN := Lib.hid (node_any a n c e ns w5 U5.out.k1 (by omega))
  go_wp2_with fail
  refine CN.out.mono ?_
  rintro r w6 ⟨A6, n6, c6, K6, m6, d6, rfl, hin6, hb6⟩
  have A7 : Below w6.heap.size w6 (w6.alloc (.cells #[.int .i64 (nodeK ns e).1.tag, .slice A6 n6 c6, .slice K6 m6 d6] 28)) := (Below.refl _ _).alloc (Nat.le_refl _) _
  have E7 := hb6.trans (A7.mono hb6.size)
  have U7 := Lib.hid (U5.out.go E7)
  have I7 := Lib.hid (T.In.below A7 _ (T.InP.in _ hin6))
  obtain ⟨z0, z1, z2, _, _, _⟩ := (Blk.new w6 28 #[.int .i64 (nodeK ns e).1.tag, .slice A6 n6 c6, .slice K6 m6 d6]).facts
  clear CN U5 hin6 hb6 A7 E7 x0 x1 y0 y1 y2 t3
  go_wp2_with fail
  generalize w6.alloc (.cells #[.int .i64 (nodeK ns e).1.tag, .slice A6 n6 c6, .slice K6 m6 d6] 28) = w7 at *
  generalize w6.heap.size = g10 at *
  have hwn := wt_node ns e (by omega)
  refine (kread_any (nodeK ns e).1 _ w7 I7.out (by omega)).mono ?_
  intro r w8 h8
  obtain ⟨hb8, a8, c8, rfl, hk8⟩ := key_one h8
  have A9 : Below w8.heap.size w8 (w8.alloc (.cells #[.slice a8 (rkN (readK (nodeK ns e).1)).length c8, .int .u32 (rkE (readK (nodeK ns e).1))] 25)) := (Below.refl _ _).alloc (Nat.le_refl _) _
  have E9 := hb8.trans (A9.mono hb8.size)
  have U9 := Lib.hid (U7.out.go E9)
  have K9 := Lib.hid (hk8.below A9)
  obtain ⟨q0, q1, _, _⟩ := (key_box w8 a8 (rkN (readK (nodeK ns e).1)).length c8 (rkE (readK (nodeK ns e).1))).pair
  have BK := Lib.hid (fun h => back_key (ns := ns) (e := e) e0 e1 h)
  clear U7 I7 h8 hb8 hk8 A9 E9 z0 z1 z2 hwn
  obtain ⟨x0, x1, y0, y1, y2⟩ := U9.out.cells
  go_wp2_with fail
  generalize (nodeK ns e).2 = er at *
  generalize rkZ (readK (nodeK ns e).1) = er2 at *
  generalize rkN (readK (nodeK ns e).1) = ms at *
  generalize rkE (readK (nodeK ns e).1) = f at *
  generalize w8.alloc (.cells #[.slice a8 ms.length c8, .int .u32 f] 25) = w9 at *
  generalize w8.heap.size = g12 at *
  have CS := Lib.hid (ksame_any a n c e ns a8 ms.length c8 f ms w9 U9.out.k1 K9.out)
  refine CS.out.mono ?_
  rintro r w10 ⟨rfl, hb10⟩
  have U10 := Lib.hid (U9.out.go hb10)
  clear CS U9 K9 hb10 x0 x1 y0 y1 y2 q0 q1
  obtain ⟨x0, x1, y0, y1, y2⟩ := U10.out.cells
  by_cases her : er = 0
  case' pos =>
    obtain ⟨hm1, hm2, hm3⟩ := BK.out her
    have t1 : (er == 0) = true := by simpa using her
    have t2 : (er2 != 0) = false := by simpa using hm3
    have t4 : sameK ns e ms f = true := by rw [hm1, hm2]; exact sameK_refl _ _
    rw [t4]
    clear her hm1 hm2 hm3 BK t4
    go_wp2_with fail
  case' neg =>
    have t1 : (er == 0) = false := by simpa using her
    clear her BK
    go_wp2_with fail
  all_goals
    refine (kread_any t _ w10 U10.out.has hwt).mono ?_
    intro r w11 h11
    obtain ⟨hb11, a11, c11, rfl, hk11⟩ := key_one h11
    have A12 : Below w11.heap.size w11 (w11.alloc (.cells #[.slice a11 (rkN (readK t)).length c11, .int .u32 (rkE (readK t))] 25)) := (Below.refl _ _).alloc (Nat.le_refl _) _
    have E12 := hb11.trans (A12.mono hb11.size)
    have U12 := Lib.hid (U10.out.go E12)
    have K12 := Lib.hid (hk11.below A12)
    obtain ⟨q0, q1, _, _⟩ := (key_box w11 a11 (rkN (readK t)).length c11 (rkE (readK t))).pair
    have BN := Lib.hid (fun h => back_node (t := t) h)
    have hkl := rkN_len t
    clear U10 h11 hb11 hk11 A12 E12 x0 x1 y0 y1 y2
    obtain ⟨x0, x1, y0, y1, y2⟩ := U12.out.cells
    go_wp2_with fail
    generalize rkZ (readK t) = z2 at *
    generalize rkN (readK t) = ks at *
    generalize rkE (readK t) = kx at *
    generalize w11.alloc (.cells #[.slice a11 ks.length c11, .int .u32 kx] 25) = w12 at *
    generalize w11.heap.size = g15 at *
    refine (node_any a11 ks.length c11 kx ks w12 K12.out (by omega)).mono ?_
    rintro r w13 ⟨A13, n13, c13, K13, m13, d13, rfl, hin13, hb13⟩
    have A14 : Below w13.heap.size w13 (w13.alloc (.cells #[.int .i64 (nodeK ks kx).1.tag, .slice A13 n13 c13, .slice K13 m13 d13] 28)) := (Below.refl _ _).alloc (Nat.le_refl _) _
    have E14 := hb13.trans (A14.mono hb13.size)
    have U14 := Lib.hid (U12.out.go E14)
    have I14 := Lib.hid (T.In.below A14 _ (T.InP.in _ hin13))
    obtain ⟨z0, z1, zz2, _, _, _⟩ := (Blk.new w13 28 #[.int .i64 (nodeK ks kx).1.tag, .slice A13 n13 c13, .slice K13 m13 d13]).facts
    clear U12 K12 hin13 hb13 A14 E14 x0 x1 y0 y1 y2 q0 q1 hkl
    obtain ⟨x0, x1, y0, y1, y2⟩ := U14.out.cells
    go_wp2_with fail
    generalize w13.alloc (.cells #[.int .i64 (nodeK ks kx).1.tag, .slice A13 n13 c13, .slice K13 m13 d13] 28) = w14 at *
    generalize w13.heap.size = g17 at *
    generalize hn2 : (nodeK ks kx).2 = nk2 at *
    refine (same_any (nodeK ks kx).1 t _ _ w14 I14.out U14.out.has).mono ?_
    rintro r w15 ⟨rfl, hb15⟩
    have U15 := Lib.hid (U14.out.go hb15)
    clear U14 I14 hb15 x0 x1 y0 y1 y2 z0 z1 zz2
    obtain ⟨x0, x1, y0, y1, y2⟩ := U15.out.cells
    have CS := Lib.hid (seal_any t _ s ls cs sig w15 U15.out.has (by omega) U15.out.row (by omega) NI.out)
    by_cases hz2 : z2 = 0
    case' pos =>
      have hN := BN.out hz2
      have s1 : (z2 == 0) = true := by simpa using hz2
      have s2 : (nk2 != 0) = false := by rw [← hn2, hN]; rfl
      have s3 : sameT (nodeK ks kx).1 t = true := by rw [hN]; exact same_refl t
      rw [s3]
      clear hz2 hN BN s3 hn2
      go_wp2_with fail
    case' neg =>
      have s1 : (z2 == 0) = false := by simpa using hz2
      clear hz2 BN hn2
      go_wp2_with fail
    all_goals
      refine CS.out.mono ?_
      rintro r w16 ⟨a16, c16, rfl, hr16, hn16, hb16, hc16⟩
      have U16 := Lib.hid (U15.out.go hb16)
      have R16 := Lib.hid hr16
      have N16 := Lib.hid hn16
      have OS := Lib.hid (fun h => open_seal (n := t) (sig := sig) h)
      have WE := Lib.hid (fun h => write_none (t := sealT t sig) h)
      have WL := write_len (sealT t sig)
      clear CS U15 hb16 hr16 hn16 x0 x1 y0 y1 y2
      obtain ⟨x0, x1, y0, y1, y2⟩ := U16.out.cells
      generalize (writeZ (sealT t sig)).1 = cz at *
      generalize (writeZ (sealT t sig)).2 = ci at *
      by_cases hci : ci = 0
      rotate_left
      · have u1 : (ci != 0) = true := by simpa using hci
        obtain rfl := WE.out hci
        clear hci OS WE x0 x1 y0 y1 y2
        go_wp2_with fail
        go_ret
        exact ⟨rfl, U16.out.below⟩
      subst hci
      have OZ := Lib.hid (OS.out rfl)
      have CO := Lib.hid (open_any a16 cz.length c16 cz w16 R16.out hc16 (by omega) N16.out)
      rw [OZ.out] at CO
      clear OS WE R16 N16
      go_wp2_with fail
      refine CO.out.mono ?_
      rintro r w17 ⟨hb17, hways⟩
      rcases hways with ⟨z, hz, _⟩ | ⟨tt, said, sg, A17, n17, c17, K17, m17, d17, a4, c4, a5, c5, hz, rfl, hin17, hr4, _, hr5, _⟩
      · cases hz
      injection hz with hz
      injection hz with q1 hz
      injection hz with q2 q3
      subst q1
      subst q2
      subst q3
      have A18 : Below w17.heap.size w17 (w17.alloc (.cells #[.int .i64 t.tag, .slice A17 n17 c17, .slice K17 m17 d17] 28)) := (Below.refl _ _).alloc (Nat.le_refl _) _
      have E18 := hb17.trans (A18.mono hb17.size)
      have U18 := Lib.hid (U16.out.go E18)
      have I18 := Lib.hid (T.In.below A18 _ hin17)
      have S18 := Lib.hid (hr5.below A18)
      obtain ⟨z0, z1, zz2, _, _, _⟩ := (Blk.new w17 28 #[.int .i64 t.tag, .slice A17 n17 c17, .slice K17 m17 d17]).facts
      clear CO U16 hb17 hin17 hr4 hr5 A18 E18 x0 x1 y0 y1 y2
      obtain ⟨x0, x1, y0, y1, y2⟩ := U18.out.cells
      go_wp2_with fail
      generalize w17.alloc (.cells #[.int .i64 t.tag, .slice A17 n17 c17, .slice K17 m17 d17] 28) = w18 at *
      generalize w17.heap.size = g22 at *
      refine (same_any t t _ _ w18 I18.out U18.out.has).mono ?_
      rintro r w19 ⟨rfl, hb19⟩
      have U19 := Lib.hid (U18.out.go hb19)
      have k1 := conv_at c5 (S18.out.below hb19)
      have k2 := conv_at cs U19.out.row
      have SR := Lib.hid (same_refl t)
      have ts : ((strOfNums sig).toList == (strOfNums sig).toList) = true := by simp
      clear U18 I18 S18 hb19 x0 x1 y0 y1 y2 z0 z1 zz2 hl1
      rw [SR.out]
      go_wp2_with fail
      go_ret
      exact ⟨rfl, U19.out.below⟩

end Go.Proofs.YtgmefdmeeihgoaaDoor
