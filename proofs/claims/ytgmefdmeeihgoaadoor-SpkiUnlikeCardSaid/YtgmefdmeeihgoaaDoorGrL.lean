/-
  Merged texts: WrapK, SkX.
-/
import Derived.Test.YtgmefdmeeihgoaaDoorRows
import Derived.Test.YtgmefdmeeihgoaaDoorGrH
import Derived.ProofKit
import Derived.OpenShut
import Derived.ShutString
import Derived.LaidMore
import Derived.Lay
import Derived.Stop.Joined
import Derived.Test.YtgmefdmeeihgoaaDoorGrI
import Derived.Test.YtgmefdmeeihgoaaDoorGrJ
namespace Go.Proofs.YtgmefdmeeihgoaaDoor
open Go.ChangeShapes Go.WideShapes Go.ChangeAt Go.RowKit

theorem own : ownKnob Tryd.prog.godebug = none := by kernel_rfl
theorem laidOut : laidOutB Tryd.prog = true := by kernel_rfl

def laids : List (String × DataW Unit) := [("lanyard/sha.startWords", Rows.laid_lanyard_sha_startWords), ("lanyard/sha.roundWords", Rows.laid_lanyard_sha_roundWords), ("unicode/utf8.acceptRanges", Rows.laid_unicode_utf8_acceptRanges), ("unicode/utf8.first", Rows.laid_unicode_utf8_first)]

theorem Tryd.cells37 : Tryd.prog.cellsOf 23 = 1 := by kernel_rfl
/-- An array of 32-bit numbers that reads as these. -/
theorem row_of_laid {W : World} {cs : Array Value} {fuel n : Nat} {t : TypeId} {p : List MemPlace} (zs : List Int) (hn : zs.length = n) (hu : Tryd.prog.underlying t = some (.array n 23)) (hc : Tryd.prog.cellsOf t = n)
    (h : DataW.trod (fun _ => ()) Tryd.prog W 0 (fun _ => true) false fuel t cs.toList = some (.agg (zs.map fun z => .lit (.int .u32 z)), p)) : cs = (zs.map (Value.int .u32)).toArray := by
  obtain ⟨xs, m, _, ex, hlen, hl, hel⟩ := DataW.trod_array hu h
  have e3 : (xs.map (·.1)) = zs.map fun z => (DataW.lit (.int .u32 z) : DataW Unit) := (DataW.agg.inj (Prod.mk.inj ex).1).symm
  apply Array.ext'
  apply List.ext_getElem?
  intro i
  rcases Nat.lt_or_ge i n with hi | hi
  · have hE := hel i hi
    rw [Tryd.cells37, Nat.mul_one, List.getElem?_eq_getElem (by omega)] at hE
    obtain ⟨z, e1, e2, _⟩ := DataW.trod_int Tryd.underlying23 hE
    have e4 : (xs.map (·.1))[i]? = (zs.map fun z => (DataW.lit (.int .u32 z) : DataW Unit))[i]? := by rw [e3]
    rw [List.getElem?_map, List.getElem?_map, List.getElem?_eq_getElem (by omega : i < xs.length), List.getElem?_eq_getElem (by omega : i < zs.length), e2] at e4
    have hz : z = zs[i]'(by omega) := by
      simpa using e4
    have h0 : ((cs.toList.drop i).take 1)[0]? = some (.int .u32 z) := by rw [e1]; rfl
    rw [List.getElem?_take, if_pos (by omega), List.getElem?_drop, Nat.add_zero] at h0
    rw [h0, hz, List.getElem?_map, List.getElem?_eq_getElem (by omega : i < zs.length)]
    rfl
  · rw [List.getElem?_eq_none (by omega), List.getElem?_eq_none (by simp; omega)]

theorem var_block {W : World} {n : String} {g : Nat} {cs : Array Value} (hg : Tryd.prog.globalNamed n = some g) (h : W.var? Tryd.prog n = some cs) : ∃ t fr, W.heap[g]? = some (.cells cs t fr) := by
  simp only [World.var?, hg, Option.bind_some] at h
  split at h
  · rename_i c t fr hc
    injection h with h
    subst h
    exact ⟨t, fr, hc⟩
  · cases h

theorem start_laid : (Rows.laid_lanyard_sha_startWords : DataW Unit) = .agg (H0.list.map fun z => .lit (.int .u32 z)) := by kernel_rfl
theorem round_laid : (Rows.laid_lanyard_sha_roundWords : DataW Unit) = .agg (CONSTS.map fun z => .lit (.int .u32 z)) := by kernel_rfl
theorem tab_of {W : World} (h : laidMetH Tryd.prog laids W) : Tab W := by
  rw [MakeChecks.laidMetH_plain _ _ _ (by kernel_rfl)] at h
  obtain ⟨ps, ⟨g, t, cs, fuel, p, q, hg, ht, hv, hd, ⟨g1, t1, cs1, fuel1, p1, q1, hg1, ht1, hv1, hd1, _, _⟩, _⟩, _, _⟩ := h
  obtain rfl := Option.some.inj ((show Tryd.prog.globalNamed "lanyard/sha.startWords" = some 0 by kernel_rfl).symm.trans hg)
  obtain rfl := Option.some.inj ((show (Tryd.prog.globals[0]?).map (·.type) = some 114 by kernel_rfl).symm.trans ht)
  obtain rfl := Option.some.inj ((show Tryd.prog.globalNamed "lanyard/sha.roundWords" = some 1 by kernel_rfl).symm.trans hg1)
  obtain rfl := Option.some.inj ((show (Tryd.prog.globals[1]?).map (·.type) = some 128 by kernel_rfl).symm.trans ht1)
  rw [start_laid] at hd
  rw [round_laid] at hd1
  have e0 := row_of_laid H0.list rfl Tryd.underlying114 (by kernel_rfl) hd
  have e1 := row_of_laid CONSTS rfl Tryd.underlying128 (by kernel_rfl) hd1
  obtain ⟨t0, f0, b0⟩ := var_block (by kernel_rfl) hv
  obtain ⟨t1, f1, b1⟩ := var_block (by kernel_rfl) hv1
  have hlt : 1 < W.heap.size := (Array.getElem?_eq_some_iff.1 b1).1
  refine ⟨hlt, ⟨t0, f0, ?_⟩, t1, f1, ?_⟩
  · rw [b0, e0]
    rfl
  · rw [b1, e1]
    rfl

section
variable {H : Type} {enc : TypeId × Value → H}
set_option maxRecDepth 100000 in
/-- The wrap: the row's condition is the listed variables'; the call is told what they hold, and that the world has its shape. -/
theorem wrapped {f : FuncId} {fn : Func} {s : ChangeSpec} {conds : List PathCond} {os : Os} (started : os.Started) (noInit : Tryd.prog.inits.idxOf? f = none) (hfn : Tryd.prog.funcs[f]? = some fn)
    (witness : ∃ (w : World) (tape : Tape) (i : Input), w.os = os ∧ (w.forCall tape i).Shaped Tryd.prog ∧ i.vars = [] ∧ Input.okWide Tryd.prog (w.forCall tape i) .any w.heap.size f i ∧
      ((s.pre enc Tryd.prog fn conds false (w.forCall tape i).memory i.args ∧ laidMetH Tryd.prog laids (w.forCall tape i).memory) ∧ sizedMet enc Tryd.prog fn (OpenSpec.ofChange s) false (w.forCall tape i).memory i.args) ∧ ({} : Assume).holds Tryd.prog (lone (Frame.enter Tryd.prog f i.args .normal) [] (w.forCall tape i)))
    (contract : ∀ (W : World) (base : Nat) (args : Array Value) (ds gs : List (DataW H)) (before : List MemPlace),
      (∀ (j : Nat) t v, fn.params[j]? = some t → args[j]? = some v → Value.okWide Tryd.prog W .any base t v) →
      DataW.Whole enc Tryd.prog fn.params.toList s.vars false W args.toList ds gs before →
      Tab W →
      Calls Tryd.prog f args W fun e W' => ∃ v, e = .returned v ∧ s.post enc Tryd.prog fn false true false false W args v W') :
    ReturnsInHanded {} Tryd.checked os f .any (fun w args => (s.pre enc Tryd.prog fn conds false w args ∧ laidMetH Tryd.prog laids w) ∧ sizedMet enc Tryd.prog fn (OpenSpec.ofChange s) false w args) (s.post enc Tryd.prog fn false true false false) := by
  refine returnsInHanded_of_calls (C := Tryd.checked) own started noInit witness ?_
  intro w tape i _ hsh _ hok hpre _
  obtain ⟨_, _, _, fn', hfn', _, _, _, _, hval⟩ := hok
  obtain rfl : fn' = fn := Option.some.inj (hfn'.symm.trans hfn)
  obtain ⟨⟨⟨ds, gs, before, hw, _⟩, hl⟩, _⟩ := hpre
  have ht := tab_of hl
  refine (contract (w.forCall tape i) w.heap.size i.args ds gs before hval (DataW.Whole.of_heap (w' := w.forCall tape i) (by rfl) hw) (show Tab (w.forCall tape i) from ht)).mono fun e W' ⟨v, he, hp⟩ => ?_
  subst he
  exact ChangeSpec.post_blind hp
end
end Go.Proofs.YtgmefdmeeihgoaaDoor

namespace Go.Proofs.YtgmefdmeeihgoaaDoor
open Go.RowKit
set_option linter.unusedVariables false
set_option linter.unusedSimpArgs false

/-- Two keys in their boxes. -/
structure UB (w W : World) (a : Option Addr) (n c : Nat) (e : Int) (ns : List Int) (b : Option Addr) (m d : Nat) (f : Int) (ms : List Int) : Prop where
  box1 : Blk W w.heap.size 25 #[.slice a n c, .int .u32 e]
  box2 : Blk W (w.heap.size + 1) 25 #[.slice b m d, .int .u32 f]
  below : Below w.heap.size w W
  k1 : KeyAt W a n c e ns
  k2 : KeyAt W b m d f ms
theorem UB.go {w W W' : World} {a : Option Addr} {n c : Nat} {e : Int} {ns : List Int} {b : Option Addr} {m d : Nat} {f : Int} {ms : List Int} (h : UB w W a n c e ns b m d f ms) (hb : Below W.heap.size W W') : UB w W' a n c e ns b m d f ms :=
  ⟨h.box1.below hb h.box1.lt, h.box2.below hb h.box2.lt, h.below.trans (hb.mono h.below.size), h.k1.below hb, h.k2.below hb⟩
theorem UB.cells {w W : World} {a : Option Addr} {n c : Nat} {e : Int} {ns : List Int} {b : Option Addr} {m d : Nat} {f : Int} {ms : List Int} (h : UB w W a n c e ns b m d f ms) : W.cell? ⟨w.heap.size, 0, none⟩ = some (.slice a n c) ∧ W.cell? ⟨w.heap.size, 1, none⟩ = some (.int .u32 e) ∧ W.cell? ⟨w.heap.size + 1, 0, none⟩ = some (.slice b m d) ∧ W.cell? ⟨w.heap.size + 1, 1, none⟩ = some (.int .u32 f) :=
  ⟨h.box1.cell 0, h.box1.cell 1, h.box2.cell 0, h.box2.cell 1⟩
theorem same_keys {ns ms : List Int} {e f : Int} (h : rightZ ns e = true) (h0 : 0 ≤ e) (h1 : e ≤ 4294967295) (k : rightZ ms f = true) (k0 : 0 ≤ f) (k1 : f ≤ 4294967295) : sameT (keyT ns e) (keyT ms f) = sameK ns e ms f := by
  cases hs : sameK ns e ms f
  · cases ht : sameT (keyT ns e) (keyT ms f)
    · rfl
    · obtain ⟨rfl, rfl⟩ := key_inj h h0 h1 k k0 k1 (same_is _ _ ht)
      rw [sameK_refl] at hs
      cases hs
  · obtain ⟨rfl, rfl⟩ := sameK_is hs
    exact same_refl _

set_option maxRecDepth 100000 in
set_option maxHeartbeats 4000000 in
theorem unlike_walk (a : Option Addr) (n c : Nat) (e : Int) (ns : List Int) (b : Option Addr) (m d : Nat) (f : Int) (ms : List Int) (w : World) (hT : Tab w) (h1 : KeyAt w a n c e ns) (hn : n ≤ maxLen) (h2 : KeyAt w b m d f ms) (hm : m ≤ maxLen) :
    Calls Tryd.prog 4 #[.agg #[.slice a n c, .int .u32 e], .agg #[.slice b m d, .int .u32 f]] w fun r w' => r = .returned (.bool true) ∧ Below w.heap.size w w' := by
  have b2 : Below w.heap.size w ((w.alloc (.cells #[.slice a n c, .int .u32 e] 25)).alloc (.cells #[.slice b m d, .int .u32 f] 25)) := ((Below.refl _ _).alloc (Nat.le_refl _) _).alloc (by simp) _
  have X1 := (key_box w a n c e).alloc (.cells #[.slice b m d, .int .u32 f] 25)
  have Y1 := key_box (w.alloc (.cells #[.slice a n c, .int .u32 e] 25)) b m d f
  rw [show (w.alloc (.cells #[.slice a n c, .int .u32 e] 25)).heap.size = w.heap.size + 1 by simp] at Y1
  have U2 := Lib.hid (UB.mk X1 Y1 b2 (h1.below b2) (h2.below b2))
  have T2 := Lib.hid (hT.below b2)
  have e0 := h1.2.2.2.1
  have e1 := h1.2.2.2.2
  have f0 := h2.2.2.2.1
  have f1 := h2.2.2.2.2
  have hl1 := h1.1.1
  have hl2 := h2.1.1
  clear b2 X1 Y1 h1 h2 hT
  go_enter Tryd.func4, Tryd.ntmps4
  generalize hw2 : (w.alloc (.cells #[.slice a n c, .int .u32 e] 25)).alloc (.cells #[.slice b m d, .int .u32 f] 25) = w2 at *
  go_wp2_with fail
  refine (awake14_any _).mono ?_
  rintro r w3 ⟨rfl, hb3⟩
  have U3 := Lib.hid (U2.out.go hb3)
  have T3 := Lib.hid (T2.out.below hb3)
  clear U2 T2 hb3 hw2
  obtain ⟨x0, x1, y0, y1⟩ := U3.out.cells
  go_wp2_with fail
  refine (klight_any a n c e ns w3 U3.out.k1 hn).mono ?_
  rintro r w4 ⟨rfl, hb4⟩
  have U4 := Lib.hid (U3.out.go hb4)
  have T4 := Lib.hid (T3.out.below hb4)
  clear U3 T3 hb4 x0 x1 y0 y1
  obtain ⟨x0, x1, y0, y1⟩ := U4.out.cells
  go_wp2_with fail
  refine (klight_any b m d f ms w4 U4.out.k2 hm).mono ?_
  rintro r w5 ⟨rfl, hb5⟩
  have U5 := Lib.hid (U4.out.go hb5)
  have T5 := Lib.hid (T4.out.below hb5)
  clear U4 T4 hb5 x0 x1 y0 y1
  obtain ⟨x0, x1, y0, y1⟩ := U5.out.cells
  by_cases h1 : n ≤ 140
  rotate_left
  · have t1 : decide (n ≤ 140) = false := decide_eq_false h1
    rw [t1]
    clear x0 x1 y0 y1 t1
    go_wp2_with fail
    go_ret
    exact ⟨rfl, U5.out.below⟩
  have t1 : decide (n ≤ 140) = true := decide_eq_true h1
  rw [t1]
  by_cases h2 : m ≤ 140
  rotate_left
  · have t2 : decide (m ≤ 140) = false := decide_eq_false h2
    rw [t2]
    clear x0 x1 y0 y1 t2 t1
    go_wp2_with fail
    go_ret
    exact ⟨rfl, U5.out.below⟩
  have t2 : decide (m ≤ 140) = true := decide_eq_true h2
  rw [t2]
  clear t1 t2
  have CN := Lib.hid (node_any a n c e ns w5 U5.out.k1 (by omega))
  go_wp2_with fail
  refine CN.out.mono ?_
  rintro r w6 ⟨A6, n6, c6, K6, m6, d6, rfl, hin6, hb6⟩
  have A7 : Below w6.heap.size w6 (w6.alloc (.cells #[.int .i64 (nodeK ns e).1.tag, .slice A6 n6 c6, .slice K6 m6 d6] 28)) := (Below.refl _ _).alloc (Nat.le_refl _) _
  have E7 := hb6.trans (A7.mono hb6.size)
  have U7 := Lib.hid (U5.out.go E7)
  have T7 := Lib.hid (T5.out.below E7)
  have I7 := Lib.hid (T.In.below A7 _ (T.InP.in _ hin6))
  have Z7 := Lib.hid (Blk.new w6 28 #[.int .i64 (nodeK ns e).1.tag, .slice A6 n6 c6, .slice K6 m6 d6])
  clear CN U5 T5 hin6 hb6 A7 E7 x0 x1 y0 y1
  obtain ⟨x0, x1, y0, y1⟩ := U7.out.cells
  go_wp2_with fail
  generalize w6.alloc (.cells #[.int .i64 (nodeK ns e).1.tag, .slice A6 n6 c6, .slice K6 m6 d6] 28) = w7 at *
  generalize w6.heap.size = g8 at *
  have CN := Lib.hid (node_any b m d f ms w7 U7.out.k2 (by omega))
  refine CN.out.mono ?_
  rintro r w8 ⟨A8, n8, c8, K8, m8, d8, rfl, hin8, hb8⟩
  have A9 : Below w8.heap.size w8 (w8.alloc (.cells #[.int .i64 (nodeK ms f).1.tag, .slice A8 n8 c8, .slice K8 m8 d8] 28)) := (Below.refl _ _).alloc (Nat.le_refl _) _
  have E9 := hb8.trans (A9.mono hb8.size)
  have U9 := Lib.hid (U7.out.go E9)
  have T9 := Lib.hid (T7.out.below E9)
  have I9 := Lib.hid (T.In.below E9 _ I7.out)
  have Z9 := Lib.hid (Z7.out.below E9 Z7.out.lt)
  have J9 := Lib.hid (T.In.below A9 _ (T.InP.in _ hin8))
  have Y9 := Lib.hid (Blk.new w8 28 #[.int .i64 (nodeK ms f).1.tag, .slice A8 n8 c8, .slice K8 m8 d8])
  clear CN U7 T7 I7 Z7 hin8 hb8 A9 E9 x0 x1 y0 y1
  obtain ⟨x0, x1, y0, y1⟩ := U9.out.cells
  cases hr1 : rightZ ns e
  · have t1 : ((nodeK ns e).2 != 0) = true := by unfold nodeK; rw [hr1]; rfl
    clear x0 x1 y0 y1 hr1
    go_wp2_with fail
    go_ret
    exact ⟨rfl, U9.out.below⟩
  have N1 : nodeK ns e = (keyT ns e, 0) := by unfold nodeK; rw [hr1]; rfl
  rw [N1] at I9 Z9 ⊢
  cases hr2 : rightZ ms f
  · have t2 : ((nodeK ms f).2 != 0) = true := by unfold nodeK; rw [hr2]; rfl
    clear x0 x1 y0 y1 hr2 N1
    go_wp2_with fail
    go_ret
    exact ⟨rfl, U9.out.below⟩
  have N2 : nodeK ms f = (keyT ms f, 0) := by unfold nodeK; rw [hr2]; rfl
  rw [N2] at J9 Y9 U9 T9 I9 Z9 x0 x1 y0 y1 ⊢
  have SK := Lib.hid (same_keys hr1 e0 e1 hr2 f0 f1)
  clear N1 N2 hr1 hr2
  go_wp2_with fail
  obtain ⟨z0, z1, z2, _, _, _⟩ := Z9.out.facts
  obtain ⟨q0, q1, q2, _, _, _⟩ := Y9.out.facts
  generalize w8.alloc (.cells #[.int .i64 (keyT ms f).tag, .slice A8 n8 c8, .slice K8 m8 d8] 28) = w9 at *
  generalize w8.heap.size = g10 at *
  refine (ksame_any a n c e ns b m d f ms w9 U9.out.k1 U9.out.k2).mono ?_
  rintro r w10 ⟨rfl, hb10⟩
  have U10 := Lib.hid (U9.out.go hb10)
  have T10 := Lib.hid (T9.out.below hb10)
  have I10 := Lib.hid (T.In.below hb10 _ I9.out)
  have J10 := Lib.hid (T.In.below hb10 _ J9.out)
  have V10 := Lib.hid (Z9.out.below hb10 Z9.out.lt)
  have W10 := Lib.hid (Y9.out.below hb10 Y9.out.lt)
  clear U9 T9 I9 J9 Z9 Y9 hb10 x0 x1 y0 y1 z0 z1 z2 q0 q1 q2
  obtain ⟨z0, z1, z2, _, _, _⟩ := V10.out.facts
  obtain ⟨q0, q1, q2, _, _, _⟩ := W10.out.facts
  have CM := Lib.hid (same_any (keyT ns e) (keyT ms f) _ _ w10 I10.out J10.out)
  go_wp2_with fail
  refine CM.out.mono ?_
  rintro r w11 ⟨rfl, hb11⟩
  have U11 := Lib.hid (U10.out.go hb11)
  have T11 := Lib.hid (T10.out.below hb11)
  clear CM U10 T10 I10 J10 V10 W10 hb11 z0 z1 z2 q0 q1 q2
  obtain ⟨x0, x1, y0, y1⟩ := U11.out.cells
  rw [SK.out]
  have CA := Lib.hid (kname_any a n c e ns w11 U11.out.k1 (by omega) T11.out)
  go_wp2_with fail
  refine CA.out.mono ?_
  rintro r w12 ⟨rfl, hb12⟩
  have U12 := Lib.hid (U11.out.go hb12)
  have T12 := Lib.hid (T11.out.below hb12)
  clear CA U11 T11 hb12 x0 x1 y0 y1
  obtain ⟨x0, x1, y0, y1⟩ := U12.out.cells
  have CB := Lib.hid (kname_any b m d f ms w12 U12.out.k2 (by omega) T12.out)
  go_wp2_with fail
  refine CB.out.mono ?_
  rintro r w13 ⟨rfl, hb13⟩
  have B13 := Lib.hid (U12.out.below.trans (hb13.mono U12.out.below.size))
  clear CB U12 T12 hb13 x0 x1 y0 y1 SK
  cases hs : sameK ns e ms f
  · have HS := Lib.hid hs
    clear hs
    go_wp2_with fail
    go_ret
    exact ⟨rfl, B13.out⟩
  · obtain ⟨rfl, rfl⟩ := sameK_is hs
    have ts : ((strOfNums (nameK ns e).1).toList == (strOfNums (nameK ns e).1).toList) = true := by simp
    clear hs
    go_wp2_with fail
    go_ret
    exact ⟨rfl, B13.out⟩

end Go.Proofs.YtgmefdmeeihgoaaDoor
