/-
  What the package's readWhole and Read answer, for stage 4 (tlv).
-/
import Derived.Test.YtefdfdnfpacfjaaTElem
import Derived.Tactics2
import Derived.Defers
import Derived.Recover
namespace Go.Proofs.Ytefdfdnfpacfjaa
open Go.RowKit
set_option linter.unusedVariables false

/-- What the deferred closure leaves behind a panic: no element, and the error. -/
def caught (w : World) (p q : Nat) (z : Int) : World := (((w.setCell ⟨p, 0, none⟩ (.int .i64 0)).setCell ⟨p, 1, none⟩ (.slice none 0 0)).setCell ⟨p, 2, none⟩ (.slice none 0 0)).setCell ⟨q, 0, none⟩ (.int .i64 z)

theorem assert_errno (z : Int) (w : World) : (Instr.typeAssert (.iface 27 (.int .i64 z)) 20 27 true).run Try.prog w = .ok (.tuple #[.int .i64 z, .bool true]) w := by
  simp [Instr.typeAssert, run_underlying Try.underlying27, Result.andThen]

set_option maxHeartbeats 1000000 in
theorem catch_panicking (p q : Nat) (z y : Int) (a b c : Value) (w : World) (hp : Blk w p 26 #[a, b, c]) (hq : Blk w q 27 #[.int .i64 y]) (hne : q ≠ p) :
    CallsD Try.prog 29 #[.pointer (some ⟨p, 0, none⟩), .pointer (some ⟨q, 0, none⟩)] (.panicking (errP z)) w fun e u' w' =>
      e = .returned (.tuple #[]) ∧ u' = .panicking [{ v := .iface 27 (.int .i64 z), recovered := true }] ∧ w' = caught w p q z := by
  obtain ⟨p0, p1, p2, f0, f1, f2⟩ := hp.facts
  have q0 := hq.cell 0
  have g0 := hq.free 0
  simp only [List.getElem?_toArray, List.getElem?_cons_zero] at q0
  refine callsD_of_wpS Try.func29 rfl fun c₀ cs hu => ?_
  unfold errP at hu
  apply wpS_seq
  apply wpS_region
  simp [wpOpsS, go_sem, recoverD, hu, Try.ntmps29, Exit.thenS]
  refine wpS_of_wp ?_
  change Code.wp Try.prog _ _ ⟨#[.pointer (some ⟨p, 0, none⟩), .pointer (some ⟨q, 0, none⟩), undef, undef, undef, .iface 27 (.int .i64 z), undef, undef, undef, undef, undef, undef, undef], []⟩ w
  have ta := assert_errno z w
  go_wp2_with fail
  exact ⟨rfl, _, rfl, .tuple #[], by simp [results, Try.results29], rfl, rfl, rfl⟩

theorem catch_idle (p q : Nat) (w : World) :
    CallsD Try.prog 29 #[.pointer (some ⟨p, 0, none⟩), .pointer (some ⟨q, 0, none⟩)] .returning w fun e u' w' => e = .returned (.tuple #[]) ∧ u' = .returning ∧ w' = w := by
  refine callsD_of_wpS Try.func29 rfl fun c₀ cs hu => ?_
  apply wpS_seq
  apply wpS_region
  simp [wpOpsS, go_sem, recoverD, hu, Try.ntmps29, Exit.thenS]
  refine wpS_of_wp ?_
  change Code.wp Try.prog _ _ ⟨#[.pointer (some ⟨p, 0, none⟩), .pointer (some ⟨q, 0, none⟩), undef, undef, undef, .nilIface, undef, undef, undef, undef, undef, undef, undef], []⟩ w
  go_wp2_with fail
  refine ⟨rfl, .returning, ?_, .tuple #[], by simp [results, Try.results29], rfl, rfl, rfl⟩
  cases c₀
  simp_all

/-- Two results of which the first is an element's box, the second an error's. -/
theorem results_pair {P : Program} {fn : Func} {p q : Tmp} {ty t2 : TypeId} (h : fn.results = #[.cell p ty, .cell q t2]) (tmps : Array Value) (w : World) (g g2 : Nat) (t : TypeId) (cs : Array Value) (fr : Nat × Nat) (d : TypeDesc) (z : Int)
    (hp : tmps.getD p undef = .pointer (some ⟨g, 0, none⟩)) (hg : w.heap[g]? = some (.cells cs t fr)) (hq : tmps.getD q undef = .pointer (some ⟨g2, 0, none⟩)) (hg2 : w.cell? ⟨g2, 0, none⟩ = some (.int .i64 z))
    (hu : P.underlying ty = some d) (hd : (match d with | .struct _ | .array _ _ => true | _ => false) = true) (hi : (P.info? ty).map (·.size) = some cs.size) (hu2 : P.underlying t2 = some (.int .i64)) :
    (results fn tmps).run P w = .ok (.tuple #[.agg cs, .int .i64 z]) w := by
  have hp' : tmps[p]?.getD undef = .pointer (some ⟨g, 0, none⟩) := by simpa using hp
  have hq' : tmps[q]?.getD undef = .pointer (some ⟨g2, 0, none⟩) := by simpa using hq
  simp [results, h, hp', hq', asAddr, run_loadVar_row w g t ty cs fr d hg hu hd hi]
  simp [loadVar, isAgg, run_underlying hu2, go_sem, hg2, Result.andThen]

/-- readWhole's answer. -/
def wholeZ (l : List Int) : Except Int T :=
  match elemC 0 l with
  | .error z => .error z
  | .ok (t, r) => if r = [] then .ok t else .error 2
theorem readZ_whole {l : List Int} (h : ¬ 20000 < l.length) : readZ l = wholeZ l := if_neg h
theorem Try.sizeErrno : Try.prog.underlying 27 = some (.int .i64) := Try.underlying27

/-- The world in which element is called. -/
def wholeW (w : World) (a : Option Addr) (n ca : Nat) : World := ((w.alloc (.cells #[.int .i64 0, .slice none 0 0, .slice none 0 0] 26)).alloc (.cells #[.int .i64 0] 27)).alloc (.cells #[.slice a n ca, .int .i64 0] 49)
theorem wholeW_below (w : World) (a : Option Addr) (n ca : Nat) : Below w.heap.size w (wholeW w a n ca) :=
  Below.step (Below.step ((Below.refl _ _).alloc (Nat.le_refl _) _) ((Below.refl _ _).alloc (Nat.le_refl _) _)) ((Below.refl _ _).alloc (Nat.le_refl _) _)
structure WS (w W : World) (x y z : Value) (e : Int) : Prop where
  below : Below w.heap.size w W
  box : Blk W w.heap.size 26 #[x, y, z]
  err : Blk W (w.heap.size + 1) 27 #[.int .i64 e]
theorem WS.start (w : World) (a : Option Addr) (n ca : Nat) : WS w (wholeW w a n ca) (.int .i64 0) (.slice none 0 0) (.slice none 0 0) 0 := by
  refine ⟨wholeW_below w a n ca, ((Blk.new w _ _).alloc _).alloc _, ?_⟩
  have h := (Blk.new (w.alloc (.cells #[.int .i64 0, .slice none 0 0, .slice none 0 0] 26)) 27 #[.int .i64 0]).alloc (.cells #[.slice a n ca, .int .i64 0] 49)
  rw [show (w.alloc (.cells #[.int .i64 0, .slice none 0 0, .slice none 0 0] 26)).heap.size = w.heap.size + 1 by simp] at h
  exact h
theorem WS.go {w W W' : World} {x y z : Value} {e : Int} {gs : Nat} (h : WS w W x y z e) (hg : W.grownBy W' (some gs)) (hs : w.heap.size + 1 < gs) : WS w W' x y z e :=
  ⟨Below.trans h.below (grown_below hg w.heap.size (by omega) h.below.size), h.box.grown hg (by omega), h.err.grown hg (by omega)⟩
theorem WS.laid {w W : World} {x y z : Value} {e : Int} (h : WS w W x y z e) (a b c : Value) : WS w (laidW w W a b c) a b c e :=
  ⟨laid_below h.below a b c, laid_blk h.box a b c, ((h.err.far (by omega) 0 a).far (by omega) 1 b).far (by omega) 2 c⟩
theorem WS.caught {w W : World} {x y z : Value} {e : Int} (h : WS w W x y z e) (k : Int) : WS w (caught W w.heap.size (w.heap.size + 1) k) (.int .i64 0) (.slice none 0 0) (.slice none 0 0) k :=
  ⟨(h.laid _ _ _).below.setCell (by show w.heap.size ≤ w.heap.size + 1; omega) _, (h.laid _ _ _).box.far (by omega) _ _, (h.laid _ _ _).err.set 0 _⟩
theorem WS.set {w W : World} {x y z : Value} {e : Int} (h : WS w W x y z e) (k : Int) : WS w (W.setCell ⟨w.heap.size + 1, 0, none⟩ (.int .i64 k)) x y z k :=
  ⟨h.below.setCell (by show w.heap.size ≤ w.heap.size + 1; omega) _, h.box.far (by omega) _ _, h.err.set 0 _⟩
theorem WS.results {w W : World} {x y z : Value} {e : Int} (h : WS w W x y z e) {tmps : Array Value} (hp : tmps.getD 2 undef = .pointer (some ⟨w.heap.size, 0, none⟩)) (hq : tmps.getD 3 undef = .pointer (some ⟨w.heap.size + 1, 0, none⟩)) :
    (results Try.f18 tmps).run Try.prog W = .ok (.tuple #[.agg #[x, y, z], .int .i64 e]) W :=
  results_pair rfl tmps W w.heap.size (w.heap.size + 1) 26 #[x, y, z] (0, 0) _ e hp h.box hq (h.err.cell 0) Try.underlying26 rfl Try.sizeNode Try.underlying27

theorem laid_far {w W : World} {t : T} {v : Value} (h : t.InP (w.heap.size + 2 ≤ ·) W v) (a b c : Value) : t.InP (w.heap.size + 2 ≤ ·) (laidW w W a b c) v :=
  T.InP.keep (fun x _ hp => ⟨hp, by
    have hp' : w.heap.size + 2 ≤ x := hp
    have hx : x ≠ w.heap.size := by omega
    unfold laidW
    rw [heap_setCell_other _ ⟨w.heap.size, 2, none⟩ x c hx, heap_setCell_other _ ⟨w.heap.size, 1, none⟩ x b hx, heap_setCell_other _ ⟨w.heap.size, 0, none⟩ x a hx]⟩) (by simp [laidW]) _ h
theorem set_far {w W : World} {t : T} {v : Value} (h : t.InP (w.heap.size + 2 ≤ ·) W v) (a : Value) : t.InP (w.heap.size ≤ ·) (W.setCell ⟨w.heap.size + 1, 0, none⟩ a) v :=
  T.InP.keep (fun x _ hp => ⟨by have hp' : w.heap.size + 2 ≤ x := hp; show w.heap.size ≤ x; omega, by
    have hp' : w.heap.size + 2 ≤ x := hp
    exact heap_setCell_other _ ⟨w.heap.size + 1, 0, none⟩ x a (by show x ≠ w.heap.size + 1; omega)⟩) (by simp) _ h

set_option maxHeartbeats 2000000 in
theorem whole_any (a : Option Addr) (n ca : Nat) (zs : List Int) (w : World) (hr : Row w a n zs) (hnc : n ≤ ca) (hn : n ≤ 30000) (hnil : a = none → ca = 0) : Calls Try.prog 18 #[.slice a n ca] w (GivesRead (wholeZ zs) w) := by
  have hmf : ∀ (fn : Fn) (first cap : Array Value) (w : World), (Instr.makeFunc fn first cap).run Try.prog w = .ok (.func fn first cap) w := fun _ _ _ _ => rfl
  have hlen := hr.1
  subst hlen
  have S0 := Lib.hid (WS.start w a zs.length ca)
  have CI : Hid (Calls Try.prog 30 #[.pointer (some ⟨w.heap.size + 1 + 1, 0, none⟩)] (wholeW w a zs.length ca) (GivesEl (w.heap.size + 1 + 1) 0 w.heap.size zs (wholeW w a zs.length ca))) := by
    refine telem_any (zs.length + 1) (w.heap.size + 1 + 1) 0 w.heap.size zs _ (by omega) (by omega) hn ⟨a, ca, ?_, hr.below (wholeW_below w a zs.length ca), hnc, fun h0 => ?_, by omega, hnil⟩
    · have h := Blk.new ((w.alloc (.cells #[.int .i64 0, .slice none 0 0, .slice none 0 0] 26)).alloc (.cells #[.int .i64 0] 27)) 49 #[.slice a zs.length ca, .int .i64 0]
      rw [show ((w.alloc (.cells #[.int .i64 0, .slice none 0 0, .slice none 0 0] 26)).alloc (.cells #[.int .i64 0] 27)).heap.size = w.heap.size + 1 + 1 by simp] at h
      exact h
    · obtain ⟨b, off, e, hb, _⟩ := hr.2.2 h0
      exact ⟨b, off, e, hb⟩
  have SZ : Hid (w.heap.size + 1 + 1 < (wholeW w a zs.length ca).heap.size) := by simp [wholeW, Hid]
  unfold wholeW at CI S0 SZ
  clear hr hnil
  go_enter_defers Try.func18, Try.ntmps18
  go_wp2_with fail
  refine CI.out.mono ?_
  rintro e w3 ⟨hg3, hways⟩
  have S3 := Lib.hid (S0.out.go hg3 (by omega))
  have Z3 : Hid (w.heap.size + 1 + 1 < w3.heap.size) := Nat.lt_of_lt_of_le SZ.out hg3.size
  clear CI hg3 SZ
  rcases hways with ⟨z, hz, rfl⟩ | ⟨t, r, v, ht, rfl, hin, hrest⟩
  · have zr := elemC_err hz
    have F : Hid (wholeZ zs = .error z) := by rw [wholeZ, hz]; exact Lib.hid rfl
    have nz : norm 0 z = z := by simp [norm]
    rw [nz]
    refine leaves_cons (f := 29) (args := #[.pointer (some ⟨w.heap.size, 0, none⟩), .pointer (some ⟨w.heap.size + 1, 0, none⟩)]) (by simp) (by simp [go_sem]) ?_
    refine (catch_panicking w.heap.size (w.heap.size + 1) z 0 _ _ _ _ S3.out.box S3.out.err (by omega)).mono ?_
    rintro e u' w5 ⟨rfl, rfl, rfl⟩
    exact ⟨_, (S3.out.caught z).results rfl rfl, (S3.out.caught z).below, .inl ⟨z, F.out, rfl⟩⟩
  · obtain ⟨A', n', c', K', m', d', rfl⟩ := hin.form
    obtain ⟨A9, c9, hblk, _⟩ := hrest
    have c0 := hblk.cell 0
    simp only [List.getElem?_toArray, List.getElem?_cons_zero] at c0
    obtain ⟨p0, p1, p2, f0, f1, f2⟩ := S3.out.box.facts
    have q0 := S3.out.err.cell 0
    have g0 := S3.out.err.free 0
    simp only [List.getElem?_toArray, List.getElem?_cons_zero] at q0
    have I3 : Hid (t.InP (w.heap.size + 2 ≤ ·) w3 (.agg #[.int .i64 t.tag, .slice A' n' c', .slice K' m' d'])) := T.InP.keep (fun x _ hp => ⟨by have hp' := hp; simp at hp'; show w.heap.size + 2 ≤ x; omega, rfl⟩) (Nat.le_refl _) _ hin
    have S4 := Lib.hid (S3.out.laid (.int .i64 t.tag) (.slice A' n' c') (.slice K' m' d'))
    clear hblk hin S0
    by_cases h0 : r = []
    · have F : Hid (wholeZ zs = .ok t) := by rw [wholeZ, ht]; exact if_pos h0
      subst h0
      simp only [List.length_nil] at c0
      clear ht
      go_wp2_with fail
      have S5 := Lib.hid ((S4.out.laid (.int .i64 t.tag) (.slice A' n' c') (.slice K' m' d')).set 0)
      have I5 := Lib.hid (set_far (laid_far (laid_far I3.out (.int .i64 t.tag) (.slice A' n' c') (.slice K' m' d')) (.int .i64 t.tag) (.slice A' n' c') (.slice K' m' d')) (.int .i64 0))
      refine leaves_cons (f := 29) (args := #[.pointer (some ⟨w.heap.size, 0, none⟩), .pointer (some ⟨w.heap.size + 1, 0, none⟩)]) (by simp) (by simp [go_sem]) ?_
      refine (catch_idle w.heap.size (w.heap.size + 1) _).mono ?_
      rintro e u' w5 ⟨rfl, rfl, rfl⟩
      exact ⟨_, S5.out.results rfl rfl, S5.out.below, .inr ⟨t, _, F.out, rfl, I5.out⟩⟩
    · have F : Hid (wholeZ zs = .error 2) := by rw [wholeZ, ht]; exact if_neg h0
      have t0 : ((r.length : Int) != 0) = true := by simpa using h0
      clear ht h0
      go_wp2_with fail
      refine leaves_cons (f := 29) (args := #[.pointer (some ⟨w.heap.size, 0, none⟩), .pointer (some ⟨w.heap.size + 1, 0, none⟩)]) (by simp) (by simp [go_sem]) ?_
      refine (catch_panicking w.heap.size (w.heap.size + 1) 2 0 _ _ _ _ S4.out.box S4.out.err (by omega)).mono ?_
      rintro e u' w5 ⟨rfl, rfl, rfl⟩
      exact ⟨_, (S4.out.caught 2).results rfl rfl, (S4.out.caught 2).below, .inl ⟨2, F.out, rfl⟩⟩

set_option maxHeartbeats 1000000 in
theorem tread_any (a : Option Addr) (n ca : Nat) (zs : List Int) (w : World) (hr : Row w a n zs) (hnc : n ≤ ca) (hn : n ≤ 30000) (hnil : a = none → ca = 0) : Calls Try.prog 10 #[.slice a n ca] w (GivesRead (readZ zs) w) := by
  have hlen := hr.1
  have B0 : Hid (Below w.heap.size w (w.alloc (.cells #[.int .i64 0, .slice none 0 0, .slice none 0 0] 26))) := (Below.refl _ _).alloc (Nat.le_refl _) _
  have K0 := Lib.hid (Blk.new w 26 #[.int .i64 0, .slice none 0 0, .slice none 0 0])
  by_cases h5 : 20000 < n
  · have F := Lib.hid (read_large (l := zs) (by omega))
    clear hlen
    go_enter Try.func10, Try.ntmps10
    go_wp2_with fail
    exact bodyPost_ret (results_node rfl _ _ w.heap.size 26 #[.int .i64 0, .slice none 0 0, .slice none 0 0] (0, 0) _ rfl K0.out Try.underlying26 rfl Try.sizeNode) rfl ⟨B0.out, .inl ⟨5, F.out, rfl⟩⟩
  have F : Hid (readZ zs = wholeZ zs) := readZ_whole (by rw [hlen]; exact h5)
  rw [F.out]
  have CI := Lib.hid (whole_any a n ca zs _ (hr.below B0.out) hnc hn hnil)
  clear hlen F hr
  go_enter Try.func10, Try.ntmps10
  go_wp2_with fail
  refine CI.out.mono ?_
  rintro e w2 ⟨hb2, hways⟩
  have B2 := Lib.hid (Below.step B0.out hb2)
  have K2 := Lib.hid (K0.out.below hb2 (by simp))
  obtain ⟨p0, p1, p2, f0, f1, f2⟩ := K2.out.facts
  clear hb2 CI
  rcases hways with ⟨z, hz, rfl⟩ | ⟨t, v, ht, rfl, hin⟩
  · go_wp2_with fail
    exact bodyPost_ret (results_node rfl _ _ w.heap.size 26 #[.int .i64 0, .slice none 0 0, .slice none 0 0] (0, 0) _ rfl (laid_blk K2.out _ _ _) Try.underlying26 rfl Try.sizeNode) rfl ⟨laid_below B2.out _ _ _, .inl ⟨z, hz, rfl⟩⟩
  · obtain ⟨A', n', c', K', m', d', rfl⟩ := hin.form
    have I2 : Hid (t.InP (w.heap.size + 1 ≤ ·) w2 (.agg #[.int .i64 t.tag, .slice A' n' c', .slice K' m' d'])) := T.InP.keep (fun x _ hp => ⟨by have hp' := hp; simp at hp'; show w.heap.size + 1 ≤ x; omega, rfl⟩) (Nat.le_refl _) _ hin
    clear hin
    go_wp2_with fail
    exact bodyPost_ret (results_node rfl _ _ w.heap.size 26 #[.int .i64 t.tag, .slice A' n' c', .slice K' m' d'] (0, 0) _ rfl (laid_blk K2.out _ _ _) Try.underlying26 rfl Try.sizeNode) rfl ⟨laid_below B2.out _ _ _, .inr ⟨t, _, ht, rfl, laid_in I2.out _ _ _⟩⟩

end Go.Proofs.Ytefdfdnfpacfjaa
