/-
  Merged texts: SkD, SkE, SkF, SkG, SkH, NumBack, RsO, SkK.
-/
import Derived.Test.YtgmefdmeeihgoaaGreatDoorGrH
import Derived.Test.YtgmefdmeeihgoaaGreatDoorGrB
import Derived.Test.YtgmefdmeeihgoaaGreatDoorGrE
import Derived.Tactics2
import Derived.Defers
import Derived.Recover
import Derived.Test.YtgmefdmeeihgoaaGreatDoorGrD
import Derived.Test.YtgmefdmeeihgoaaGreatDoorGrA
namespace Go.Proofs.YtgmefdmeeihgoaaGreatDoor
open Go.RowKit
set_option linter.unusedVariables false
set_option linter.unusedSimpArgs false
def Any (_ : Nat) : Prop := True
theorem T.In.any {w : World} {t : T} {v : Value} (h : t.In w v) : t.InP Any w v := T.InP.keep (fun _ _ _ => ⟨trivial, rfl⟩) (Nat.le_refl _) _ (T.In.inP t h)
theorem KidsP.kid {P : Nat → Prop} {w : World} {K : Option Addr} {m d : Nat} {ks : List T} (h : KidsP P w K m d ks) (i : Nat) (hi : i < m) : ∃ (k : T) (b off : Nat) (z : Int) (A' : Option Addr) (n' c' : Nat) (K' : Option Addr) (m' d' : Nat), ks[i]? = some k ∧ K = some ⟨b, off, none⟩ ∧
    w.cell? ⟨b, off + i * 3, none⟩ = some (.int .i64 z) ∧ w.cell? ⟨b, off + i * 3 + 1, none⟩ = some (.slice A' n' c') ∧ w.cell? ⟨b, off + i * 3 + 2, none⟩ = some (.slice K' m' d') ∧ k.InP P w (.agg #[.int .i64 z, .slice A' n' c', .slice K' m' d']) :=
  T.InP.kid (t := .node 48 [] ks) (h.node (z := 48) (by decide)) i hi
theorem T.InP.kidsP {P : Nat → Prop} {w : World} {t : T} {z : Int} {A : Option Addr} {n c : Nat} {K : Option Addr} {m d : Nat} (h : t.InP P w (.agg #[.int .i64 z, .slice A n c, .slice K m d])) : KidsP P w K m d t.kids := by
  obtain ⟨tag, body, kids⟩ := t
  unfold T.InP at h
  obtain ⟨A1, n1, c1, K1, m1, d1, e, _, _, _, _, hm, hm', _, hk⟩ := h
  simp only [Value.agg.injEq] at e
  have e' := congrArg Array.toList e
  simp only [List.cons.injEq, and_true, Value.slice.injEq, true_and] at e'
  obtain ⟨_, _, rfl, rfl, rfl⟩ := e'
  exact ⟨hm, ⟨hm'.1, hm'.2.2⟩, hk⟩
def EqIs (x : T) : Prop := ∀ (y : T) (u v : Value) (w : World), x.In w u → y.In w v → Calls Tryz.prog 61 #[u, v] w fun e w' => e = .returned (.bool (sameT x y)) ∧ Below w.heap.size w w'
set_option maxHeartbeats 2000000 in
theorem equalf_any (ks ls : List T) (K1 K2 : Option Addr) (m1 d1 m2 d2 : Nat) (w : World) (IH : ∀ k ∈ ks, EqIs k) (h1 : KidsP Any w K1 m1 d1 ks) (h2 : KidsP Any w K2 m2 d2 ls) :
    Calls Tryz.prog 97 #[.slice K1 m1 d1, .slice K2 m2 d2, .func (.func 61) #[] #[]] w fun e w' => e = .returned (.bool ((ks.length == ls.length) && sameAll ks ls)) ∧ Below w.heap.size w w' := by
  have hl1 := h1.1
  have hl2 := h2.1
  have hx := h1.2.1.1
  have HI := Lib.hid IH
  have H1 := Lib.hid h1
  have H2 := Lib.hid h2
  unfold maxLen at hx
  clear h1 h2 IH
  by_cases e3 : m1 = m2
  rotate_left
  · have t3 : ((m1 : Int) != (m2 : Int)) = true := by simp; omega
    have F : Hid (((ks.length == ls.length) && sameAll ks ls) = false) := by rw [hl1, hl2]; simp [e3, Hid]
    clear hl1 hl2 e3
    go_enter Tryz.func97, Tryz.ntmps97
    go_wp2_with fail
    go_ret
    exact ⟨ret_bool F.out.symm, Below.refl _ _⟩
  subst e3
  have F : Hid (((ks.length == ls.length) && sameAll ks ls) = sameAll ks ls) := by rw [hl1, hl2]; simp [Hid]
  have HL := Lib.hid hl1
  clear hl1 hl2
  go_enter Tryz.func97, Tryz.ntmps97
  go_wp2_with fail
  go_loopw [17] (fun i wr => ∃ k : Nat, k ≤ m1 ∧ i = .int .i64 (k : Int) ∧ sameAll ks ls = sameAll (ks.drop k) (ls.drop k) ∧ Below w.heap.size w wr) (fun i _ => m1 - (intOf i).toNat)
  case atStart => exact ⟨0, by omega, rfl, rfl, Below.refl _ _⟩
  case round =>
    obtain ⟨k, hk, rfl, hs, hb⟩ := hrel
    have HS := Lib.hid hs
    have HB := Lib.hid hb
    have J1 := Lib.hid (H1.out.below hb (fun _ h => h))
    have J2 := Lib.hid (H2.out.below hb (fun _ h => h))
    clear hs hb
    by_cases hlt : k < m1
    · obtain ⟨p, b, off, z, A', n', c', K', m', d', hp, rfl, p0, p1, p2, hpin⟩ := J1.out.kid k hlt
      obtain ⟨q, b2, off2, z2, A2', n2', c2', K2', m2', d2', hq, rfl, q0, q1, q2, hqin⟩ := J2.out.kid k hlt
      have ST := Lib.hid (HS.out.trans (same_drop hp hq))
      have PM := List.mem_of_getElem? hp
      have hb2 := cell_block q0
      have A1 : Below wr.heap.size wr (wr.alloc (.cells #[.int .i64 z, .slice A' n' c', .slice K' m' d'] 28)) := (Below.refl _ _).alloc (Nat.le_refl _) _
      have A2 : Below wr.heap.size wr ((wr.alloc (.cells #[.int .i64 z, .slice A' n' c', .slice K' m' d'] 28)).alloc (.cells #[.int .i64 z2, .slice A2' n2' c2', .slice K2' m2' d2'] 28)) := A1.alloc (by simp) _
      have r0 := (Below.cell A1 (p := ⟨b2, off2 + k * 3, none⟩) hb2).trans q0
      have r1 := (Below.cell A1 (p := ⟨b2, off2 + k * 3 + 1, none⟩) hb2).trans q1
      have r2 := (Below.cell A1 (p := ⟨b2, off2 + k * 3 + 2, none⟩) hb2).trans q2
      have CI := Lib.hid (HI.out p PM q _ _ _ (T.In.below A2 p (T.InP.in _ hpin)) (T.In.below A2 q (T.InP.in _ hqin)))
      have B2 := Lib.hid (HB.out.trans (A2.mono HB.out.size))
      clear HS hp hq hpin hqin H1 H2 J1 J2 PM A1 A2 q0 q1 q2 HB
      go_wp2_with fail
      refine CI.out.mono ?_
      rintro e w3 ⟨rfl, hb3⟩
      have B3 := Lib.hid (B2.out.trans (hb3.mono B2.out.size))
      clear CI hb3 B2
      cases hsame : sameT p q
      · have G : Hid (sameAll ks ls = false) := by rw [ST.out, hsame]; rfl
        clear hsame ST
        go_wp2_with fail
        go_ret
        exact ⟨ret_bool (F.out.trans G.out).symm, B3.out⟩
      · have N : Hid (sameAll ks ls = sameAll (ks.drop (k + 1)) (ls.drop (k + 1))) := by rw [ST.out, hsame]; simp [Hid]
        clear hsame ST
        go_wp2_with fail
        go_roundw
        case rel => exact ⟨k + 1, by omega, by go_num, N.out, B3.out⟩
        case measure => simp [intOf]; omega
    · have G : Hid (sameAll ks ls = true) := by rw [HS.out, same_end (by rw [HL.out]; omega)]; exact Lib.hid rfl
      clear HS
      go_wp2_with fail
      go_ret
      exact ⟨ret_bool (F.out.trans G.out).symm, HB.out⟩
set_option maxHeartbeats 2000000 in
theorem eqT_any (x : T) : EqIs x := by
  refine T.each (p := EqIs) ?_ x
  clear x
  intro x ih y u v w hx hy
  obtain ⟨A, n, c, K, m, d, rfl, _, hrx, _, _, hmx, _, _⟩ := hx.open
  obtain ⟨A2, n2, c2, K2, m2, d2, rfl, _, hry, _, _, hmy, _, _⟩ := hy.open
  have b1 : Below w.heap.size w ((w.alloc (.cells #[.int .i64 x.tag, .slice A n c, .slice K m d] 28)).alloc (.cells #[.int .i64 y.tag, .slice A2 n2 c2, .slice K2 m2 d2] 28)) := ((Below.refl _ _).alloc (Nat.le_refl _) _).alloc (by simp) _
  have SE := Lib.hid (sameT_eq x y)
  have X1 := (Blk.new w 28 #[.int .i64 x.tag, .slice A n c, .slice K m d]).alloc (.cells #[.int .i64 y.tag, .slice A2 n2 c2, .slice K2 m2 d2] 28)
  have Y1 := Blk.new (w.alloc (.cells #[.int .i64 x.tag, .slice A n c, .slice K m d] 28)) 28 #[.int .i64 y.tag, .slice A2 n2 c2, .slice K2 m2 d2]
  rw [show (w.alloc (.cells #[.int .i64 x.tag, .slice A n c, .slice K m d] 28)).heap.size = w.heap.size + 1 by simp] at Y1
  obtain ⟨x0, x1, x2, _, _, _⟩ := X1.facts
  obtain ⟨y0, y1, y2, _, _, _⟩ := Y1.facts
  have CE := Lib.hid (equal_any A A2 n n2 c c2 x.body y.body _ (hrx.below b1) (hry.below b1))
  have KX := hx.any.kidsP.below b1 (fun _ h => h)
  have KY := hy.any.kidsP.below b1 (fun _ h => h)
  have CF := Lib.hid (equalf_any x.kids y.kids K K2 m d m2 d2 _ ih KX KY)
  have B1 := Lib.hid b1
  clear X1 Y1 hrx hry KX KY b1 hx hy ih hmx hmy
  go_enter Tryz.func61, Tryz.ntmps61
  generalize hw2 : (w.alloc (.cells #[.int .i64 x.tag, .slice A n c, .slice K m d] 28)).alloc (.cells #[.int .i64 y.tag, .slice A2 n2 c2, .slice K2 m2 d2] 28) = w2 at *
  by_cases e1 : x.tag = y.tag
  rotate_left
  · have t1 : (x.tag == y.tag) = false := by simpa using e1
    have F : Hid (sameT x y = false) := by rw [SE.out]; simp [e1, Hid]
    clear e1 SE
    go_wp2_with fail
    go_ret
    exact ⟨ret_bool F.out.symm, B1.out⟩
  have t1 : (x.tag == y.tag) = true := by simpa using e1
  by_cases e2 : x.body = y.body
  rotate_left
  · have F : Hid (sameT x y = false) := by rw [SE.out]; simp [e2, Hid]
    have t2 : decide (x.body = y.body) = false := decide_eq_false e2
    rw [t2] at CE
    clear e1 e2 SE t2
    go_wp2_with fail
    refine CE.out.mono ?_
    rintro e w3 ⟨rfl, rfl⟩
    go_wp2_with fail
    go_ret
    exact ⟨ret_bool F.out.symm, B1.out⟩
  have F : Hid (sameT x y = ((x.kids.length == y.kids.length) && sameAll x.kids y.kids)) := by rw [SE.out]; simp [e1, e2, Hid]
  have t2 : decide (x.body = y.body) = true := decide_eq_true e2
  rw [t2] at CE
  clear e1 e2 SE t2
  go_wp2_with fail
  refine CE.out.mono ?_
  rintro e w3 ⟨rfl, rfl⟩
  go_wp2_with fail
  refine CF.out.mono ?_
  rintro e w4 ⟨rfl, hb4⟩
  have B4 := Lib.hid (B1.out.trans (hb4.mono B1.out.size))
  clear hb4 CF CE B1
  rw [← F.out]
  cases hs : sameT x y <;>
  · have HS := Lib.hid hs
    clear hs
    go_wp2_with fail
    go_ret
    exact ⟨ret_bool HS.out.symm, B4.out⟩
end Go.Proofs.YtgmefdmeeihgoaaGreatDoor
namespace Go.Proofs.YtgmefdmeeihgoaaGreatDoor
open Go.RowKit
set_option linter.unusedVariables false
set_option linter.unusedSimpArgs false
set_option maxHeartbeats 400000 in
theorem partsOf_any (v0 v1 : Value) (K : Option Addr) (m d : Nat) (w : World) : Calls Tryz.prog 53 #[.agg #[v0, v1, .slice K m d]] w fun e w' => e = .returned (.func (.func 88) #[] #[.pointer (some ⟨w.heap.size + 1, 0, none⟩)]) ∧ Blk w' (w.heap.size + 1) 26 #[.slice K m d] ∧ Below w.heap.size w w' := by
  have hmf : ∀ (fn : Fn) (first cap : Array Value) (w : World), (Instr.makeFunc fn first cap).run Tryz.prog w = .ok (.func fn first cap) w := fun _ _ _ _ => rfl
  have X1 := Blk.new w 28 #[v0, v1, .slice K m d]
  have c2 := X1.cell 2
  have B1 := Lib.hid (((Below.refl w.heap.size w).alloc (Nat.le_refl _) (.cells #[v0, v1, .slice K m d] 28)).alloc (by simp) (.cells #[.slice K m d] 26))
  have Y1 := Blk.new (w.alloc (.cells #[v0, v1, .slice K m d] 28)) 26 #[.slice K m d]
  rw [show (w.alloc (.cells #[v0, v1, .slice K m d] 28)).heap.size = w.heap.size + 1 by simp] at Y1
  have HY := Lib.hid Y1
  clear X1 Y1
  go_enter Tryz.func53, Tryz.ntmps53
  go_wp2_with fail
  go_ret
  exact ⟨rfl, HY.out, B1.out⟩
def GivesNext (P : Nat → Prop) (g : Nat) (t : T) (r : List T) (w : World) (e : Ending) (w' : World) : Prop :=
  ∃ (A : Option Addr) (n c : Nat) (K : Option Addr) (m d : Nat) (K2 : Option Addr) (m2 d2 : Nat), e = .returned (.agg #[.int .i64 t.tag, .slice A n c, .slice K m d]) ∧ t.InP P w' (.agg #[.int .i64 t.tag, .slice A n c, .slice K m d]) ∧
    Blk w' g 26 #[.slice K2 m2 d2] ∧ KidsP P w' K2 m2 d2 r ∧ w.grownBy w' (some g)
set_option maxHeartbeats 400000 in
theorem next_no (g : Nat) (K : Option Addr) (d : Nat) (w : World) (hb : Blk w g 26 #[.slice K 0 d]) : Calls Tryz.prog 88 #[.pointer (some ⟨g, 0, none⟩)] w fun e w' => e = .panicked (errP 2) ∧ Below w.heap.size w w' := by
  have A1 := (Below.refl w.heap.size w).alloc (Nat.le_refl _) (.cells #[.int .i64 0, .slice none 0 0, .slice none 0 0] 28)
  have c0 := (hb.below A1 hb.lt).cell 0
  have B1 := Lib.hid A1
  clear A1 hb
  go_enter Tryz.func88, Tryz.ntmps88
  go_wp2_with fail
  refine (demand_no _).mono ?_
  rintro e w2 ⟨rfl, rfl⟩
  go_wp2_with fail
  exact ⟨rfl, rfl, B1.out⟩
theorem next_tail {P : Nat → Prop} {w : World} {b off m d : Nat} {t : T} {r : List T} {K2 : Option Addr} (h : KidsP P w (some ⟨b, off, none⟩) (m + 1) d (t :: r)) (e : (if d = 1 then some (⟨b, off, none⟩ : Addr) else some ⟨b, off + 3, none⟩) = K2) : KidsP P w K2 m (d - 1) r := by
  obtain ⟨h1, h2, h3⟩ := h
  have hl : r.length = m := by simpa using h1
  refine ⟨hl, by unfold maxLen at h2 ⊢; omega, fun h0 => ?_⟩
  obtain ⟨b', off', e', hlt, hp, hall⟩ := h3 (by omega)
  injection e' with e'
  injection e' with e1 e2
  subst e1
  subst e2
  rw [if_neg (by omega)] at e
  unfold T.InPAll at hall
  exact ⟨b, off + 3, e.symm, hlt, hp, hall.2⟩
theorem T.InP.grownP {P : Nat → Prop} {w w' : World} {g : Nat} {t : T} {v : Value} (h : t.InP P w v) (hP : ∀ b, P b → b ≠ g) (hg : w.grownBy w' (some g)) : t.InP P w' v :=
  T.InP.keep (fun b hb hp => ⟨hp, hg.block b hb (fun e => hP b hp (by injection e))⟩) hg.size t h
theorem KidsP.grown {P : Nat → Prop} {w w' : World} {g : Nat} {K : Option Addr} {m d : Nat} {ks : List T} (h : KidsP P w K m d ks) (hP : ∀ b, P b → b ≠ g) (hg : w.grownBy w' (some g)) : KidsP P w' K m d ks :=
  (T.InP.grownP (h.node (z := 48) (by decide)) hP hg).kidsP
theorem inP_tag {P : Nat → Prop} {w : World} {t : T} {z : Int} {x y : Value} (h : t.InP P w (.agg #[.int .i64 z, x, y])) : z = t.tag := by
  obtain ⟨A, n, c, K, m, d, e⟩ := h.form
  simp only [Value.agg.injEq] at e
  have e' := congrArg Array.toList e
  simp only [List.cons.injEq, and_true, Value.int.injEq, true_and] at e'
  exact e'.1
theorem gives_next {P : Nat → Prop} {w : World} {g m d : Nat} {K K2 K' : Option Addr} {d2 n c m' d' : Nat} {A : Option Addr} {t : T} {r : List T} {tmps : Array Value} {fn : Func} {p : Tmp} (hf : fn.results = #[.cell p 28]) (hp : tmps.getD p undef = .pointer (some ⟨w.heap.size, 0, none⟩)) (hb : Blk w g 26 #[.slice K m d]) (hP : ∀ b, P b → b ≠ g) (hin : t.InP P w (.agg #[.int .i64 t.tag, .slice A n c, .slice K' m' d'])) (hk : KidsP P w K2 r.length d2 r) :
    bodyPost Tryz.prog fn (GivesNext P g t r w) .ret { tmps := tmps, defers := [] } (((w.setCell ⟨g, 0, none⟩ (.slice K2 r.length d2)).alloc (.cells #[.int .i64 t.tag, .slice A n c, .slice K' m' d'] 28)).alloc (.cells #[.int .i64 t.tag, .slice A n c, .slice K' m' d'] 28)) := by
  have hg : w.grownBy (((w.setCell ⟨g, 0, none⟩ (.slice K2 r.length d2)).alloc (.cells #[.int .i64 t.tag, .slice A n c, .slice K' m' d'] 28)).alloc (.cells #[.int .i64 t.tag, .slice A n c, .slice K' m' d'] 28)) (some g) := grown_trans (grown_trans (grown_set w g 0 _) (World.grownBy_alloc _ _ _)) (World.grownBy_alloc _ _ _)
  have h1 := (Blk.new (w.setCell ⟨g, 0, none⟩ (.slice K2 r.length d2)) 28 #[.int .i64 t.tag, .slice A n c, .slice K' m' d']).alloc (.cells #[.int .i64 t.tag, .slice A n c, .slice K' m' d'] 28)
  rw [show (w.setCell ⟨g, 0, none⟩ (.slice K2 r.length d2)).heap.size = w.heap.size by simp] at h1
  exact bodyPost_ret (results_cell_row hf _ _ w.heap.size 28 #[.int .i64 t.tag, .slice A n c, .slice K' m' d'] (0, 0) _ hp h1 Tryz.underlying28 rfl Tryz.sizeNode3) rfl ⟨A, n, c, K', m', d', K2, r.length, d2, rfl, hin.grownP hP hg, ((hb.set 0 _).alloc _).alloc _, hk.grown hP hg, hg⟩
set_option maxHeartbeats 1000000 in
theorem next_ok (P : Nat → Prop) (g : Nat) (K : Option Addr) (m d : Nat) (t : T) (r : List T) (w : World) (hP : ∀ b, P b → b ≠ g) (hb : Blk w g 26 #[.slice K m d]) (hk : KidsP P w K m d (t :: r)) : Calls Tryz.prog 88 #[.pointer (some ⟨g, 0, none⟩)] w (GivesNext P g t r w) := by
  have hm : r.length + 1 = m := by have := hk.1; simpa using this
  obtain ⟨k, b, off, z, A, n, c, K', m', d', he, rfl, p0, p1, p2, hin⟩ := hk.kid 0 (by omega)
  obtain rfl : t = k := by simpa using he
  obtain rfl := inP_tag hin
  have hd := hk.2.1.2
  have hmx := hk.2.1.1
  unfold maxLen at hmx
  subst hm
  have t0 : decide ((0 : Int) < (r.length : Int) + 1) = true := decide_eq_true (by omega)
  rw [Nat.zero_mul, Nat.add_zero] at p0 p1 p2
  have hlb := cell_block p0
  have A1 := (Below.refl w.heap.size w).alloc (Nat.le_refl _) (.cells #[.int .i64 0, .slice none 0 0, .slice none 0 0] 28)
  have c0 := (hb.below A1 hb.lt).cell 0
  have q0 := (Below.cell A1 (p := ⟨b, off, none⟩) hlb).trans p0
  have q1 := (Below.cell A1 (p := ⟨b, off + 1, none⟩) hlb).trans p1
  have q2 := (Below.cell A1 (p := ⟨b, off + 2, none⟩) hlb).trans p2
  have A2 := A1.alloc (by simp) (.cells #[.int .i64 t.tag, .slice A n c, .slice K' m' d'] 28)
  have e0 := (hb.below A2 hb.lt).cell 0
  have f0 := (hb.below A2 hb.lt).free 0
  simp only [List.getElem?_toArray, List.getElem?_cons_zero] at c0 e0
  have HB := Lib.hid hb
  have HP := Lib.hid hP
  have HK := Lib.hid hk
  have HI := Lib.hid hin
  have H2 := Lib.hid A2
  have hg := hb.lt
  obtain ⟨K2, hK2⟩ : ∃ K2 : Option Addr, (if d = 1 then some (⟨b, off, none⟩ : Addr) else some ⟨b, off + 3, none⟩) = K2 := ⟨_, rfl⟩
  have T2 := Lib.hid (next_tail hk hK2)
  have BX := Blk.new (w.alloc (.cells #[.int .i64 0, .slice none 0 0, .slice none 0 0] 28)) 28 #[.int .i64 t.tag, .slice A n c, .slice K' m' d']
  rw [show (w.alloc (.cells #[.int .i64 0, .slice none 0 0, .slice none 0 0] 28)).heap.size = w.heap.size + 1 by simp] at BX
  have BR := (Blk.new w 28 #[.int .i64 0, .slice none 0 0, .slice none 0 0]).alloc (.cells #[.int .i64 t.tag, .slice A n c, .slice K' m' d'] 28)
  obtain ⟨x0, x1, x2, _, _, _⟩ := (BX.far (by omega : w.heap.size + 1 ≠ g) 0 (.slice K2 r.length (d - 1))).facts
  obtain ⟨_, _, _, s0, s1, s2⟩ := (BR.far (by omega : w.heap.size ≠ g) 0 (.slice K2 r.length (d - 1))).facts
  have HR := Lib.hid BR
  clear hb hk hP hin A1 A2 he p0 p1 p2 BX BR
  go_enter Tryz.func88, Tryz.ntmps88
  go_wp2_with fail
  refine (demand_yes _).mono ?_
  rintro e w2 ⟨rfl, rfl⟩
  go_wp2_with fail
  exact gives_next rfl rfl HB.out HP.out HI.out T2.out
end Go.Proofs.YtgmefdmeeihgoaaGreatDoor
namespace Go.Proofs.YtgmefdmeeihgoaaGreatDoor
open Go.RowKit
set_option linter.unusedVariables false
set_option linter.unusedSimpArgs false
set_option maxHeartbeats 400000 in
theorem bytesOf_any (t : T) (v : Value) (w : World) (hin : t.In w v) (hwt : t.body.length ≤ 30000) : Calls Tryz.prog 55 #[v] w fun e w' => Below w.heap.size w w' ∧ (((ofZ t).2.2 = 0 ∧ ∃ a c, e = .returned (.slice a (ofZ t).1.length c) ∧ Row w' a (ofZ t).1.length (ofZ t).1 ∧ (a = none → c = 0) ∧ (ofZ t).1.length ≤ c) ∨ (¬ (ofZ t).2.2 = 0 ∧ e = .panicked (errP 2))) := by
  obtain ⟨A, n, c, K, m, d, rfl, _, _, _, _, _, hcc, _⟩ := hin.open
  have BX := Lib.hid (Box.start hin)
  obtain ⟨g0, g1, g2⟩ := BX.out.cells
  have CO := Lib.hid (of_any t _ _ BX.out.has (fun z A' n' c' y e => by
    simp only [Value.agg.injEq] at e
    have e' := congrArg Array.toList e
    simp only [List.cons.injEq, Value.slice.injEq] at e'
    obtain ⟨_, ⟨_, rfl, rfl⟩, _⟩ := e'
    exact hcc.2.1) hwt)
  clear hin hcc
  go_enter Tryz.func55, Tryz.ntmps55
  generalize hw1 : w.alloc (.cells #[.int .i64 t.tag, .slice A n c, .slice K m d] 28) = w1 at *
  go_wp2_with fail
  refine CO.out.mono ?_
  rintro e w2 ⟨a, c2, rfl, hr, hnil, hc2, hb2⟩
  have B2 := Lib.hid (Below.step BX.out.below hb2)
  have R2 := Lib.hid hr
  have N2 := Lib.hid hnil
  clear CO BX hb2 hr hnil g0 g1 g2
  go_wp2_with fail
  by_cases h0 : (ofZ t).2.2 = 0
  · have H0 := Lib.hid h0
    rw [h0]
    clear h0
    refine (must_bytes a _ c2 w2).mono ?_
    rintro e w3 ⟨rfl, rfl⟩
    go_wp2_with fail
    go_ret
    exact ⟨B2.out, .inl ⟨H0.out, a, c2, rfl, R2.out, N2.out, hc2⟩⟩
  · refine (must_bytes_no a _ c2 _ h0 w2).mono ?_
    rintro e w3 ⟨rfl, rfl⟩
    exact ⟨rfl, B2.out, .inr ⟨h0, rfl⟩⟩
def GrowR (g : Nat) (a b : World) : Prop := a.grownBy b (some g)
theorem GrowR.refl (g : Nat) (w : World) : GrowR g w w := ⟨rfl, rfl, rfl, Nat.le_refl _, fun _ _ _ => rfl⟩
theorem GrowR.trans {g : Nat} (a b c : World) (h : GrowR g a b) (k : GrowR g b c) : GrowR g a c := grown_trans h k
theorem GrowR.below {g : Nat} {a b : World} (h : Below a.heap.size a b) : GrowR g a b := ⟨h.os, h.tape, h.output, h.size, fun i hi _ => h.block i hi⟩
theorem GrowR.cell {g b o : Nat} {wr W : World} {v : Value} (hW : GrowR g wr.drew W) (hne : b ≠ g) (h : wr.cell? ⟨b, o, none⟩ = some v) : W.cell? ⟨b, o, none⟩ = some v := by
  have hb : b < wr.heap.size := cell_block h
  have := hW.block b hb (fun e => hne (by injection e))
  rw [← h]
  simp only [World.cell?, this]
  rfl
def GivesOpened (P : Nat → Prop) (x : T) (w : World) (e : Ending) (w' : World) : Prop := Below w.heap.size w w' ∧
  ((openedZ x = .error 2 ∧ e = .panicked (errP 2)) ∨
   (∃ (n : T) (said sig : List Int) (A : Option Addr) (nn c : Nat) (K : Option Addr) (m d : Nat) (a1 : Option Addr) (c1 : Nat) (a2 : Option Addr) (c2 : Nat), openedZ x = .ok (n, said, sig) ∧ e = .returned (.agg #[.int .i64 n.tag, .slice A nn c, .slice K m d, .slice a1 said.length c1, .slice a2 sig.length c2]) ∧
      n.InP P w' (.agg #[.int .i64 n.tag, .slice A nn c, .slice K m d]) ∧ Row w' a1 said.length said ∧ (a1 = none → c1 = 0) ∧ Row w' a2 sig.length sig ∧ (a2 = none → c2 = 0)))
theorem of_len (t : T) : (ofZ t).1.length ≤ t.body.length := by
  unfold ofZ
  split
  · simp
  · split
    · simp only [List.length_drop]
      omega
    · simp
theorem row_off {W : World} {a : Option Addr} {n : Nat} {zs : List Int} {g : Nat} {ty : TypeId} {cs : Array Value} (hr : Row W a n zs) (hb : Blk W g ty cs) (hcs : ∀ (j : Nat) (x : Int), cs[j]? ≠ some (.int .u8 x)) : 0 < n → ∃ b off, a = some ⟨b, off, none⟩ ∧ b ≠ g := by
  intro h0
  obtain ⟨b, off, e, hlt, hcell⟩ := hr.2.2 h0
  refine ⟨b, off, e, fun hbg => ?_⟩
  subst hbg
  exact hcs _ _ ((hb.cell (off + 0)).symm.trans (hcell 0 h0))
structure OP (P : Nat → Prop) (w wr : World) (g : Nat) (x : T) (A : Option Addr) (nb c : Nat) (K : Option Addr) (m d : Nat) : Prop where
  off : ∀ b, P b → b < w.heap.size
  far : w.heap.size + 1 < g
  box : Blk wr w.heap.size 28 #[.int .i64 x.tag, .slice A nb c, .slice K m d]
  res : Blk wr (w.heap.size + 1) 65 #[.int .i64 0, .slice none 0 0, .slice none 0 0, .slice none 0 0, .slice none 0 0]
  below : Below w.heap.size w wr
  has : x.InP P wr (.agg #[.int .i64 x.tag, .slice A nb c, .slice K m d])
theorem OP.grow {P : Nat → Prop} {w wr w' : World} {g : Nat} {x : T} {A : Option Addr} {nb c : Nat} {K : Option Addr} {m d : Nat} (h : OP P w wr g x A nb c K m d) (hg : GrowR g wr w') : OP P w w' g x A nb c K m d :=
  ⟨h.off, h.far, h.box.grown hg (by have := h.far; omega), h.res.grown hg (by have := h.far; omega), h.below.trans (grown_below hg _ (by have := h.far; omega) h.below.size), h.has.grownP (fun b hb => by have := h.off b hb; have := h.far; omega) hg⟩
structure ON (P : Nat → Prop) (wr : World) (g gn : Nat) (n : T) (A : Option Addr) (nb c : Nat) (K : Option Addr) (m d : Nat) : Prop where
  off : ∀ b, P b → b ≠ g
  ne : gn ≠ g
  blk : Blk wr gn 28 #[.int .i64 n.tag, .slice A nb c, .slice K m d]
  has : n.InP P wr (.agg #[.int .i64 n.tag, .slice A nb c, .slice K m d])
theorem ON.grow {P : Nat → Prop} {wr w' : World} {g gn : Nat} {n : T} {A : Option Addr} {nb c : Nat} {K : Option Addr} {m d : Nat} (h : ON P wr g gn n A nb c K m d) (hg : GrowR g wr w') : ON P w' g gn n A nb c K m d :=
  ⟨h.off, h.ne, h.blk.grown hg h.ne, h.has.grownP h.off hg⟩
theorem five_grow (g : Nat) (W : World) (a b c d e : Value) : GrowR g W (((((W.setCell ⟨g, 0, none⟩ a).setCell ⟨g, 1, none⟩ b).setCell ⟨g, 2, none⟩ c).setCell ⟨g, 3, none⟩ d).setCell ⟨g, 4, none⟩ e) :=
  grown_trans (grown_trans (grown_trans (grown_trans (grown_set W g 0 a) (grown_set _ g 1 b)) (grown_set _ g 2 c)) (grown_set _ g 3 d)) (grown_set _ g 4 e)
theorem row_grown {w w' : World} {g : Nat} {a : Option Addr} {n : Nat} {zs : List Int} (h : Row w a n zs) (hne : 0 < n → ∃ b off, a = some ⟨b, off, none⟩ ∧ b ≠ g) (hg : w.grownBy w' (some g)) : Row w' a n zs := by
  refine ⟨h.1, h.2.1, fun h0 => ?_⟩
  obtain ⟨b, off, e, hlt, hcell⟩ := h.2.2 h0
  obtain ⟨b', off', e', hb⟩ := hne h0
  rw [e] at e'
  obtain ⟨rfl, rfl⟩ : b = b' ∧ off = off' := by simpa using e'
  refine ⟨b, off, e, Nat.lt_of_lt_of_le hlt hg.size, fun i hi => ?_⟩
  rw [← hcell i hi]
  simp only [World.cell?, hg.block b hlt (fun e => hb (by injection e))]
theorem opened_zeros : ∀ (j : Nat) (x : Int), (#[Value.int .i64 0, .slice none 0 0, .slice none 0 0, .slice none 0 0, .slice none 0 0] : Array Value)[j]? ≠ some (.int .u8 x) := by
  intro j x h
  rcases j with _ | _ | _ | _ | _ | j <;> simp at h
theorem Tryz.sizeOpened : (Tryz.prog.info? 65).map (·.size) = some 5 := by kernel_rfl
theorem gives_opened {P : Nat → Prop} {w W : World} {tmps : Array Value} {fn : Func} {p : Tmp} {g : Nat} {x n : T} {said sig : List Int} {A : Option Addr} {nn c : Nat} {K : Option Addr} {m d : Nat} {a1 : Option Addr} {c1 : Nat} {a2 : Option Addr} {c2 : Nat} (hf : fn.results = #[.cell p 65]) (hp : tmps.getD p undef = .pointer (some ⟨g, 0, none⟩)) (hblk : Blk W g 65 #[.int .i64 0, .slice none 0 0, .slice none 0 0, .slice none 0 0, .slice none 0 0]) (hg : w.heap.size ≤ g) (hb : Below w.heap.size w W)
    (ho : openedZ x = .ok (n, said, sig)) (hP : ∀ b, P b → b ≠ g) (hin : n.InP P W (.agg #[.int .i64 n.tag, .slice A nn c, .slice K m d])) (h1 : Row W a1 said.length said) (n1 : a1 = none → c1 = 0) (h2 : Row W a2 sig.length sig) (n2 : a2 = none → c2 = 0) :
    bodyPost Tryz.prog fn (GivesOpened P x w) .ret { tmps := tmps, defers := [] } (((((W.setCell ⟨g, 0, none⟩ (.int .i64 n.tag)).setCell ⟨g, 1, none⟩ (.slice A nn c)).setCell ⟨g, 2, none⟩ (.slice K m d)).setCell ⟨g, 3, none⟩ (.slice a1 said.length c1)).setCell ⟨g, 4, none⟩ (.slice a2 sig.length c2)) := by
  have hG := five_grow g W (.int .i64 n.tag) (.slice A nn c) (.slice K m d) (.slice a1 said.length c1) (.slice a2 sig.length c2)
  have hB := ((((hblk.set 0 (.int .i64 n.tag)).set 1 (.slice A nn c)).set 2 (.slice K m d)).set 3 (.slice a1 said.length c1)).set 4 (.slice a2 sig.length c2)
  exact bodyPost_ret (results_cell_row hf _ _ g 65 #[.int .i64 n.tag, .slice A nn c, .slice K m d, .slice a1 said.length c1, .slice a2 sig.length c2] (0, 0) _ hp hB Tryz.underlying65 rfl Tryz.sizeOpened) rfl
    ⟨hb.trans (grown_below hG _ hg hb.size), .inr ⟨n, said, sig, A, nn, c, K, m, d, a1, c1, a2, c2, ho, rfl, hin.grownP hP hG, row_grown h1 (row_off h1 hblk opened_zeros) hG, n1, row_grown h2 (row_off h2 hblk opened_zeros) hG, n2⟩⟩
theorem opened_nil {x : T} (h : x.kids = []) : openedZ x = .error 2 := by unfold openedZ; rw [h]
theorem opened_one {x n : T} (h : x.kids = [n]) : openedZ x = .error 2 := by unfold openedZ; rw [h]
theorem opened_two {x n a : T} (h : x.kids = [n, a]) : openedZ x = .error 2 := by unfold openedZ; rw [h]
theorem opened_more {x n a s : T} {r : List T} (h : x.kids = n :: a :: s :: r) : openedZ x = if (ofZ s).2.2 = 0 ∧ sameT (sealT n (ofZ s).1) x = true then .ok (n, (writeZ n).1, (ofZ s).1) else .error 2 := by unfold openedZ; rw [h]
set_option maxHeartbeats 2000000 in
theorem openedOf_any (P : Nat → Prop) (x : T) (v : Value) (w : World) (hP : ∀ b, P b → b < w.heap.size) (hin : x.InP P w v) (hwt : wt x < 30000) (hwr : ∀ k ∈ x.kids, (writeZ k).2 = 0) : Calls Tryz.prog 38 #[v] w (GivesOpened P x w) := by
  obtain ⟨A, nb, c, K, m, d, rfl⟩ := hin.form
  have BX := Lib.hid (Box.start (T.InP.in _ hin))
  have I0 := Lib.hid hin
  have HP := Lib.hid hP
  have b1 : Below w.heap.size w ((w.alloc (.cells #[.int .i64 x.tag, .slice A nb c, .slice K m d] 28)).alloc (.cells #[.int .i64 0, .slice none 0 0, .slice none 0 0, .slice none 0 0, .slice none 0 0] 65)) := ((Below.refl _ _).alloc (Nat.le_refl _) _).alloc (by simp) _
  have S0 := Blk.new (w.alloc (.cells #[.int .i64 x.tag, .slice A nb c, .slice K m d] 28)) 65 #[.int .i64 0, .slice none 0 0, .slice none 0 0, .slice none 0 0, .slice none 0 0]
  have X0 := (BX.out.blk.alloc (.cells #[.int .i64 0, .slice none 0 0, .slice none 0 0, .slice none 0 0, .slice none 0 0] 65))
  rw [show (w.alloc (.cells #[.int .i64 x.tag, .slice A nb c, .slice K m d] 28)).heap.size = w.heap.size + 1 by simp] at S0
  have B1 := Lib.hid b1
  have S1 := Lib.hid S0
  have X1 := Lib.hid X0
  obtain ⟨g0, g1, g2, _, _, _⟩ := X0.facts
  clear b1 S0 X0 BX hin hP
  go_enter Tryz.func38, Tryz.ntmps38
  go_wp2_with fail
  generalize (w.alloc (.cells #[.int .i64 x.tag, .slice A nb c, .slice K m d] 28)).alloc (.cells #[.int .i64 0, .slice none 0 0, .slice none 0 0, .slice none 0 0, .slice none 0 0] 65) = w2 at *
  have hsz : Hid (w.heap.size + 1 < w2.heap.size) := S1.out.lt
  refine (partsOf_any _ _ K m d w2).mono ?_
  rintro e w3 ⟨rfl, hg3, hb3⟩
  have X3 := X1.out.below hb3 (by have := hsz.out; omega)
  have S3 := S1.out.below hb3 hsz.out
  have B3 := B1.out.trans (hb3.mono B1.out.size)
  obtain ⟨g, hg⟩ : ∃ g, w2.heap.size + 1 = g := ⟨_, rfl⟩
  rw [hg] at hg3
  rw [hg]
  have hgs : w.heap.size + 1 < g := by have := hsz.out; omega
  have P3 := Lib.hid (OP.mk HP.out hgs X3 S3 B3 (T.InP.below B3 (fun _ h => h) _ I0.out))
  have HO : Hid (∀ b, P b → b ≠ g) := Lib.hid (fun b hb => by have := HP.out b hb; have := P3.out.far; omega)
  have HR : Hid (∀ b, P b → b ≠ w.heap.size + 1) := Lib.hid (fun b hb => by have := HP.out b hb; omega)
  have KK := P3.out.has.kidsP
  clear HP
  clear hg hb3 X1 S1 B1 hsz g0 g1 g2 I0 X3 S3 B3 hgs
  rcases hks : x.kids with _ | ⟨n, ks⟩
  · have F := Lib.hid (opened_nil hks)
    rw [hks] at KK
    obtain rfl : m = 0 := KK.1.symm
    have CN := Lib.hid (next_no g K d w3 hg3)
    clear hks KK hg3
    go_wp2_with fail
    refine CN.out.mono ?_
    rintro e w4 ⟨rfl, hb4⟩
    exact ⟨rfl, (P3.out.grow (GrowR.below hb4)).below, .inl ⟨F.out, rfl⟩⟩
  rw [hks] at KK
  have CN := Lib.hid (next_ok _ g K m d n ks w3 HO.out hg3 KK)
  have HK := Lib.hid hks
  clear hks KK hg3
  go_wp2_with fail
  refine CN.out.mono ?_
  rintro e w4 ⟨An, nn, cn, Kn, mn, dn, K2, m2, d2, rfl, hin4, hg4, hk4, hgr4⟩
  have A5 : GrowR g w4 (w4.alloc (.cells #[.int .i64 n.tag, .slice An nn cn, .slice Kn mn dn] 28)) := World.grownBy_alloc _ _ _
  have P5 := Lib.hid (P3.out.grow (GrowR.trans _ _ _ hgr4 A5))
  have L0 : w4.heap.size ≠ g := by have := hg4.lt; omega
  have N5 := Lib.hid (ON.mk HO.out L0 (Blk.new w4 28 #[.int .i64 n.tag, .slice An nn cn, .slice Kn mn dn]) (hin4.grownP HO.out A5))
  have G5 := hg4.alloc (.cells #[.int .i64 n.tag, .slice An nn cn, .slice Kn mn dn] 28)
  have K5 := hk4.grown HO.out A5
  have L4 : g < w4.heap.size := hg4.lt
  clear CN P3 hin4 hg4 hk4 hgr4 A5
  go_wp2_with fail
  generalize hn4 : w4.heap.size = gn at *
  generalize w4.alloc (.cells #[.int .i64 n.tag, .slice An nn cn, .slice Kn mn dn] 28) = w5 at *
  have LG : Hid (gn ≠ w.heap.size + 1) := by have := P5.out.far; have := L4; show gn ≠ _; omega
  clear hn4 L4
  rcases ks with _ | ⟨a, ks⟩
  · have F := Lib.hid (opened_one HK.out)
    obtain rfl : m2 = 0 := K5.1.symm
    refine (next_no g K2 d2 w5 G5).mono ?_
    rintro e w6 ⟨rfl, hb6⟩
    exact ⟨rfl, (P5.out.grow (GrowR.below hb6)).below, .inl ⟨F.out, rfl⟩⟩
  refine (next_ok _ g K2 m2 d2 a ks w5 HO.out G5 K5).mono ?_
  rintro e w6 ⟨Aa, na, ca, Ka, ma, da, K3, m3, d3, rfl, hin6, hg6, hk6, hgr6⟩
  have P6 := Lib.hid (P5.out.grow hgr6)
  have N6 := Lib.hid (N5.out.grow hgr6)
  have G6 := Lib.hid hg6
  have K6 := Lib.hid hk6
  clear P5 N5 G5 K5 hin6 hg6 hk6 hgr6
  go_wp2_with fail
  rcases ks with _ | ⟨s, ks⟩
  · have F := Lib.hid (opened_two HK.out)
    obtain rfl : m3 = 0 := K6.out.1.symm
    refine (next_no g K3 d3 w6 G6.out).mono ?_
    rintro e w7 ⟨rfl, hb7⟩
    exact ⟨rfl, (P6.out.grow (GrowR.below hb7)).below, .inl ⟨F.out, rfl⟩⟩
  refine (next_ok _ g K3 m3 d3 s ks w6 HO.out G6.out K6.out).mono ?_
  rintro e w7 ⟨As, ns, cs, Ks, ms, ds, K4, m4, d4, rfl, hin7, hg7, hk7, hgr7⟩
  have P7 := Lib.hid (P6.out.grow hgr7)
  have N7 := Lib.hid (N6.out.grow hgr7)
  have F := Lib.hid (opened_more HK.out)
  have hmem : s ∈ x.kids := by rw [HK.out]; simp
  have hnm : n ∈ x.kids := by rw [HK.out]; simp
  have W0 := Lib.hid (hwr n hnm)
  have hwn : wt n < 30000 := by have := wt_kid hnm; omega
  have hbody : s.body.length ≤ 30000 := by have h1 := wt_kid hmem; have h2 := wt_eq s; have h3 := wtAll_pos s.kids; omega
  have CB := Lib.hid (bytesOf_any s _ w7 (T.InP.in _ hin7) hbody)
  clear P6 N6 G6 K6 hin7 hg7 hk7 hgr7 HK hmem hnm hwr
  go_wp2_with fail
  refine CB.out.mono ?_
  rintro e w8 ⟨hb8, hways⟩
  have P8 := Lib.hid (P7.out.grow (GrowR.below hb8))
  have N8 := Lib.hid (N7.out.grow (GrowR.below hb8))
  clear CB P7 N7 hb8
  rcases hways with ⟨h0, a8, c8, rfl, hr8, hn8, hc8⟩ | ⟨h0, rfl⟩
  rotate_left
  · have F2 : Hid (openedZ x = .error 2) := by rw [F.out]; exact if_neg (fun h => h0 h.1)
    exact ⟨rfl, P8.out.below, .inl ⟨F2.out, rfl⟩⟩
  have F2 : Hid (openedZ x = if sameT (sealT n (ofZ s).1) x = true then .ok (n, (writeZ n).1, (ofZ s).1) else .error 2) := by rw [F.out]; simp [h0, Hid]
  have hsl : (ofZ s).1.length ≤ 30000 := Nat.le_trans (of_len s) hbody
  clear h0 F hbody
  generalize (ofZ s).1 = sig at *
  have R8 := Lib.hid hr8
  have M8 := Lib.hid hn8
  clear hr8 hn8
  have IN := Lib.hid (T.InP.in _ N8.out.has)
  have IX := Lib.hid (T.InP.in _ P8.out.has)
  have CS := Lib.hid (fun W (hW : Below w8.heap.size w8 W) => sealed_any n _ a8 sig.length c8 sig W (T.In.below hW n IN.out) (R8.out.below hW) (by omega) M8.out)
  have l0 : ∀ W, GrowR (w.heap.size + 1) w8.drew W → W.cell? ⟨gn, 0, none⟩ = some (.int .i64 n.tag) := fun W hW => GrowR.cell hW LG.out (N8.out.blk.cell 0)
  have l1 : ∀ W, GrowR (w.heap.size + 1) w8.drew W → W.cell? ⟨gn, 1, none⟩ = some (.slice An nn cn) := fun W hW => GrowR.cell hW LG.out (N8.out.blk.cell 1)
  have l2 : ∀ W, GrowR (w.heap.size + 1) w8.drew W → W.cell? ⟨gn, 2, none⟩ = some (.slice Kn mn dn) := fun W hW => GrowR.cell hW LG.out (N8.out.blk.cell 2)
  have k0 : ∀ W, GrowR (w.heap.size + 1) w8.drew W → W.cell? ⟨w.heap.size, 0, none⟩ = some (.int .i64 x.tag) := fun W hW => GrowR.cell hW (by omega) (P8.out.box.cell 0)
  have k1 : ∀ W, GrowR (w.heap.size + 1) w8.drew W → W.cell? ⟨w.heap.size, 1, none⟩ = some (.slice A nb c) := fun W hW => GrowR.cell hW (by omega) (P8.out.box.cell 1)
  have k2 : ∀ W, GrowR (w.heap.size + 1) w8.drew W → W.cell? ⟨w.heap.size, 2, none⟩ = some (.slice K m d) := fun W hW => GrowR.cell hW (by omega) (P8.out.box.cell 2)
  go_wp2_with fail
  refine wp_region_ord (GrowR (w.heap.size + 1)) (GrowR.refl _) GrowR.trans ((0, false) :: (1, false) :: (3, false) :: (2, true) :: (4, true) :: (5, true) :: []) (by kernel_rfl) (by kernel_rfl) rfl (by kernel_rfl) (fun _ _ _ _ _ h => h) ?_
  repeat (refine ord_take _ rfl (by rfl) (fun W hW => by go_simp; first | done | rfl) ?_; simp only [Act.put, List.setIfInBounds_toArray, List.set_cons_zero, List.set_cons_succ])
  clear l0 l1 l2 k0 k1 k2
  refine ord_sole rfl (by rfl) (fun K1 hK1 => ?_)
  go_simp
  refine (CS.out w8.drew (Below.refl _ _).drew).mono ?_
  rintro e w9 ⟨A9, n9, c9, K9, m9, d9, rfl, hin9, hb9⟩
  refine hK1 _ _ (GrowR.below hb9) ?_
  have E9 : Below w8.heap.size w8 w9 := Ext.of_drew hb9
  have CE := Lib.hid (eqT_any (sealT n sig) x _ _ w9 hin9 (T.In.below E9 x IX.out))
  have P9 := Lib.hid (P8.out.grow (GrowR.below E9))
  have N9 := Lib.hid (N8.out.grow (GrowR.below E9))
  have R9 := Lib.hid (R8.out.below E9)
  clear hK1 K1 CS hb9 hin9 E9 P8 N8 R8 IN IX
  refine ord_sole rfl (by rfl) (fun K1 hK1 => ?_)
  go_simp
  refine CE.out.mono ?_
  rintro e w10 ⟨rfl, hb10⟩
  refine hK1 _ _ (GrowR.below hb10) ?_
  have P10 := Lib.hid (P9.out.grow (GrowR.below hb10))
  have N10 := Lib.hid (N9.out.grow (GrowR.below hb10))
  have R10 := Lib.hid (R9.out.below hb10)
  clear hK1 K1 CE hb10 P9 N9 R9
  refine ord_sole rfl (by rfl) (fun K1 hK1 => ?_)
  go_simp
  refine (demand_any _ w10).mono ?_
  rintro e w11 ⟨rfl, ⟨hb, rfl⟩ | ⟨hb, rfl⟩⟩
  rotate_left
  · have F3 : Hid (openedZ x = .error 2) := by rw [F2.out, hb]; rfl
    exact ⟨rfl, P10.out.below, .inl ⟨F3.out, rfl⟩⟩
  refine hK1 _ _ (GrowR.refl _ _) ?_
  have F3 : Hid (openedZ x = .ok (n, (writeZ n).1, sig)) := by rw [F2.out, hb]; rfl
  clear hK1 K1 hb F2
  refine ord_end ?_
  go_wp2_with fail
  have l0 : ∀ W, GrowR (w.heap.size + 1) w11.drew W → W.cell? ⟨gn, 0, none⟩ = some (.int .i64 n.tag) := fun W hW => GrowR.cell hW LG.out (N10.out.blk.cell 0)
  have l1 : ∀ W, GrowR (w.heap.size + 1) w11.drew W → W.cell? ⟨gn, 1, none⟩ = some (.slice An nn cn) := fun W hW => GrowR.cell hW LG.out (N10.out.blk.cell 1)
  have l2 : ∀ W, GrowR (w.heap.size + 1) w11.drew W → W.cell? ⟨gn, 2, none⟩ = some (.slice Kn mn dn) := fun W hW => GrowR.cell hW LG.out (N10.out.blk.cell 2)
  refine wp_region_ord (GrowR (w.heap.size + 1)) (GrowR.refl _) GrowR.trans ((0, false) :: (1, false) :: (6, false) :: (2, true) :: (3, false) :: (4, false) :: (5, true) :: (7, false) :: (8, true) :: []) (by kernel_rfl) (by kernel_rfl) rfl (by kernel_rfl) (fun _ _ _ _ _ h => h) ?_
  repeat (refine ord_take _ rfl (by rfl) (fun W hW => by go_simp; first | done | rfl) ?_; simp only [Act.put, List.setIfInBounds_toArray, List.set_cons_zero, List.set_cons_succ])
  clear l0 l1 l2
  have CW := Lib.hid (twrite_big n _ w11.drew (T.In.below (w := w11) (Below.refl _ _).drew n (T.InP.in _ N10.out.has)) (by omega))
  refine ord_sole rfl (by rfl) (fun K1 hK1 => ?_)
  go_simp
  refine CW.out.mono ?_
  rintro e w12 ⟨a12, c12, rfl, hr12, hn12, hb12, _⟩
  refine hK1 _ _ (GrowR.below hb12) ?_
  have E12 : Below w11.heap.size w11 w12 := Ext.of_drew hb12
  have P12 := Lib.hid (P10.out.grow (GrowR.below E12))
  have N12 := Lib.hid (N10.out.grow (GrowR.below E12))
  have R12 := Lib.hid (R10.out.below E12)
  have Q12 := Lib.hid hr12
  have V12 := Lib.hid hn12
  clear hK1 K1 CW hb12 E12 P10 N10 R10 hr12 hn12
  rw [W0.out]
  repeat (refine ord_take _ rfl (by rfl) (fun W hW => by go_simp; first | done | rfl) ?_; simp only [Act.put, List.setIfInBounds_toArray, List.set_cons_zero, List.set_cons_succ])
  refine ord_sole rfl (by rfl) (fun K1 hK1 => ?_)
  go_simp
  refine (must_bytes a12 _ c12 w12).mono ?_
  rintro e w13 ⟨rfl, rfl⟩
  refine hK1 _ _ (GrowR.refl _ _) ?_
  clear hK1 K1
  repeat (refine ord_take _ rfl (by rfl) (fun W hW => by go_simp; first | done | rfl) ?_; simp only [Act.put, List.setIfInBounds_toArray, List.set_cons_zero, List.set_cons_succ])
  have s0 := P12.out.res.cell 0
  have s1 := P12.out.res.cell 1
  have s2 := P12.out.res.cell 2
  have s3 := P12.out.res.cell 3
  have s4 := P12.out.res.cell 4
  have f0 := P12.out.res.free 0
  have f1 := P12.out.res.free 1
  have f2 := P12.out.res.free 2
  have f3 := P12.out.res.free 3
  have f4 := P12.out.res.free 4
  refine ord_sole rfl (by rfl) (fun K1 hK1 => ?_)
  go_simp
  refine hK1 _ _ (five_grow _ _ _ _ _ _ _) ?_
  clear hK1 K1 s0 s1 s2 s3 s4 f0 f1 f2 f3 f4
  refine ord_end ?_
  go_wp2_with fail
  exact gives_opened rfl rfl P12.out.res (Nat.le_succ _) P12.out.below F3.out HR.out N12.out.has Q12.out V12.out R12.out M8.out
end Go.Proofs.YtgmefdmeeihgoaaGreatDoor
namespace Go.Proofs.YtgmefdmeeihgoaaGreatDoor
open Go.RowKit
set_option linter.unusedVariables false
set_option linter.unusedSimpArgs false
def caughtO (w : World) (p q : Nat) : World := (((((((w.alloc (.cells #[.int .i64 0, .slice none 0 0, .slice none 0 0, .slice none 0 0, .slice none 0 0] 65)).setCell ⟨p, 0, none⟩ (.int .i64 0)).setCell ⟨p, 1, none⟩ (.slice none 0 0)).setCell ⟨p, 2, none⟩ (.slice none 0 0)).setCell ⟨p, 3, none⟩ (.slice none 0 0)).setCell ⟨p, 4, none⟩ (.slice none 0 0)).setCell ⟨q, 0, none⟩ (.int .i64 2))
theorem Blk.five {w : World} {g : Nat} {t : TypeId} {a b c d e : Value} (h : Blk w g t #[a, b, c, d, e]) : w.cell? ⟨g, 0, none⟩ = some a ∧ w.cell? ⟨g, 1, none⟩ = some b ∧ w.cell? ⟨g, 2, none⟩ = some c ∧ w.cell? ⟨g, 3, none⟩ = some d ∧ w.cell? ⟨g, 4, none⟩ = some e ∧ w.frozen? ⟨g, 0, none⟩ = false ∧ w.frozen? ⟨g, 1, none⟩ = false ∧ w.frozen? ⟨g, 2, none⟩ = false ∧ w.frozen? ⟨g, 3, none⟩ = false ∧ w.frozen? ⟨g, 4, none⟩ = false :=
  ⟨h.cell 0, h.cell 1, h.cell 2, h.cell 3, h.cell 4, h.free 0, h.free 1, h.free 2, h.free 3, h.free 4⟩
set_option maxHeartbeats 1000000 in
theorem ocatch_panicking (p q : Nat) (y : Int) (a b c d x : Value) (w : World) (hp : Blk w p 65 #[a, b, c, d, x]) (hq : Blk w q 32 #[.int .i64 y]) (hne : q ≠ p) :
    CallsD Tryz.prog 69 #[.pointer (some ⟨p, 0, none⟩), .pointer (some ⟨q, 0, none⟩)] (.panicking (errP 2)) w fun e u' w' =>
      e = .returned (.tuple #[]) ∧ u' = .panicking [{ v := .iface 32 (.int .i64 2), recovered := true }] ∧ w' = caughtO w p q := by
  have hp2 := hp.alloc (.cells #[.int .i64 0, .slice none 0 0, .slice none 0 0, .slice none 0 0, .slice none 0 0] 65)
  have hq2 := hq.alloc (.cells #[.int .i64 0, .slice none 0 0, .slice none 0 0, .slice none 0 0, .slice none 0 0] 65)
  obtain ⟨p0, p1, p2, p3, p4, f0, f1, f2, f3, f4⟩ := hp2.five
  have q0 := hq2.cell 0
  have g0 := hq2.free 0
  simp only [List.getElem?_toArray, List.getElem?_cons_zero] at q0
  refine callsD_of_wpS Tryz.func69 rfl fun c₀ cs hu => ?_
  unfold errP at hu
  apply wpS_seq
  apply wpS_region
  simp [wpOpsS, go_sem, recoverD, hu, Tryz.ntmps69, Exit.thenS]
  refine wpS_of_wp ?_
  change Code.wp Tryz.prog _ _ ⟨#[.pointer (some ⟨p, 0, none⟩), .pointer (some ⟨q, 0, none⟩), undef, .iface 32 (.int .i64 2), .bool true, undef], []⟩ w
  go_wp2_with fail
  exact ⟨rfl, _, rfl, .tuple #[], by simp [results, Tryz.results69], rfl, rfl, rfl⟩
set_option maxHeartbeats 1000000 in
theorem ocatch_idle (p q : Nat) (w : World) :
    CallsD Tryz.prog 69 #[.pointer (some ⟨p, 0, none⟩), .pointer (some ⟨q, 0, none⟩)] .returning w fun e u' w' => e = .returned (.tuple #[]) ∧ u' = .returning ∧ w' = w := by
  refine callsD_of_wpS Tryz.func69 rfl fun c₀ cs hu => ?_
  apply wpS_seq
  apply wpS_region
  simp [wpOpsS, go_sem, recoverD, hu, Tryz.ntmps69, Exit.thenS]
  refine wpS_of_wp ?_
  change Code.wp Tryz.prog _ _ ⟨#[.pointer (some ⟨p, 0, none⟩), .pointer (some ⟨q, 0, none⟩), undef, .nilIface, .bool false, undef], []⟩ w
  go_wp2_with fail
  refine ⟨rfl, .returning, ?_, .tuple #[], by simp [results, Tryz.results69], rfl, rfl, rfl⟩
  cases c₀
  simp_all
theorem caught_open {w : World} {p q : Nat} {y : Int} {a b c d x : Value} (hp : Blk w p 65 #[a, b, c, d, x]) (hq : Blk w q 32 #[.int .i64 y]) (hne : q ≠ p) :
    Blk (caughtO w p q) p 65 #[.int .i64 0, .slice none 0 0, .slice none 0 0, .slice none 0 0, .slice none 0 0] ∧ Blk (caughtO w p q) q 32 #[.int .i64 2] ∧ ∀ B, B ≤ p → B ≤ q → B ≤ w.heap.size → Below B w (caughtO w p q) := by
  have hp2 := hp.alloc (.cells #[.int .i64 0, .slice none 0 0, .slice none 0 0, .slice none 0 0, .slice none 0 0] 65)
  have hq2 := hq.alloc (.cells #[.int .i64 0, .slice none 0 0, .slice none 0 0, .slice none 0 0, .slice none 0 0] 65)
  refine ⟨(((((hp2.set 0 _).set 1 _).set 2 _).set 3 _).set 4 _).far (Ne.symm hne) 0 _, (((((hq2.far hne 0 _).far hne 1 _).far hne 2 _).far hne 3 _).far hne 4 _).set 0 _, fun B h1 h2 h3 => ?_⟩
  exact (((((((Below.refl B w).alloc h3 _).setCell h1 _).setCell h1 _).setCell h1 _).setCell h1 _).setCell h1 _).setCell h2 _
theorem errno_zero : ∀ (j : Nat) (x : Int), (#[Value.int .i64 0] : Array Value)[j]? ≠ some (.int .u8 x) := by
  intro j x h
  rcases j with _ | j <;> simp at h
theorem stored_open {w : World} {p q B : Nat} (hp : Blk w p 65 #[.int .i64 0, .slice none 0 0, .slice none 0 0, .slice none 0 0, .slice none 0 0]) (hq : Blk w q 32 #[.int .i64 0]) (hne : q ≠ p) (h1 : B ≤ p) (h2 : B ≤ q) (h3 : B ≤ w.heap.size) (a b c d e : Value) :
    Blk ((((((w.setCell ⟨p, 0, none⟩ a).setCell ⟨p, 1, none⟩ b).setCell ⟨p, 2, none⟩ c).setCell ⟨p, 3, none⟩ d).setCell ⟨p, 4, none⟩ e).setCell ⟨q, 0, none⟩ (.int .i64 0)) p 65 #[a, b, c, d, e] ∧
    Blk ((((((w.setCell ⟨p, 0, none⟩ a).setCell ⟨p, 1, none⟩ b).setCell ⟨p, 2, none⟩ c).setCell ⟨p, 3, none⟩ d).setCell ⟨p, 4, none⟩ e).setCell ⟨q, 0, none⟩ (.int .i64 0)) q 32 #[.int .i64 0] ∧
    Below B w ((((((w.setCell ⟨p, 0, none⟩ a).setCell ⟨p, 1, none⟩ b).setCell ⟨p, 2, none⟩ c).setCell ⟨p, 3, none⟩ d).setCell ⟨p, 4, none⟩ e).setCell ⟨q, 0, none⟩ (.int .i64 0)) ∧
    ∀ (P : Nat → Prop) (n : T) (v : Value), (∀ b, P b → b ≠ p ∧ b ≠ q) → (n.InP P w v → n.InP P ((((((w.setCell ⟨p, 0, none⟩ a).setCell ⟨p, 1, none⟩ b).setCell ⟨p, 2, none⟩ c).setCell ⟨p, 3, none⟩ d).setCell ⟨p, 4, none⟩ e).setCell ⟨q, 0, none⟩ (.int .i64 0)) v) ∧
      ∀ (r : Option Addr) (k : Nat) (zs : List Int), Row w r k zs → Row ((((((w.setCell ⟨p, 0, none⟩ a).setCell ⟨p, 1, none⟩ b).setCell ⟨p, 2, none⟩ c).setCell ⟨p, 3, none⟩ d).setCell ⟨p, 4, none⟩ e).setCell ⟨q, 0, none⟩ (.int .i64 0)) r k zs := by
  have G5 := five_grow p w a b c d e
  have hqf := ((((hq.far hne 0 a).far hne 1 b).far hne 2 c).far hne 3 d).far hne 4 e
  have G6 := grown_set (((((w.setCell ⟨p, 0, none⟩ a).setCell ⟨p, 1, none⟩ b).setCell ⟨p, 2, none⟩ c).setCell ⟨p, 3, none⟩ d).setCell ⟨p, 4, none⟩ e) q 0 (.int .i64 0)
  refine ⟨(((((hp.set 0 a).set 1 b).set 2 c).set 3 d).set 4 e).far (Ne.symm hne) 0 _, hqf.set 0 _, (grown_below G5 B h1 h3).trans (grown_below G6 B h2 (by have := G5.size; omega)), fun P n v hP => ⟨fun hin => ?_, fun r k zs hr => ?_⟩⟩
  · exact (hin.grownP (fun b hb => (hP b hb).1) G5).grownP (fun b hb => (hP b hb).2) G6
  · have h := row_grown hr (row_off hr hp opened_zeros) G5
    exact row_grown h (row_off h hqf errno_zero) G6
theorem results_two {P : Program} {fn : Func} {p q : Tmp} {ty t2 : TypeId} (h : fn.results = #[.cell p ty, .cell q t2]) (tmps : Array Value) (w : World) (g g2 : Nat) (t : TypeId) (cs : Array Value) (fr : Nat × Nat) (d : TypeDesc) (z : Int)
    (hp : tmps.getD p undef = .pointer (some ⟨g, 0, none⟩)) (hg : w.heap[g]? = some (.cells cs t fr)) (hq : tmps.getD q undef = .pointer (some ⟨g2, 0, none⟩)) (hg2 : w.cell? ⟨g2, 0, none⟩ = some (.int .i64 z))
    (hu : P.underlying ty = some d) (hd : (match d with | .struct _ | .array _ _ => true | _ => false) = true) (hi : (P.info? ty).map (·.size) = some cs.size) (hu2 : P.underlying t2 = some (.int .i64)) :
    (results fn tmps).run P w = .ok (.tuple #[.agg cs, .int .i64 z]) w := results_pair h tmps w g g2 t cs fr d z hp hg hq hg2 hu hd hi hu2
def GivesOpen (P : Nat → Prop) (x : Except Int (T × List Int × List Int)) (w : World) (e : Ending) (w' : World) : Prop := Below w.heap.size w w' ∧
  ((∃ z, x = .error z ∧ e = .returned (.tuple #[.agg #[.int .i64 0, .slice none 0 0, .slice none 0 0, .slice none 0 0, .slice none 0 0], .int .i64 z])) ∨
   (∃ (n : T) (said sig : List Int) (A : Option Addr) (nn c : Nat) (K : Option Addr) (m d : Nat) (a1 : Option Addr) (c1 : Nat) (a2 : Option Addr) (c2 : Nat), x = .ok (n, said, sig) ∧ e = .returned (.tuple #[.agg #[.int .i64 n.tag, .slice A nn c, .slice K m d, .slice a1 said.length c1, .slice a2 sig.length c2], .int .i64 0]) ∧
      n.InP P w' (.agg #[.int .i64 n.tag, .slice A nn c, .slice K m d]) ∧ Row w' a1 said.length said ∧ (a1 = none → c1 = 0) ∧ Row w' a2 sig.length sig ∧ (a2 = none → c2 = 0)))
set_option maxHeartbeats 2000000 in
theorem oparsed_any (P : Nat → Prop) (x : T) (v : Value) (w : World) (hP : ∀ b, P b → b < w.heap.size) (hin : x.InP P w v) (hwt : wt x < 30000) (hwr : ∀ k ∈ x.kids, (writeZ k).2 = 0) : Calls Tryz.prog 37 #[v, .func (.func 38) #[] #[]] w (GivesOpen P (openedZ x) w) := by
  have hmf : ∀ (fn : Fn) (first cap : Array Value) (w : World), (Instr.makeFunc fn first cap).run Tryz.prog w = .ok (.func fn first cap) w := fun _ _ _ _ => rfl
  obtain ⟨A, nb, c, K, m, d, rfl⟩ := hin.form
  have BX := Lib.hid (Box.start (T.InP.in _ hin))
  have P0 := Blk.new (w.alloc (.cells #[.int .i64 x.tag, .slice A nb c, .slice K m d] 28)) 65 #[.int .i64 0, .slice none 0 0, .slice none 0 0, .slice none 0 0, .slice none 0 0]
  have Q0 := Blk.new ((w.alloc (.cells #[.int .i64 x.tag, .slice A nb c, .slice K m d] 28)).alloc (.cells #[.int .i64 0, .slice none 0 0, .slice none 0 0, .slice none 0 0, .slice none 0 0] 65)) 32 #[.int .i64 0]
  have P1 := P0.alloc (.cells #[.int .i64 0] 32)
  rw [show (w.alloc (.cells #[.int .i64 x.tag, .slice A nb c, .slice K m d] 28)).heap.size = w.heap.size + 1 by simp] at P1
  rw [show ((w.alloc (.cells #[.int .i64 x.tag, .slice A nb c, .slice K m d] 28)).alloc (.cells #[.int .i64 0, .slice none 0 0, .slice none 0 0, .slice none 0 0, .slice none 0 0] 65)).heap.size = w.heap.size + 1 + 1 by simp] at Q0
  have b2 : Below w.heap.size w (((w.alloc (.cells #[.int .i64 x.tag, .slice A nb c, .slice K m d] 28)).alloc (.cells #[.int .i64 0, .slice none 0 0, .slice none 0 0, .slice none 0 0, .slice none 0 0] 65)).alloc (.cells #[.int .i64 0] 32)) := (((Below.refl _ _).alloc (Nat.le_refl _) _).alloc (by simp) _).alloc (by simp; omega) _
  have CO := Lib.hid (openedOf_any P x _ _ (fun b hb => Nat.lt_of_lt_of_le (hP b hb) b2.size) (T.InP.below b2 (fun _ h => h) _ hin) hwt hwr)
  have P2 := Lib.hid P1
  have Q2 := Lib.hid Q0
  have B2 := Lib.hid b2
  have HP := Lib.hid hP
  clear P0 P1 Q0 b2 hin hwr hP
  go_enter_defers Tryz.func37, Tryz.ntmps37
  obtain ⟨g0, g1, g2⟩ := BX.out.cells
  go_wp2_with fail
  refine CO.out.mono ?_
  rintro e w3 ⟨hb3, hways⟩
  have P3 := Lib.hid (P2.out.below hb3 P2.out.lt)
  have Q3 := Lib.hid (Q2.out.below hb3 Q2.out.lt)
  have B3 := Lib.hid (B2.out.trans (hb3.mono B2.out.size))
  clear CO P2 Q2 B2 hb3 g0 g1 g2 BX
  rcases hways with ⟨hz, rfl⟩ | ⟨n, said, sig, A1, nn, c1, K1, m1, d1, a2, c2, a3, c3, hz, rfl, hin, hr1, hn1, hr2, hn2⟩
  · refine leaves_cons (f := 69) (args := #[.pointer (some ⟨w.heap.size + 1, 0, none⟩), .pointer (some ⟨w.heap.size + 1 + 1, 0, none⟩)]) (by simp) (by simp [go_sem]) ?_
    refine (ocatch_panicking (w.heap.size + 1) (w.heap.size + 1 + 1) 0 _ _ _ _ _ _ P3.out Q3.out (by omega)).mono ?_
    rintro e u' w5 ⟨rfl, rfl, rfl⟩
    have C := caught_open P3.out Q3.out (by omega)
    exact ⟨_, results_two rfl _ _ (w.heap.size + 1) (w.heap.size + 1 + 1) 65 _ (0, 0) _ 2 rfl C.1 rfl (C.2.1.cell 0) Tryz.underlying65 rfl Tryz.sizeOpened Tryz.underlying32, B3.out.trans (C.2.2 _ (by omega) (by omega) B3.out.size), .inl ⟨2, hz, rfl⟩⟩
  · obtain ⟨p0, p1, p2, p3, p4, f0, f1, f2, f3, f4⟩ := P3.out.five
    have q0 := Q3.out.cell 0
    have h0 := Q3.out.free 0
    simp only [List.getElem?_toArray, List.getElem?_cons_zero] at q0
    have HZ := Lib.hid hz
    have IN := Lib.hid hin
    have R1 := Lib.hid hr1
    have R2 := Lib.hid hr2
    have N1 := Lib.hid hn1
    have N2 := Lib.hid hn2
    clear hz hin hr1 hr2 hn1 hn2
    go_wp2_with fail
    refine leaves_cons (f := 69) (args := #[.pointer (some ⟨w.heap.size + 1, 0, none⟩), .pointer (some ⟨w.heap.size + 1 + 1, 0, none⟩)]) (by simp) (by simp [go_sem]) ?_
    refine (ocatch_idle (w.heap.size + 1) (w.heap.size + 1 + 1) _).mono ?_
    rintro e u' w5 ⟨rfl, rfl, rfl⟩
    obtain ⟨C1, C2, C3, C4⟩ := stored_open (B := w.heap.size) P3.out Q3.out (by omega) (by omega) (by omega) B3.out.size (.int .i64 n.tag) (.slice A1 nn c1) (.slice K1 m1 d1) (.slice a2 said.length c2) (.slice a3 sig.length c3)
    exact ⟨_, results_two rfl _ _ (w.heap.size + 1) (w.heap.size + 1 + 1) 65 _ (0, 0) _ 0 rfl C1 rfl (C2.cell 0) Tryz.underlying65 rfl Tryz.sizeOpened Tryz.underlying32, B3.out.trans C3, .inr ⟨n, said, sig, A1, nn, c1, K1, m1, d1, a2, c2, a3, c3, HZ.out, rfl, (C4 P n _ (fun b hb => (by have := HP.out b hb; exact ⟨by omega, by omega⟩))).1 IN.out, (C4 P n (.int .i64 0) (fun b hb => (by have := HP.out b hb; exact ⟨by omega, by omega⟩))).2 _ _ _ R1.out, N1.out, (C4 P n (.int .i64 0) (fun b hb => (by have := HP.out b hb; exact ⟨by omega, by omega⟩))).2 _ _ _ R2.out, N2.out⟩⟩
end Go.Proofs.YtgmefdmeeihgoaaGreatDoor
namespace Go.Proofs.YtgmefdmeeihgoaaGreatDoor
open Go.RowKit
set_option linter.unusedVariables false
set_option linter.unusedSimpArgs false
theorem read_fit {zs : List Int} {x : T} (hb : ∀ z ∈ zs, 0 ≤ z ∧ z ≤ 255) (h : readZ zs = .ok x) : wt x < 30000 ∧ ∀ k ∈ x.kids, (writeZ k).2 = 0 := by
  obtain ⟨hw, hr⟩ := write_read hb h
  have h0 : (writeZ x).2 = 0 := by rw [hw]
  have f := write_fit h0
  have := wt_le x hr
  refine ⟨by omega, fun k hk => ?_⟩
  cases hwi : withinB x.tag
  · have := (right_parts hr).2.2.1 hwi
    rw [this] at hk
    simp at hk
  · exact (write_kid h0 hwi hk).1
def GivesOpn (x : Except Int (T × List Int × List Int)) (w : World) (e : Ending) (w' : World) : Prop := Below w.heap.size w w' ∧
  ((∃ z, x = .error z ∧ ¬ z = 0 ∧ e = .returned (.tuple #[.agg #[.int .i64 0, .slice none 0 0, .slice none 0 0], .slice none 0 0, .slice none 0 0, .int .i64 z])) ∨
   (∃ (n : T) (said sig : List Int) (A : Option Addr) (nn c : Nat) (K : Option Addr) (m d : Nat) (a1 : Option Addr) (c1 : Nat) (a2 : Option Addr) (c2 : Nat), x = .ok (n, said, sig) ∧ e = .returned (.tuple #[.agg #[.int .i64 n.tag, .slice A nn c, .slice K m d], .slice a1 said.length c1, .slice a2 sig.length c2, .int .i64 0]) ∧
      n.In w' (.agg #[.int .i64 n.tag, .slice A nn c, .slice K m d]) ∧ Row w' a1 said.length said ∧ (a1 = none → c1 = 0) ∧ Row w' a2 sig.length sig ∧ (a2 = none → c2 = 0)))
theorem results_four {P : Program} {fn : Func} {p u1 u2 u3 : Tmp} {ty : TypeId} (h : fn.results = #[.cell p ty, .tmp u1, .tmp u2, .tmp u3]) (tmps : Array Value) (w : World) (g : Nat) (t : TypeId) (cs : Array Value) (fr : Nat × Nat) (d : TypeDesc)
    (hp : tmps.getD p undef = .pointer (some ⟨g, 0, none⟩)) (hg : w.heap[g]? = some (.cells cs t fr))
    (hu : P.underlying ty = some d) (hd : (match d with | .struct _ | .array _ _ => true | _ => false) = true) (hi : (P.info? ty).map (·.size) = some cs.size) :
    (results fn tmps).run P w = .ok (.tuple #[.agg cs, tmps.getD u1 undef, tmps.getD u2 undef, tmps.getD u3 undef]) w := by
  have hp' : tmps[p]?.getD undef = .pointer (some ⟨g, 0, none⟩) := by simpa using hp
  simp [results, h, hp', asAddr, run_loadVar_row w g t ty cs fr d hg hu hd hi, Result.andThen]
theorem head_pos {l : List Int} {z : Int} (h : headL l = .error z) : ¬ z = 0 := by
  unfold headL at h
  repeat' (split at h)
  all_goals (cases h; try decide)
theorem elemW_pos {rec : Nat → List Int → Except Int (List T)} (hrec : ∀ d l z, rec d l = .error z → ¬ z = 0) {deep : Nat} {l : List Int} {z : Int} (h : elemW rec deep l = .error z) : ¬ z = 0 := by
  unfold elemW at h
  split at h
  · rename_i e he
    cases h
    exact head_pos he
  · split at h
    · cases h; decide
    · split at h
      · cases h; decide
      · split at h
        · split at h
          · rename_i e he
            cases h
            have := hrec _ _ _ he
            split <;> omega
          · cases h
        · cases h
theorem kids_pos : ∀ (f deep : Nat) (l : List Int) (z : Int), kidsZ f deep l = .error z → ¬ z = 0
  | 0, _, _, _, h => by
    unfold kidsZ at h
    cases h
  | f + 1, deep, l, z, h => by
    unfold kidsZ at h
    split at h
    · cases h
    · split at h
      · rename_i e he
        cases h
        exact elemW_pos (fun d l z h => kids_pos f d l z h) he
      · split at h
        · rename_i e he
          cases h
          exact kids_pos f _ _ _ he
        · cases h
theorem read_err {zs : List Int} {z : Int} (h : readZ zs = .error z) : ¬ z = 0 := by
  unfold readZ at h
  split at h
  · cases h; decide
  · split at h
    · rename_i e he
      cases h
      exact elemW_pos (fun d l z h => kids_pos _ d l z h) he
    · split at h <;> cases h
      decide
theorem three_grow (g : Nat) (W : World) (a b c : Value) : GrowR g W (((W.setCell ⟨g, 0, none⟩ a).setCell ⟨g, 1, none⟩ b).setCell ⟨g, 2, none⟩ c) :=
  grown_trans (grown_trans (grown_set W g 0 a) (grown_set _ g 1 b)) (grown_set _ g 2 c)
theorem node_zeros : ∀ (j : Nat) (x : Int), (#[Value.int .i64 0, .slice none 0 0, .slice none 0 0] : Array Value)[j]? ≠ some (.int .u8 x) := by
  intro j x h
  rcases j with _ | _ | _ | j <;> simp at h
set_option maxHeartbeats 2000000 in
theorem open_any (a : Option Addr) (n ca : Nat) (zs : List Int) (w : World) (hr : Row w a n zs) (hnc : n ≤ ca) (hn : n ≤ 30000) (hnil : a = none → ca = 0) : Calls Tryz.prog 16 #[.slice a n ca] w (GivesOpn (openZ zs) w) := by
  have b1 : Below w.heap.size w (w.alloc (.cells #[.int .i64 0, .slice none 0 0, .slice none 0 0] 28)) := (Below.refl _ _).alloc (Nat.le_refl _) _
  have S0 := Lib.hid (Blk.new w 28 #[.int .i64 0, .slice none 0 0, .slice none 0 0])
  have CR := Lib.hid (tread_any a n ca zs _ (hr.below b1) hnc hn hnil)
  have HB := Lib.hid hr.2.1
  have B1 := Lib.hid b1
  clear b1 hr
  go_enter Tryz.func16, Tryz.ntmps16
  go_wp2_with fail
  generalize hw1 : w.alloc (.cells #[.int .i64 0, .slice none 0 0, .slice none 0 0] 28) = w1 at *
  have hs1 : Hid (w.heap.size < w1.heap.size) := S0.out.lt
  clear hw1
  refine CR.out.mono ?_
  rintro e w2 ⟨hb2, hways⟩
  have S2 := Lib.hid (S0.out.below hb2 S0.out.lt)
  have B2 := Lib.hid (Below.step B1.out (hb2.mono (Nat.le_refl _)))
  clear S0 B1
  rcases hways with ⟨z, hz, rfl⟩ | ⟨x, v, hx, rfl, hin⟩
  · have F : Hid (openZ zs = .error z) := by unfold openZ; rw [hz]; exact Lib.hid rfl
    have hz0 := read_err hz
    have t0 : (z != 0) = true := by simpa using hz0
    have S3 := Lib.hid (S2.out.alloc (.cells #[.int .i64 0, .slice none 0 0, .slice none 0 0] 28))
    have B3 := Lib.hid (B2.out.alloc B2.out.size (.cells #[.int .i64 0, .slice none 0 0, .slice none 0 0] 28))
    obtain ⟨p0, p1, p2, f0, f1, f2⟩ := S3.out.facts
    have HZ := Lib.hid hz0
    clear hz hz0 CR HB hb2
    go_wp2_with fail
    have C := ((S3.out.set 0 (.int .i64 0)).set 1 (.slice none 0 0)).set 2 (.slice none 0 0)
    exact bodyPost_ret (results_four rfl _ _ w.heap.size 28 _ (0, 0) _ rfl C Tryz.underlying28 rfl Tryz.sizeNode) rfl ⟨((B3.out.setCell (Nat.le_refl _) _).setCell (Nat.le_refl _) _).setCell (Nat.le_refl _) _, .inl ⟨z, F.out, HZ.out, rfl⟩⟩
  · obtain ⟨A, nb, c, K, m, d, rfl⟩ := hin.form
    have F : Hid (openZ zs = openedZ x) := by unfold openZ; rw [hx]; exact Lib.hid rfl
    obtain ⟨hwt, hwr⟩ := read_fit HB.out hx
    have A3 : Below w2.heap.size w2 (w2.alloc (.cells #[.int .i64 x.tag, .slice A nb c, .slice K m d] 28)) := (Below.refl _ _).alloc (Nat.le_refl _) _
    have S3 := Lib.hid (S2.out.below A3 S2.out.lt)
    have X3 := Lib.hid (Blk.new w2 28 #[.int .i64 x.tag, .slice A nb c, .slice K m d])
    have B3 := Lib.hid (B2.out.trans (A3.mono B2.out.size))
    have I3 : x.InP (fun b => w.heap.size < b ∧ b < (w2.alloc (.cells #[.int .i64 x.tag, .slice A nb c, .slice K m d] 28)).heap.size) (w2.alloc (.cells #[.int .i64 x.tag, .slice A nb c, .slice K m d] 28)) (.agg #[.int .i64 x.tag, .slice A nb c, .slice K m d]) :=
      T.InP.keep (fun b hb (hp : w1.heap.size ≤ b) => ⟨⟨by have := hs1.out; omega, Nat.lt_of_lt_of_le hb A3.size⟩, A3.block b hb⟩) A3.size _ hin
    have CO := Lib.hid (oparsed_any _ x _ _ (fun b hb => hb.2) I3 hwt hwr)
    obtain ⟨x0, x1, x2, _, _, _⟩ := X3.out.facts
    clear hin hx CR HB hb2 hwt hwr A3 I3 S2 B2
    go_wp2_with fail
    generalize hw3 : w2.alloc (.cells #[.int .i64 x.tag, .slice A nb c, .slice K m d] 28) = w3 at *
    refine CO.out.mono ?_
    rintro e w4 ⟨hb4, hways⟩
    have S4 := Lib.hid (S3.out.below hb4 S3.out.lt)
    have B4 := Lib.hid (B3.out.trans (hb4.mono B3.out.size))
    have hs4 : Hid (w.heap.size < w4.heap.size) := S4.out.lt
    clear CO S3 X3 B3 hb4 hw3 x0 x1 x2
    rcases hways with ⟨z, hz, rfl⟩ | ⟨t, said, sig, A1, n1, c1, K1, m1, d1, a2, c2, a3, c3, hz, rfl, hin, hr1, hn1, hr2, hn2⟩
    · obtain rfl := opened_err hz
      have HZ := Lib.hid hz
      clear hz
      have A5 : Below w4.heap.size w4 (w4.alloc (.cells #[.int .i64 0, .slice none 0 0, .slice none 0 0, .slice none 0 0, .slice none 0 0] 65)) := (Below.refl _ _).alloc (Nat.le_refl _) _
      have S5 := Lib.hid (S4.out.below A5 S4.out.lt)
      have B5 := Lib.hid (B4.out.trans (A5.mono B4.out.size))
      have Y5 := Lib.hid (Blk.new w4 65 #[.int .i64 0, .slice none 0 0, .slice none 0 0, .slice none 0 0, .slice none 0 0])
      have hne : w4.heap.size ≠ w.heap.size := by have := hs4.out; omega
      clear S4 B4 A5
      go_wp2_with fail
      generalize (w4.alloc (.cells #[.int .i64 0, .slice none 0 0, .slice none 0 0, .slice none 0 0, .slice none 0 0] 65)) = w5 at *
      generalize w4.heap.size = g7 at *
      have y0 : ∀ W, GrowR w.heap.size w5.drew W → W.cell? ⟨g7, 0, none⟩ = some (.int .i64 0) := fun W hW => GrowR.cell hW hne (Y5.out.cell 0)
      have y1 : ∀ W, GrowR w.heap.size w5.drew W → W.cell? ⟨g7, 1, none⟩ = some (.slice none 0 0) := fun W hW => GrowR.cell hW hne (Y5.out.cell 1)
      have y2 : ∀ W, GrowR w.heap.size w5.drew W → W.cell? ⟨g7, 2, none⟩ = some (.slice none 0 0) := fun W hW => GrowR.cell hW hne (Y5.out.cell 2)
      have y3 : ∀ W, GrowR w.heap.size w5.drew W → W.cell? ⟨g7, 3, none⟩ = some (.slice none 0 0) := fun W hW => GrowR.cell hW hne (Y5.out.cell 3)
      have y4 : ∀ W, GrowR w.heap.size w5.drew W → W.cell? ⟨g7, 4, none⟩ = some (.slice none 0 0) := fun W hW => GrowR.cell hW hne (Y5.out.cell 4)
      clear Y5
      refine wp_region_ord (GrowR w.heap.size) (GrowR.refl _) GrowR.trans ((0, false) :: (1, false) :: (2, false) :: (3, false) :: (4, false) :: (5, false) :: (6, false) :: (7, true) :: (8, false) :: (9, false) :: (10, false) :: []) (by kernel_rfl) (by kernel_rfl) rfl (by kernel_rfl) (fun _ _ _ _ _ h => h) ?_
      repeat (refine ord_take _ rfl (by rfl) (fun W hW => by go_simp; first | done | rfl) ?_; simp only [Act.put, List.setIfInBounds_toArray, List.set_cons_zero, List.set_cons_succ])
      clear y0 y1 y2 y3 y4
      have S6 : Hid (Blk w5.drew w.heap.size 28 #[.int .i64 0, .slice none 0 0, .slice none 0 0]) := S5.out
      have B6 : Hid (Below w.heap.size w w5.drew) := B5.out.drew
      clear S5 B5
      generalize w5.drew = w6 at *
      obtain ⟨p0, p1, p2, f0, f1, f2⟩ := S6.out.facts
      refine ord_sole rfl (by rfl) (fun K1 hK1 => ?_)
      go_simp
      refine hK1 _ _ (three_grow _ _ _ _ _) ?_
      clear hK1 K1
      repeat (refine ord_take _ rfl (by rfl) (fun W hW => by go_simp; first | done | rfl) ?_; simp only [Act.put, List.setIfInBounds_toArray, List.set_cons_zero, List.set_cons_succ])
      refine ord_end ?_
      go_wp2_with fail
      have C := ((S6.out.set 0 (.int .i64 0)).set 1 (.slice none 0 0)).set 2 (.slice none 0 0)
      have BB := B6.out.trans (three_past (B := w.heap.size) (g := w.heap.size) w6 (Nat.le_refl _) (.int .i64 0) (.slice none 0 0) (.slice none 0 0))
      exact bodyPost_ret (results_four rfl _ _ w.heap.size 28 _ (0, 0) _ rfl C Tryz.underlying28 rfl Tryz.sizeNode) rfl ⟨BB, .inl ⟨2, F.out.trans HZ.out, by decide, rfl⟩⟩
    · have HZ := Lib.hid hz
      have A5 : Below w4.heap.size w4 (w4.alloc (.cells #[.int .i64 t.tag, .slice A1 n1 c1, .slice K1 m1 d1, .slice a2 said.length c2, .slice a3 sig.length c3] 65)) := (Below.refl _ _).alloc (Nat.le_refl _) _
      have S5 := Lib.hid (S4.out.below A5 S4.out.lt)
      have B5 := Lib.hid (B4.out.trans (A5.mono B4.out.size))
      have Y5 := Lib.hid (Blk.new w4 65 #[.int .i64 t.tag, .slice A1 n1 c1, .slice K1 m1 d1, .slice a2 said.length c2, .slice a3 sig.length c3])
      have hne : w4.heap.size ≠ w.heap.size := by have := hs4.out; omega
      have I5 := Lib.hid (T.InP.below A5 (fun _ h => h) _ hin)
      have R5 := Lib.hid (hr1.below A5)
      have Q5 := Lib.hid (hr2.below A5)
      have N5 := Lib.hid hn1
      have M5 := Lib.hid hn2
      clear hz hin hr1 hr2 hn1 hn2
      clear S4 B4 A5
      go_wp2_with fail
      generalize (w4.alloc (.cells #[.int .i64 t.tag, .slice A1 n1 c1, .slice K1 m1 d1, .slice a2 said.length c2, .slice a3 sig.length c3] 65)) = w5 at *
      generalize w4.heap.size = g7 at *
      have y0 : ∀ W, GrowR w.heap.size w5.drew W → W.cell? ⟨g7, 0, none⟩ = some (.int .i64 t.tag) := fun W hW => GrowR.cell hW hne (Y5.out.cell 0)
      have y1 : ∀ W, GrowR w.heap.size w5.drew W → W.cell? ⟨g7, 1, none⟩ = some (.slice A1 n1 c1) := fun W hW => GrowR.cell hW hne (Y5.out.cell 1)
      have y2 : ∀ W, GrowR w.heap.size w5.drew W → W.cell? ⟨g7, 2, none⟩ = some (.slice K1 m1 d1) := fun W hW => GrowR.cell hW hne (Y5.out.cell 2)
      have y3 : ∀ W, GrowR w.heap.size w5.drew W → W.cell? ⟨g7, 3, none⟩ = some (.slice a2 said.length c2) := fun W hW => GrowR.cell hW hne (Y5.out.cell 3)
      have y4 : ∀ W, GrowR w.heap.size w5.drew W → W.cell? ⟨g7, 4, none⟩ = some (.slice a3 sig.length c3) := fun W hW => GrowR.cell hW hne (Y5.out.cell 4)
      clear Y5
      refine wp_region_ord (GrowR w.heap.size) (GrowR.refl _) GrowR.trans ((0, false) :: (1, false) :: (2, false) :: (3, false) :: (4, false) :: (5, false) :: (6, false) :: (7, true) :: (8, false) :: (9, false) :: (10, false) :: []) (by kernel_rfl) (by kernel_rfl) rfl (by kernel_rfl) (fun _ _ _ _ _ h => h) ?_
      repeat (refine ord_take _ rfl (by rfl) (fun W hW => by go_simp; first | done | rfl) ?_; simp only [Act.put, List.setIfInBounds_toArray, List.set_cons_zero, List.set_cons_succ])
      clear y0 y1 y2 y3 y4
      have S6 : Hid (Blk w5.drew w.heap.size 28 #[.int .i64 0, .slice none 0 0, .slice none 0 0]) := S5.out
      have B6 : Hid (Below w.heap.size w w5.drew) := B5.out.drew
      have I6 : Hid (t.InP (fun b => w.heap.size < b ∧ b < w3.heap.size) w5.drew (.agg #[.int .i64 t.tag, .slice A1 n1 c1, .slice K1 m1 d1])) := T.InP.below (Below.refl _ _).drew (fun _ h => h) _ I5.out
      have R6 : Hid (Row w5.drew a2 said.length said) := R5.out
      have Q6 : Hid (Row w5.drew a3 sig.length sig) := Q5.out
      clear I5 R5 Q5
      clear S5 B5
      generalize w5.drew = w6 at *
      obtain ⟨p0, p1, p2, f0, f1, f2⟩ := S6.out.facts
      refine ord_sole rfl (by rfl) (fun K1 hK1 => ?_)
      go_simp
      refine hK1 _ _ (three_grow _ _ _ _ _) ?_
      clear hK1 K1
      repeat (refine ord_take _ rfl (by rfl) (fun W hW => by go_simp; first | done | rfl) ?_; simp only [Act.put, List.setIfInBounds_toArray, List.set_cons_zero, List.set_cons_succ])
      refine ord_end ?_
      go_wp2_with fail
      have C := ((S6.out.set 0 (.int .i64 t.tag)).set 1 (.slice A1 n1 c1)).set 2 (.slice K1 m1 d1)
      have BB := B6.out.trans (three_past (B := w.heap.size) (g := w.heap.size) w6 (Nat.le_refl _) (.int .i64 t.tag) (.slice A1 n1 c1) (.slice K1 m1 d1))
      have G := three_grow w.heap.size w6 (.int .i64 t.tag) (.slice A1 n1 c1) (.slice K1 m1 d1)
      exact bodyPost_ret (results_four rfl _ _ w.heap.size 28 _ (0, 0) _ rfl C Tryz.underlying28 rfl Tryz.sizeNode) rfl ⟨BB, .inr ⟨t, said, sig, A1, n1, c1, K1, m1, d1, a2, c2, a3, c3, F.out.trans HZ.out, rfl, T.InP.in _ (I6.out.grownP (fun b hb => (by have := hb.1; omega)) G), row_grown R6.out (row_off R6.out S6.out node_zeros) G, N5.out, row_grown Q6.out (row_off Q6.out S6.out node_zeros) G, M5.out⟩⟩
end Go.Proofs.YtgmefdmeeihgoaaGreatDoor
namespace Go.Proofs.YtgmefdmeeihgoaaGreatDoor
open Go.RowKit
set_option linter.unusedVariables false
theorem mod_step (a : Int) {q : Int} (hq : 0 < q) : a % (q * 256) = q * (a / q % 256) + a % q := by
  have h1 := Int.mul_ediv_add_emod a q
  have h2 := Int.mul_ediv_add_emod (a / q) 256
  have hr0 := Int.emod_nonneg a (Int.ne_of_gt hq)
  have hr1 := Int.emod_lt_of_pos a hq
  have ht0 := Int.emod_nonneg (a / q) (show (256 : Int) ≠ 0 by decide)
  have ht1 := Int.emod_lt_of_pos (a / q) (show (0 : Int) < 256 by decide)
  generalize a / q % 256 = t at h2 ht0 ht1 ⊢
  generalize a % q = r at h1 hr0 hr1 ⊢
  generalize a / q / 256 = u at h2
  have e : a = (q * t + r) + q * 256 * u := by
    rw [← h1, ← h2, Int.mul_add, Int.mul_assoc]
    omega
  have hlo : 0 ≤ q * t + r := Int.add_nonneg (Int.mul_nonneg (Int.le_of_lt hq) ht0) hr0
  have hhi : q * t + r < q * 256 := by
    have : q * t ≤ q * 255 := Int.mul_le_mul_of_nonneg_left (by omega) (Int.le_of_lt hq)
    omega
  rw [e, Int.add_mul_emod_self_left, Int.emod_eq_of_lt hlo hhi]
theorem mod_of_div {a : Int} {m : Nat} (h : a / 256 ^ m = 0) : a % 256 ^ m = a := by
  have := Int.mul_ediv_add_emod a (256 ^ m)
  rw [h] at this
  omega
theorem numZ_beZ : ∀ (m : Nat) (n s : Int), 0 ≤ s → s * 256 ^ m + n % 256 ^ m ≤ 18446744073709551615 → numZ s (beZ m n) = (s * 256 ^ m + n % 256 ^ m, true)
  | 0, n, s, _, _ => by
    simp only [beZ, numZ, Int.pow_zero, Int.mul_one, Int.emod_one, Int.add_zero]
  | k + 1, n, s, hs, hb => by
    have hq : (0 : Int) < 256 ^ k := Int.pow_pos (by decide)
    rw [Int.pow_succ, mod_step n hq] at hb ⊢
    have hd0 : 0 ≤ n / 256 ^ k % 256 := Int.emod_nonneg _ (by decide)
    have hr0 : 0 ≤ n % 256 ^ k := Int.emod_nonneg _ (Int.ne_of_gt hq)
    have ih := numZ_beZ k n (s * 256 + n / 256 ^ k % 256) (by omega)
    rw [beZ, numZ]
    generalize n / 256 ^ k % 256 = d at hb hd0 ih ⊢
    generalize n % 256 ^ k = r at hb hr0 ih ⊢
    generalize (256 : Int) ^ k = q at hq hb ih ⊢
    have key : (s * 256 + d) * q + r = s * (q * 256) + (q * d + r) := by
      rw [Int.add_mul, Int.mul_assoc, Int.mul_comm 256 q, Int.mul_comm d q, Int.add_assoc]
    have h1 : 0 ≤ q * d := Int.mul_nonneg (Int.le_of_lt hq) hd0
    have h2 : s * 256 ≤ s * (q * 256) := Int.mul_le_mul_of_nonneg_left (by omega) hs
    rw [if_neg (by unfold B56; omega), ih (by rw [key]; exact hb), key]
theorem num_back {m : Nat} {n : Int} (h1 : n ≤ 18446744073709551615) (hz : n / 256 ^ m = 0) : numZ 0 (beZ m n) = (n, true) := by
  have e := mod_of_div hz
  have := numZ_beZ m n 0 (Int.le_refl 0) (by rw [e]; omega)
  rw [this, e]
  simp
theorem uint_int (x : Int) (h0 : 0 ≤ x) (h1 : x ≤ 18446744073709551615) : uintZ (intT x) = (x, 0) := by
  have e : numZ 0 (intT x).body = (x, true) := by
    show numZ 0 (bigZ (leastZ x)) = (x, true)
    rw [numZ_big]
    exact num_back h1 (leastM_is h0 h1).2.2.1
  unfold uintZ
  rw [e, if_pos ⟨rfl, same_refl _⟩]
end Go.Proofs.YtgmefdmeeihgoaaGreatDoor
namespace Go.Proofs.YtgmefdmeeihgoaaGreatDoor
open Go.RowKit
set_option linter.unusedVariables false
def rightZ (ns : List Int) (e : Int) : Bool := decide (62 ≤ ns.length) && decide (ns.length ≤ 512) && !(ns[0]?.getD 0 == 0) && (ns[ns.length - 1]?.getD 0 % 2 == 1) && (e % 2 == 1) && decide (3 ≤ e)
theorem right_len {ns : List Int} {e : Int} (h : rightZ ns e = true) : 62 ≤ ns.length ∧ ns.length ≤ 512 := by
  simp only [rightZ, Bool.and_eq_true, decide_eq_true_eq] at h
  omega
theorem right_head {ns : List Int} {e : Int} (h : rightZ ns e = true) : ns[0]?.getD 0 ≠ 0 := by
  simp only [rightZ, Bool.and_eq_true, decide_eq_true_eq, Bool.not_eq_true', beq_eq_false_iff_ne] at h
  exact h.1.1.1.2
end Go.Proofs.YtgmefdmeeihgoaaGreatDoor
namespace Go.Proofs.YtgmefdmeeihgoaaGreatDoor
open Go.RowKit
set_option linter.unusedVariables false
set_option linter.unusedSimpArgs false
def innerT (ns : List Int) (e : Int) : T := .node 48 [] [bigT ns, intT e]
def ownZ (ns : List Int) (e : Int) : List Int := (writeZ (innerT ns e)).1
def keyT (ns : List Int) (e : Int) : T := .node 48 [] [algT 1, bitsT (ownZ ns e)]
def innerZ (ns : List Int) (e : Int) : List Int × Int := if rightZ ns e = true then (ownZ ns e, 0) else ([], 1)
def nodeK (ns : List Int) (e : Int) : T × Int := if rightZ ns e = true then (keyT ns e, 0) else (zeroT, 1)
theorem wt_big (ns : List Int) : wt (bigT ns) ≤ ns.length + 2 := by
  have := big_le ns
  unfold bigT
  simp only [wt, wtAll]
  omega
theorem least_len (e : Int) : (leastZ e).length ≤ 8 := by
  unfold leastZ
  rw [beZ_length]
  exact leastM_le e
theorem wt_int (e : Int) : wt (intT e) ≤ 10 := by
  have h1 := wt_big (leastZ e)
  have h2 := least_len e
  have h3 : intT e = bigT (leastZ e) := rfl
  rw [h3]
  omega
theorem wt_inner (ns : List Int) (e : Int) : wt (innerT ns e) ≤ ns.length + 13 := by
  have h1 := wt_big ns
  have h2 := wt_int e
  unfold innerT
  simp only [wt, wtAll, List.length_nil]
  omega
theorem right_big (ns : List Int) : rightT (bigT ns) = true := by
  unfold bigT
  simp [rightT, rightAll, tagB, withinB]
theorem right_inner (ns : List Int) (e : Int) : rightT (innerT ns e) = true := by
  have h1 := right_big ns
  have h2 : rightT (intT e) = true := right_big (leastZ e)
  unfold innerT
  simp [rightT, rightAll, tagB, withinB, h1, h2]
theorem deep_big (ns : List Int) : deepT (bigT ns) = 1 := by
  unfold bigT
  simp [deepT, withinB]
theorem deep_inner (ns : List Int) (e : Int) : deepT (innerT ns e) ≤ 32 := by
  have h1 := deep_big ns
  have h2 : deepT (intT e) = 1 := deep_big (leastZ e)
  unfold innerT
  simp only [deepT, deepAll, h1, h2]
  repeat' split
  all_goals omega
theorem inner_writes {ns : List Int} (e : Int) (h : ns.length ≤ 3000) : writeZ (innerT ns e) = (ownZ ns e, 0) := by
  have h1 := (size_le (innerT ns e)).2.1
  have h2 := wt_inner ns e
  have h3 := write_of (right_inner ns e) (deep_inner ns e) (by omega)
  unfold ownZ
  rw [h3]
theorem own_len {ns : List Int} (e : Int) (h : ns.length ≤ 3000) : (ownZ ns e).length ≤ 20000 := by
  have hw := inner_writes e h
  have f := write_fit (t := innerT ns e) (congrArg Prod.snd hw)
  have e1 := write_of f.1 f.2.1 f.2.2
  rw [hw] at e1
  have e2 : ownZ ns e = layT (innerT ns e) := (Prod.mk.inj e1).1
  have := lay_len (innerT ns e) f.1
  rw [e2]
  omega
def keyIn (t : T) (p q : T) : Option (List Int × Int) :=
  if (greatZ p).2 = 0 ∧ (uintZ q).2 = 0 ∧ rightZ (greatZ p).1 ((uintZ q).1 % 4294967296) = true ∧ sameT (keyT (greatZ p).1 ((uintZ q).1 % 4294967296)) t = true then some ((greatZ p).1, (uintZ q).1 % 4294967296) else none
def keyWithin (t : T) (x : Except Int T) : Option (List Int × Int) :=
  match x with
  | .error _ => none
  | .ok y => match y.kids with
    | p :: q :: _ => keyIn t p q
    | _ => none
def readK (t : T) : Option (List Int × Int) :=
  match t.kids with
  | _ :: b :: _ => if (ofZ b).2.2 = 0 then keyWithin t (readZ (ofZ b).1) else none
  | _ => none
def rkeyWithin (t : T) (x : Except Int T) : Option (List Int × Int) :=
  match x with
  | .error _ => none
  | .ok y => match y.kids with
    | [p, q] => keyIn t p q
    | _ => none
def rreadK (t : T) : Option (List Int × Int) :=
  match t.kids with
  | [_, b] => if (ofZ b).2.2 = 0 then rkeyWithin t (readZ (ofZ b).1) else none
  | _ => none
theorem bare_right {ns : List Int} {e : Int} (h : rightZ ns e = true) : bareZ ns = ns := by
  have h0 := right_head h
  have hl := (right_len h).1
  cases ns with
  | nil => rfl
  | cons x r =>
    rw [bareZ, if_neg]
    intro hx
    subst hx
    exact h0 (by simp)
theorem keyIn_right {ns : List Int} {e : Int} (h : rightZ ns e = true) (h0 : 0 ≤ e) (h1 : e ≤ 4294967295) : keyIn (keyT ns e) (bigT ns) (intT e) = some (ns, e) := by
  have hg : greatZ (bigT ns) = (ns, 0) := by rw [great_big, bare_right h]
  have hu : uintZ (intT e) = (e, 0) := uint_int e h0 (by omega)
  have hm : e % 4294967296 = e := by omega
  unfold keyIn
  rw [hg, hu]
  simp [hm, h, same_refl]
theorem read_key {ns : List Int} {e : Int} (h : rightZ ns e = true) (h0 : 0 ≤ e) (h1 : e ≤ 4294967295) : readK (keyT ns e) = some (ns, e) ∧ rreadK (keyT ns e) = some (ns, e) := by
  have hl := (right_len h).2
  have hw := inner_writes (ns := ns) e (by omega)
  have ho : ofZ (bitsT (ownZ ns e)) = (ownZ ns e, 8 * ((ownZ ns e).length : Int), 0) := of_bits _
  have hr : readZ (ownZ ns e) = .ok (innerT ns e) := by
    exact read_write (t := innerT ns e) (congrArg Prod.snd hw)
  have hk : (keyT ns e).kids = [algT 1, bitsT (ownZ ns e)] := rfl
  have hi : (innerT ns e).kids = [bigT ns, intT e] := rfl
  constructor
  · unfold readK
    rw [hk]
    simp only [ho, if_true]
    unfold keyWithin
    rw [hr]
    simp only [hi]
    exact keyIn_right h h0 h1
  · unfold rreadK
    rw [hk]
    simp only [ho, if_true]
    unfold rkeyWithin
    rw [hr]
    simp only [hi]
    exact keyIn_right h h0 h1
theorem keyIn_is {t p q : T} {ns : List Int} {e : Int} (h : keyIn t p q = some (ns, e)) : t = keyT ns e ∧ rightZ ns e = true ∧ 0 ≤ e ∧ e ≤ 4294967295 := by
  unfold keyIn at h
  split at h
  · rename_i hc
    cases h
    exact ⟨(same_is _ _ hc.2.2.2).symm, hc.2.2.1, by omega, by omega⟩
  · cases h
theorem key_read {t : T} {ns : List Int} {e : Int} (h : readK t = some (ns, e)) : t = keyT ns e ∧ rightZ ns e = true ∧ 0 ≤ e ∧ e ≤ 4294967295 := by
  unfold readK at h
  split at h
  · split at h
    · unfold keyWithin at h
      split at h
      · cases h
      · split at h
        · exact keyIn_is h
        · cases h
    · cases h
  · cases h
theorem rkey_read {t : T} {ns : List Int} {e : Int} (h : rreadK t = some (ns, e)) : t = keyT ns e ∧ rightZ ns e = true ∧ 0 ≤ e ∧ e ≤ 4294967295 := by
  unfold rreadK at h
  split at h
  · split at h
    · unfold rkeyWithin at h
      split at h
      · cases h
      · split at h
        · exact keyIn_is h
        · cases h
    · cases h
  · cases h
theorem rread_same (t : T) : rreadK t = readK t := by
  cases h : readK t with
  | some v =>
    obtain ⟨ns, e⟩ := v
    obtain ⟨rfl, hr, h0, h1⟩ := key_read h
    exact (read_key hr h0 h1).2
  | none =>
    cases h2 : rreadK t with
    | none => rfl
    | some v =>
      obtain ⟨ns, e⟩ := v
      obtain ⟨rfl, hr, h0, h1⟩ := rkey_read h2
      rw [(read_key hr h0 h1).1] at h
      cases h
end Go.Proofs.YtgmefdmeeihgoaaGreatDoor
