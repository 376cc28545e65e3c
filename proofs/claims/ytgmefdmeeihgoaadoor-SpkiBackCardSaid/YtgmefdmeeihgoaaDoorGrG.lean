/-
  Merged texts: SkF, SkG, SkH, NumBack, RsO, SkK, RsA, ShaP, ShaT, ShaR, ShaC.
-/
import Derived.Test.YtgmefdmeeihgoaaDoorGrF
import Derived.Tactics2
import Derived.Defers
import Derived.Recover
import Derived.Test.YtgmefdmeeihgoaaDoorGrB
import Derived.Test.YtgmefdmeeihgoaaDoorGrA
import Derived.Test.YtgmefdmeeihgoaaDoorGrC
import Derived.Lib.EndianBits
import Derived.Great.BuildSlice
import Derived.Deep.LoopGhost
namespace Go.Proofs.YtgmefdmeeihgoaaDoor
open Go.RowKit
set_option linter.unusedVariables false
set_option linter.unusedSimpArgs false

set_option maxHeartbeats 400000 in
theorem bytesOf_any (t : T) (v : Value) (w : World) (hin : t.In w v) (hwt : t.body.length ≤ 30000) : Calls Tryd.prog 36 #[v] w fun e w' => Below w.heap.size w w' ∧ (((ofZ t).2.2 = 0 ∧ ∃ a c, e = .returned (.slice a (ofZ t).1.length c) ∧ Row w' a (ofZ t).1.length (ofZ t).1 ∧ (a = none → c = 0) ∧ (ofZ t).1.length ≤ c) ∨ (¬ (ofZ t).2.2 = 0 ∧ e = .panicked (errP 2))) := by
  obtain ⟨A, n, c, K, m, d, rfl, _, _, _, _, _, hcc, _⟩ := hin.open
  have BX := Lib.hid (Box.start hin)
  obtain ⟨g0, g1, g2⟩ := BX.out.cells
  have CO := Lib.hid (of_any t _ _ BX.out.has (fun z A' n' c' y e => by
    simp only [Value.agg.injEq] at e
    have e' := congrArg Array.toList e
    simp only [List.cons.injEq, Value.slice.injEq] at e'
    obtain ⟨_, ⟨_, rfl, rfl⟩, _⟩ := e'
    exact hcc.2.1) hwt)
  clear hin hcc
  go_enter Tryd.func36, Tryd.ntmps36
  generalize hw1 : w.alloc (.cells #[.int .i64 t.tag, .slice A n c, .slice K m d] 28) = w1 at *
  go_wp2_with fail
  refine CO.out.mono ?_
  rintro e w2 ⟨a, c2, rfl, hr, hnil, hc2, hb2⟩
  have B2 := Lib.hid (Below.step BX.out.below hb2)
  have R2 := Lib.hid hr
  have N2 := Lib.hid hnil
  clear CO BX hb2 hr hnil g0 g1 g2
  go_wp2_with fail
  by_cases h0 : (ofZ t).2.2 = 0
  · have H0 := Lib.hid h0
    rw [h0]
    clear h0
    refine (must_bytes a _ c2 w2).mono ?_
    rintro e w3 ⟨rfl, rfl⟩
    go_wp2_with fail
    go_ret
    exact ⟨B2.out, .inl ⟨H0.out, a, c2, rfl, R2.out, N2.out, hc2⟩⟩
  · refine (must_bytes_no a _ c2 _ h0 w2).mono ?_
    rintro e w3 ⟨rfl, rfl⟩
    exact ⟨rfl, B2.out, .inr ⟨h0, rfl⟩⟩

/-- All blocks but g go on. -/
def GrowR (g : Nat) (a b : World) : Prop := a.grownBy b (some g)
theorem GrowR.refl (g : Nat) (w : World) : GrowR g w w := ⟨rfl, rfl, rfl, Nat.le_refl _, fun _ _ _ => rfl⟩
theorem GrowR.trans {g : Nat} (a b c : World) (h : GrowR g a b) (k : GrowR g b c) : GrowR g a c := grown_trans h k
theorem GrowR.below {g : Nat} {a b : World} (h : Below a.heap.size a b) : GrowR g a b := ⟨h.os, h.tape, h.output, h.size, fun i hi _ => h.block i hi⟩
theorem GrowR.cell {g b o : Nat} {wr W : World} {v : Value} (hW : GrowR g wr.drew W) (hne : b ≠ g) (h : wr.cell? ⟨b, o, none⟩ = some v) : W.cell? ⟨b, o, none⟩ = some v := by
  have hb : b < wr.heap.size := cell_block h
  have := hW.block b hb (fun e => hne (by injection e))
  rw [← h]
  simp only [World.cell?, this]
  rfl

def GivesOpened (P : Nat → Prop) (x : T) (w : World) (e : Ending) (w' : World) : Prop := Below w.heap.size w w' ∧
  ((openedZ x = .error 2 ∧ e = .panicked (errP 2)) ∨
   (∃ (n : T) (said sig : List Int) (A : Option Addr) (nn c : Nat) (K : Option Addr) (m d : Nat) (a1 : Option Addr) (c1 : Nat) (a2 : Option Addr) (c2 : Nat), openedZ x = .ok (n, said, sig) ∧ e = .returned (.agg #[.int .i64 n.tag, .slice A nn c, .slice K m d, .slice a1 said.length c1, .slice a2 sig.length c2]) ∧
      n.InP P w' (.agg #[.int .i64 n.tag, .slice A nn c, .slice K m d]) ∧ Row w' a1 said.length said ∧ (a1 = none → c1 = 0) ∧ Row w' a2 sig.length sig ∧ (a2 = none → c2 = 0)))

theorem of_len (t : T) : (ofZ t).1.length ≤ t.body.length := by
  unfold ofZ
  split
  · simp
  · split
    · simp only [List.length_drop]
      omega
    · simp
/-- A row of bytes doesn't lie in a block without bytes. -/
theorem row_off {W : World} {a : Option Addr} {n : Nat} {zs : List Int} {g : Nat} {ty : TypeId} {cs : Array Value} (hr : Row W a n zs) (hb : Blk W g ty cs) (hcs : ∀ (j : Nat) (x : Int), cs[j]? ≠ some (.int .u8 x)) : 0 < n → ∃ b off, a = some ⟨b, off, none⟩ ∧ b ≠ g := by
  intro h0
  obtain ⟨b, off, e, hlt, hcell⟩ := hr.2.2 h0
  refine ⟨b, off, e, fun hbg => ?_⟩
  subst hbg
  exact hcs _ _ ((hb.cell (off + 0)).symm.trans (hcell 0 h0))
/-- Where openedOf stands: its argument's box, its result's, and the closure's block g. -/
structure OP (P : Nat → Prop) (w wr : World) (g : Nat) (x : T) (A : Option Addr) (nb c : Nat) (K : Option Addr) (m d : Nat) : Prop where
  off : ∀ b, P b → b < w.heap.size
  far : w.heap.size + 1 < g
  box : Blk wr w.heap.size 28 #[.int .i64 x.tag, .slice A nb c, .slice K m d]
  res : Blk wr (w.heap.size + 1) 57 #[.int .i64 0, .slice none 0 0, .slice none 0 0, .slice none 0 0, .slice none 0 0]
  below : Below w.heap.size w wr
  has : x.InP P wr (.agg #[.int .i64 x.tag, .slice A nb c, .slice K m d])
theorem OP.grow {P : Nat → Prop} {w wr w' : World} {g : Nat} {x : T} {A : Option Addr} {nb c : Nat} {K : Option Addr} {m d : Nat} (h : OP P w wr g x A nb c K m d) (hg : GrowR g wr w') : OP P w w' g x A nb c K m d :=
  ⟨h.off, h.far, h.box.grown hg (by have := h.far; omega), h.res.grown hg (by have := h.far; omega), h.below.trans (grown_below hg _ (by have := h.far; omega) h.below.size), h.has.grownP (fun b hb => by have := h.off b hb; have := h.far; omega) hg⟩
/-- The first one's box. -/
structure ON (P : Nat → Prop) (wr : World) (g gn : Nat) (n : T) (A : Option Addr) (nb c : Nat) (K : Option Addr) (m d : Nat) : Prop where
  off : ∀ b, P b → b ≠ g
  ne : gn ≠ g
  blk : Blk wr gn 28 #[.int .i64 n.tag, .slice A nb c, .slice K m d]
  has : n.InP P wr (.agg #[.int .i64 n.tag, .slice A nb c, .slice K m d])
theorem ON.grow {P : Nat → Prop} {wr w' : World} {g gn : Nat} {n : T} {A : Option Addr} {nb c : Nat} {K : Option Addr} {m d : Nat} (h : ON P wr g gn n A nb c K m d) (hg : GrowR g wr w') : ON P w' g gn n A nb c K m d :=
  ⟨h.off, h.ne, h.blk.grown hg h.ne, h.has.grownP h.off hg⟩
theorem five_grow (g : Nat) (W : World) (a b c d e : Value) : GrowR g W (((((W.setCell ⟨g, 0, none⟩ a).setCell ⟨g, 1, none⟩ b).setCell ⟨g, 2, none⟩ c).setCell ⟨g, 3, none⟩ d).setCell ⟨g, 4, none⟩ e) :=
  grown_trans (grown_trans (grown_trans (grown_trans (grown_set W g 0 a) (grown_set _ g 1 b)) (grown_set _ g 2 c)) (grown_set _ g 3 d)) (grown_set _ g 4 e)
theorem row_grown {w w' : World} {g : Nat} {a : Option Addr} {n : Nat} {zs : List Int} (h : Row w a n zs) (hne : 0 < n → ∃ b off, a = some ⟨b, off, none⟩ ∧ b ≠ g) (hg : w.grownBy w' (some g)) : Row w' a n zs := by
  refine ⟨h.1, h.2.1, fun h0 => ?_⟩
  obtain ⟨b, off, e, hlt, hcell⟩ := h.2.2 h0
  obtain ⟨b', off', e', hb⟩ := hne h0
  rw [e] at e'
  obtain ⟨rfl, rfl⟩ : b = b' ∧ off = off' := by simpa using e'
  refine ⟨b, off, e, Nat.lt_of_lt_of_le hlt hg.size, fun i hi => ?_⟩
  rw [← hcell i hi]
  simp only [World.cell?, hg.block b hlt (fun e => hb (by injection e))]
theorem opened_zeros : ∀ (j : Nat) (x : Int), (#[Value.int .i64 0, .slice none 0 0, .slice none 0 0, .slice none 0 0, .slice none 0 0] : Array Value)[j]? ≠ some (.int .u8 x) := by
  intro j x h
  rcases j with _ | _ | _ | _ | _ | j <;> simp at h
theorem Tryd.sizeOpened : (Tryd.prog.info? 57).map (·.size) = some 5 := by kernel_rfl
theorem gives_opened {P : Nat → Prop} {w W : World} {tmps : Array Value} {fn : Func} {p : Tmp} {g : Nat} {x n : T} {said sig : List Int} {A : Option Addr} {nn c : Nat} {K : Option Addr} {m d : Nat} {a1 : Option Addr} {c1 : Nat} {a2 : Option Addr} {c2 : Nat} (hf : fn.results = #[.cell p 57]) (hp : tmps.getD p undef = .pointer (some ⟨g, 0, none⟩)) (hblk : Blk W g 57 #[.int .i64 0, .slice none 0 0, .slice none 0 0, .slice none 0 0, .slice none 0 0]) (hg : w.heap.size ≤ g) (hb : Below w.heap.size w W)
    (ho : openedZ x = .ok (n, said, sig)) (hP : ∀ b, P b → b ≠ g) (hin : n.InP P W (.agg #[.int .i64 n.tag, .slice A nn c, .slice K m d])) (h1 : Row W a1 said.length said) (n1 : a1 = none → c1 = 0) (h2 : Row W a2 sig.length sig) (n2 : a2 = none → c2 = 0) :
    bodyPost Tryd.prog fn (GivesOpened P x w) .ret { tmps := tmps, defers := [] } (((((W.setCell ⟨g, 0, none⟩ (.int .i64 n.tag)).setCell ⟨g, 1, none⟩ (.slice A nn c)).setCell ⟨g, 2, none⟩ (.slice K m d)).setCell ⟨g, 3, none⟩ (.slice a1 said.length c1)).setCell ⟨g, 4, none⟩ (.slice a2 sig.length c2)) := by
  have hG := five_grow g W (.int .i64 n.tag) (.slice A nn c) (.slice K m d) (.slice a1 said.length c1) (.slice a2 sig.length c2)
  have hB := ((((hblk.set 0 (.int .i64 n.tag)).set 1 (.slice A nn c)).set 2 (.slice K m d)).set 3 (.slice a1 said.length c1)).set 4 (.slice a2 sig.length c2)
  exact bodyPost_ret (results_cell_row hf _ _ g 57 #[.int .i64 n.tag, .slice A nn c, .slice K m d, .slice a1 said.length c1, .slice a2 sig.length c2] (0, 0) _ hp hB Tryd.underlying57 rfl Tryd.sizeOpened) rfl
    ⟨hb.trans (grown_below hG _ hg hb.size), .inr ⟨n, said, sig, A, nn, c, K, m, d, a1, c1, a2, c2, ho, rfl, hin.grownP hP hG, row_grown h1 (row_off h1 hblk opened_zeros) hG, n1, row_grown h2 (row_off h2 hblk opened_zeros) hG, n2⟩⟩
theorem opened_nil {x : T} (h : x.kids = []) : openedZ x = .error 2 := by unfold openedZ; rw [h]
theorem opened_one {x n : T} (h : x.kids = [n]) : openedZ x = .error 2 := by unfold openedZ; rw [h]
theorem opened_two {x n a : T} (h : x.kids = [n, a]) : openedZ x = .error 2 := by unfold openedZ; rw [h]
theorem opened_more {x n a s : T} {r : List T} (h : x.kids = n :: a :: s :: r) : openedZ x = if (ofZ s).2.2 = 0 ∧ sameT (sealT n (ofZ s).1) x = true then .ok (n, (writeZ n).1, (ofZ s).1) else .error 2 := by unfold openedZ; rw [h]

set_option maxHeartbeats 2000000 in
theorem openedOf_any (P : Nat → Prop) (x : T) (v : Value) (w : World) (hP : ∀ b, P b → b < w.heap.size) (hin : x.InP P w v) (hwt : wt x < 30000) (hwr : ∀ k ∈ x.kids, (writeZ k).2 = 0) : Calls Tryd.prog 26 #[v] w (GivesOpened P x w) := by
  obtain ⟨A, nb, c, K, m, d, rfl⟩ := hin.form
  have BX := Lib.hid (Box.start (T.InP.in _ hin))
  have I0 := Lib.hid hin
  have HP := Lib.hid hP
  have b1 : Below w.heap.size w ((w.alloc (.cells #[.int .i64 x.tag, .slice A nb c, .slice K m d] 28)).alloc (.cells #[.int .i64 0, .slice none 0 0, .slice none 0 0, .slice none 0 0, .slice none 0 0] 57)) := ((Below.refl _ _).alloc (Nat.le_refl _) _).alloc (by simp) _
  have S0 := Blk.new (w.alloc (.cells #[.int .i64 x.tag, .slice A nb c, .slice K m d] 28)) 57 #[.int .i64 0, .slice none 0 0, .slice none 0 0, .slice none 0 0, .slice none 0 0]
  have X0 := (BX.out.blk.alloc (.cells #[.int .i64 0, .slice none 0 0, .slice none 0 0, .slice none 0 0, .slice none 0 0] 57))
  rw [show (w.alloc (.cells #[.int .i64 x.tag, .slice A nb c, .slice K m d] 28)).heap.size = w.heap.size + 1 by simp] at S0
  have B1 := Lib.hid b1
  have S1 := Lib.hid S0
  have X1 := Lib.hid X0
  obtain ⟨g0, g1, g2, _, _, _⟩ := X0.facts
  clear b1 S0 X0 BX hin hP
  go_enter Tryd.func26, Tryd.ntmps26
  go_wp2_with fail
  generalize (w.alloc (.cells #[.int .i64 x.tag, .slice A nb c, .slice K m d] 28)).alloc (.cells #[.int .i64 0, .slice none 0 0, .slice none 0 0, .slice none 0 0, .slice none 0 0] 57) = w2 at *
  have hsz : Hid (w.heap.size + 1 < w2.heap.size) := S1.out.lt
  refine (partsOf_any _ _ K m d w2).mono ?_
  rintro e w3 ⟨rfl, hg3, hb3⟩
  have X3 := X1.out.below hb3 (by have := hsz.out; omega)
  have S3 := S1.out.below hb3 hsz.out
  have B3 := B1.out.trans (hb3.mono B1.out.size)
  obtain ⟨g, hg⟩ : ∃ g, w2.heap.size + 1 = g := ⟨_, rfl⟩
  rw [hg] at hg3
  rw [hg]
  have hgs : w.heap.size + 1 < g := by have := hsz.out; omega
  have P3 := Lib.hid (OP.mk HP.out hgs X3 S3 B3 (T.InP.below B3 (fun _ h => h) _ I0.out))
  have HO : Hid (∀ b, P b → b ≠ g) := Lib.hid (fun b hb => by have := HP.out b hb; have := P3.out.far; omega)
  have HR : Hid (∀ b, P b → b ≠ w.heap.size + 1) := Lib.hid (fun b hb => by have := HP.out b hb; omega)
  have KK := P3.out.has.kidsP
  clear HP
  clear hg hb3 X1 S1 B1 hsz g0 g1 g2 I0 X3 S3 B3 hgs
  rcases hks : x.kids with _ | ⟨n, ks⟩
  · have F := Lib.hid (opened_nil hks)
    rw [hks] at KK
    obtain rfl : m = 0 := KK.1.symm
    have CN := Lib.hid (next_no g K d w3 hg3)
    clear hks KK hg3
    go_wp2_with fail
    refine CN.out.mono ?_
    rintro e w4 ⟨rfl, hb4⟩
    exact ⟨rfl, (P3.out.grow (GrowR.below hb4)).below, .inl ⟨F.out, rfl⟩⟩
  rw [hks] at KK
  have CN := Lib.hid (next_ok _ g K m d n ks w3 HO.out hg3 KK)
  have HK := Lib.hid hks
  clear hks KK hg3
  go_wp2_with fail
  refine CN.out.mono ?_
  rintro e w4 ⟨An, nn, cn, Kn, mn, dn, K2, m2, d2, rfl, hin4, hg4, hk4, hgr4⟩
  have A5 : GrowR g w4 (w4.alloc (.cells #[.int .i64 n.tag, .slice An nn cn, .slice Kn mn dn] 28)) := World.grownBy_alloc _ _ _
  have P5 := Lib.hid (P3.out.grow (GrowR.trans _ _ _ hgr4 A5))
  have L0 : w4.heap.size ≠ g := by have := hg4.lt; omega
  have N5 := Lib.hid (ON.mk HO.out L0 (Blk.new w4 28 #[.int .i64 n.tag, .slice An nn cn, .slice Kn mn dn]) (hin4.grownP HO.out A5))
  have G5 := hg4.alloc (.cells #[.int .i64 n.tag, .slice An nn cn, .slice Kn mn dn] 28)
  have K5 := hk4.grown HO.out A5
  have L4 : g < w4.heap.size := hg4.lt
  clear CN P3 hin4 hg4 hk4 hgr4 A5
  go_wp2_with fail
  generalize hn4 : w4.heap.size = gn at *
  generalize w4.alloc (.cells #[.int .i64 n.tag, .slice An nn cn, .slice Kn mn dn] 28) = w5 at *
  have LG : Hid (gn ≠ w.heap.size + 1) := by have := P5.out.far; have := L4; show gn ≠ _; omega
  clear hn4 L4
  rcases ks with _ | ⟨a, ks⟩
  · have F := Lib.hid (opened_one HK.out)
    obtain rfl : m2 = 0 := K5.1.symm
    refine (next_no g K2 d2 w5 G5).mono ?_
    rintro e w6 ⟨rfl, hb6⟩
    exact ⟨rfl, (P5.out.grow (GrowR.below hb6)).below, .inl ⟨F.out, rfl⟩⟩
  refine (next_ok _ g K2 m2 d2 a ks w5 HO.out G5 K5).mono ?_
  rintro e w6 ⟨Aa, na, ca, Ka, ma, da, K3, m3, d3, rfl, hin6, hg6, hk6, hgr6⟩
  have P6 := Lib.hid (P5.out.grow hgr6)
  have N6 := Lib.hid (N5.out.grow hgr6)
  have G6 := Lib.hid hg6
  have K6 := Lib.hid hk6
  clear P5 N5 G5 K5 hin6 hg6 hk6 hgr6
  go_wp2_with fail
  rcases ks with _ | ⟨s, ks⟩
  · have F := Lib.hid (opened_two HK.out)
    obtain rfl : m3 = 0 := K6.out.1.symm
    refine (next_no g K3 d3 w6 G6.out).mono ?_
    rintro e w7 ⟨rfl, hb7⟩
    exact ⟨rfl, (P6.out.grow (GrowR.below hb7)).below, .inl ⟨F.out, rfl⟩⟩
  refine (next_ok _ g K3 m3 d3 s ks w6 HO.out G6.out K6.out).mono ?_
  rintro e w7 ⟨As, ns, cs, Ks, ms, ds, K4, m4, d4, rfl, hin7, hg7, hk7, hgr7⟩
  have P7 := Lib.hid (P6.out.grow hgr7)
  have N7 := Lib.hid (N6.out.grow hgr7)
  have F := Lib.hid (opened_more HK.out)
  have hmem : s ∈ x.kids := by rw [HK.out]; simp
  have hnm : n ∈ x.kids := by rw [HK.out]; simp
  have W0 := Lib.hid (hwr n hnm)
  have hwn : wt n < 30000 := by have := wt_kid hnm; omega
  have hbody : s.body.length ≤ 30000 := by have h1 := wt_kid hmem; have h2 := wt_eq s; have h3 := wtAll_pos s.kids; omega
  have CB := Lib.hid (bytesOf_any s _ w7 (T.InP.in _ hin7) hbody)
  clear P6 N6 G6 K6 hin7 hg7 hk7 hgr7 HK hmem hnm hwr
  go_wp2_with fail
  refine CB.out.mono ?_
  rintro e w8 ⟨hb8, hways⟩
  have P8 := Lib.hid (P7.out.grow (GrowR.below hb8))
  have N8 := Lib.hid (N7.out.grow (GrowR.below hb8))
  clear CB P7 N7 hb8
  rcases hways with ⟨h0, a8, c8, rfl, hr8, hn8, hc8⟩ | ⟨h0, rfl⟩
  rotate_left
  · have F2 : Hid (openedZ x = .error 2) := by rw [F.out]; exact if_neg (fun h => h0 h.1)
    exact ⟨rfl, P8.out.below, .inl ⟨F2.out, rfl⟩⟩
  have F2 : Hid (openedZ x = if sameT (sealT n (ofZ s).1) x = true then .ok (n, (writeZ n).1, (ofZ s).1) else .error 2) := by rw [F.out]; simp [h0, Hid]
  have hsl : (ofZ s).1.length ≤ 30000 := Nat.le_trans (of_len s) hbody
  clear h0 F hbody
  generalize (ofZ s).1 = sig at *
  have R8 := Lib.hid hr8
  have M8 := Lib.hid hn8
  clear hr8 hn8
  have IN := Lib.hid (T.InP.in _ N8.out.has)
  have IX := Lib.hid (T.InP.in _ P8.out.has)
  have CS := Lib.hid (fun W (hW : Below w8.heap.size w8 W) => sealed_any n _ a8 sig.length c8 sig W (T.In.below hW n IN.out) (R8.out.below hW) (by omega) M8.out)
  have l0 : ∀ W, GrowR (w.heap.size + 1) w8.drew W → W.cell? ⟨gn, 0, none⟩ = some (.int .i64 n.tag) := fun W hW => GrowR.cell hW LG.out (N8.out.blk.cell 0)
  have l1 : ∀ W, GrowR (w.heap.size + 1) w8.drew W → W.cell? ⟨gn, 1, none⟩ = some (.slice An nn cn) := fun W hW => GrowR.cell hW LG.out (N8.out.blk.cell 1)
  have l2 : ∀ W, GrowR (w.heap.size + 1) w8.drew W → W.cell? ⟨gn, 2, none⟩ = some (.slice Kn mn dn) := fun W hW => GrowR.cell hW LG.out (N8.out.blk.cell 2)
  have k0 : ∀ W, GrowR (w.heap.size + 1) w8.drew W → W.cell? ⟨w.heap.size, 0, none⟩ = some (.int .i64 x.tag) := fun W hW => GrowR.cell hW (by omega) (P8.out.box.cell 0)
  have k1 : ∀ W, GrowR (w.heap.size + 1) w8.drew W → W.cell? ⟨w.heap.size, 1, none⟩ = some (.slice A nb c) := fun W hW => GrowR.cell hW (by omega) (P8.out.box.cell 1)
  have k2 : ∀ W, GrowR (w.heap.size + 1) w8.drew W → W.cell? ⟨w.heap.size, 2, none⟩ = some (.slice K m d) := fun W hW => GrowR.cell hW (by omega) (P8.out.box.cell 2)
  go_wp2_with fail
  refine wp_region_ord (GrowR (w.heap.size + 1)) (GrowR.refl _) GrowR.trans ((0, false) :: (1, false) :: (3, false) :: (2, true) :: (4, true) :: (5, true) :: []) (by kernel_rfl) (by kernel_rfl) rfl (by kernel_rfl) (fun _ _ _ _ _ h => h) ?_
  repeat (refine ord_take _ rfl (by rfl) (fun W hW => by go_simp; first | done | rfl) ?_; simp only [Act.put, List.setIfInBounds_toArray, List.set_cons_zero, List.set_cons_succ])
  clear l0 l1 l2 k0 k1 k2
  refine ord_sole rfl (by rfl) (fun K1 hK1 => ?_)
  go_simp
  refine (CS.out w8.drew (Below.refl _ _).drew).mono ?_
  rintro e w9 ⟨A9, n9, c9, K9, m9, d9, rfl, hin9, hb9⟩
  refine hK1 _ _ (GrowR.below hb9) ?_
  have E9 : Below w8.heap.size w8 w9 := Ext.of_drew hb9
  have CE := Lib.hid (eqT_any (sealT n sig) x _ _ w9 hin9 (T.In.below E9 x IX.out))
  have P9 := Lib.hid (P8.out.grow (GrowR.below E9))
  have N9 := Lib.hid (N8.out.grow (GrowR.below E9))
  have R9 := Lib.hid (R8.out.below E9)
  clear hK1 K1 CS hb9 hin9 E9 P8 N8 R8 IN IX
  refine ord_sole rfl (by rfl) (fun K1 hK1 => ?_)
  go_simp
  refine CE.out.mono ?_
  rintro e w10 ⟨rfl, hb10⟩
  refine hK1 _ _ (GrowR.below hb10) ?_
  have P10 := Lib.hid (P9.out.grow (GrowR.below hb10))
  have N10 := Lib.hid (N9.out.grow (GrowR.below hb10))
  have R10 := Lib.hid (R9.out.below hb10)
  clear hK1 K1 CE hb10 P9 N9 R9
  refine ord_sole rfl (by rfl) (fun K1 hK1 => ?_)
  go_simp
  refine (demand_any _ w10).mono ?_
  rintro e w11 ⟨rfl, ⟨hb, rfl⟩ | ⟨hb, rfl⟩⟩
  rotate_left
  · have F3 : Hid (openedZ x = .error 2) := by rw [F2.out, hb]; rfl
    exact ⟨rfl, P10.out.below, .inl ⟨F3.out, rfl⟩⟩
  refine hK1 _ _ (GrowR.refl _ _) ?_
  have F3 : Hid (openedZ x = .ok (n, (writeZ n).1, sig)) := by rw [F2.out, hb]; rfl
  clear hK1 K1 hb F2
  refine ord_end ?_
  go_wp2_with fail
  have l0 : ∀ W, GrowR (w.heap.size + 1) w11.drew W → W.cell? ⟨gn, 0, none⟩ = some (.int .i64 n.tag) := fun W hW => GrowR.cell hW LG.out (N10.out.blk.cell 0)
  have l1 : ∀ W, GrowR (w.heap.size + 1) w11.drew W → W.cell? ⟨gn, 1, none⟩ = some (.slice An nn cn) := fun W hW => GrowR.cell hW LG.out (N10.out.blk.cell 1)
  have l2 : ∀ W, GrowR (w.heap.size + 1) w11.drew W → W.cell? ⟨gn, 2, none⟩ = some (.slice Kn mn dn) := fun W hW => GrowR.cell hW LG.out (N10.out.blk.cell 2)
  refine wp_region_ord (GrowR (w.heap.size + 1)) (GrowR.refl _) GrowR.trans ((0, false) :: (1, false) :: (6, false) :: (2, true) :: (3, false) :: (4, false) :: (5, true) :: (7, false) :: (8, true) :: []) (by kernel_rfl) (by kernel_rfl) rfl (by kernel_rfl) (fun _ _ _ _ _ h => h) ?_
  repeat (refine ord_take _ rfl (by rfl) (fun W hW => by go_simp; first | done | rfl) ?_; simp only [Act.put, List.setIfInBounds_toArray, List.set_cons_zero, List.set_cons_succ])
  clear l0 l1 l2
  have CW := Lib.hid (twrite_big n _ w11.drew (T.In.below (w := w11) (Below.refl _ _).drew n (T.InP.in _ N10.out.has)) (by omega))
  refine ord_sole rfl (by rfl) (fun K1 hK1 => ?_)
  go_simp
  refine CW.out.mono ?_
  rintro e w12 ⟨a12, c12, rfl, hr12, hn12, hb12, _⟩
  refine hK1 _ _ (GrowR.below hb12) ?_
  have E12 : Below w11.heap.size w11 w12 := Ext.of_drew hb12
  have P12 := Lib.hid (P10.out.grow (GrowR.below E12))
  have N12 := Lib.hid (N10.out.grow (GrowR.below E12))
  have R12 := Lib.hid (R10.out.below E12)
  have Q12 := Lib.hid hr12
  have V12 := Lib.hid hn12
  clear hK1 K1 CW hb12 E12 P10 N10 R10 hr12 hn12
  rw [W0.out]
  repeat (refine ord_take _ rfl (by rfl) (fun W hW => by go_simp; first | done | rfl) ?_; simp only [Act.put, List.setIfInBounds_toArray, List.set_cons_zero, List.set_cons_succ])
  refine ord_sole rfl (by rfl) (fun K1 hK1 => ?_)
  go_simp
  refine (must_bytes a12 _ c12 w12).mono ?_
  rintro e w13 ⟨rfl, rfl⟩
  refine hK1 _ _ (GrowR.refl _ _) ?_
  clear hK1 K1
  repeat (refine ord_take _ rfl (by rfl) (fun W hW => by go_simp; first | done | rfl) ?_; simp only [Act.put, List.setIfInBounds_toArray, List.set_cons_zero, List.set_cons_succ])
  have s0 := P12.out.res.cell 0
  have s1 := P12.out.res.cell 1
  have s2 := P12.out.res.cell 2
  have s3 := P12.out.res.cell 3
  have s4 := P12.out.res.cell 4
  have f0 := P12.out.res.free 0
  have f1 := P12.out.res.free 1
  have f2 := P12.out.res.free 2
  have f3 := P12.out.res.free 3
  have f4 := P12.out.res.free 4
  refine ord_sole rfl (by rfl) (fun K1 hK1 => ?_)
  go_simp
  refine hK1 _ _ (five_grow _ _ _ _ _ _ _) ?_
  clear hK1 K1 s0 s1 s2 s3 s4 f0 f1 f2 f3 f4
  refine ord_end ?_
  go_wp2_with fail
  exact gives_opened rfl rfl P12.out.res (Nat.le_succ _) P12.out.below F3.out HR.out N12.out.has Q12.out V12.out R12.out M8.out

end Go.Proofs.YtgmefdmeeihgoaaDoor

namespace Go.Proofs.YtgmefdmeeihgoaaDoor
open Go.RowKit
set_option linter.unusedVariables false
set_option linter.unusedSimpArgs false

/-- What the deferred closure leaves behind a panic: nothing, and the error. -/
def caughtO (w : World) (p q : Nat) : World := (((((((w.alloc (.cells #[.int .i64 0, .slice none 0 0, .slice none 0 0, .slice none 0 0, .slice none 0 0] 57)).setCell ⟨p, 0, none⟩ (.int .i64 0)).setCell ⟨p, 1, none⟩ (.slice none 0 0)).setCell ⟨p, 2, none⟩ (.slice none 0 0)).setCell ⟨p, 3, none⟩ (.slice none 0 0)).setCell ⟨p, 4, none⟩ (.slice none 0 0)).setCell ⟨q, 0, none⟩ (.int .i64 2))

theorem Blk.five {w : World} {g : Nat} {t : TypeId} {a b c d e : Value} (h : Blk w g t #[a, b, c, d, e]) : w.cell? ⟨g, 0, none⟩ = some a ∧ w.cell? ⟨g, 1, none⟩ = some b ∧ w.cell? ⟨g, 2, none⟩ = some c ∧ w.cell? ⟨g, 3, none⟩ = some d ∧ w.cell? ⟨g, 4, none⟩ = some e ∧ w.frozen? ⟨g, 0, none⟩ = false ∧ w.frozen? ⟨g, 1, none⟩ = false ∧ w.frozen? ⟨g, 2, none⟩ = false ∧ w.frozen? ⟨g, 3, none⟩ = false ∧ w.frozen? ⟨g, 4, none⟩ = false :=
  ⟨h.cell 0, h.cell 1, h.cell 2, h.cell 3, h.cell 4, h.free 0, h.free 1, h.free 2, h.free 3, h.free 4⟩

set_option maxHeartbeats 1000000 in
theorem ocatch_panicking (p q : Nat) (y : Int) (a b c d x : Value) (w : World) (hp : Blk w p 57 #[a, b, c, d, x]) (hq : Blk w q 32 #[.int .i64 y]) (hne : q ≠ p) :
    CallsD Tryd.prog 47 #[.pointer (some ⟨p, 0, none⟩), .pointer (some ⟨q, 0, none⟩)] (.panicking (errP 2)) w fun e u' w' =>
      e = .returned (.tuple #[]) ∧ u' = .panicking [{ v := .iface 32 (.int .i64 2), recovered := true }] ∧ w' = caughtO w p q := by
  have hp2 := hp.alloc (.cells #[.int .i64 0, .slice none 0 0, .slice none 0 0, .slice none 0 0, .slice none 0 0] 57)
  have hq2 := hq.alloc (.cells #[.int .i64 0, .slice none 0 0, .slice none 0 0, .slice none 0 0, .slice none 0 0] 57)
  obtain ⟨p0, p1, p2, p3, p4, f0, f1, f2, f3, f4⟩ := hp2.five
  have q0 := hq2.cell 0
  have g0 := hq2.free 0
  simp only [List.getElem?_toArray, List.getElem?_cons_zero] at q0
  refine callsD_of_wpS Tryd.func47 rfl fun c₀ cs hu => ?_
  unfold errP at hu
  apply wpS_seq
  apply wpS_region
  simp [wpOpsS, go_sem, recoverD, hu, Tryd.ntmps47, Exit.thenS]
  refine wpS_of_wp ?_
  change Code.wp Tryd.prog _ _ ⟨#[.pointer (some ⟨p, 0, none⟩), .pointer (some ⟨q, 0, none⟩), undef, .iface 32 (.int .i64 2), .bool true, undef], []⟩ w
  go_wp2_with fail
  exact ⟨rfl, _, rfl, .tuple #[], by simp [results, Tryd.results47], rfl, rfl, rfl⟩

set_option maxHeartbeats 1000000 in
theorem ocatch_idle (p q : Nat) (w : World) :
    CallsD Tryd.prog 47 #[.pointer (some ⟨p, 0, none⟩), .pointer (some ⟨q, 0, none⟩)] .returning w fun e u' w' => e = .returned (.tuple #[]) ∧ u' = .returning ∧ w' = w := by
  refine callsD_of_wpS Tryd.func47 rfl fun c₀ cs hu => ?_
  apply wpS_seq
  apply wpS_region
  simp [wpOpsS, go_sem, recoverD, hu, Tryd.ntmps47, Exit.thenS]
  refine wpS_of_wp ?_
  change Code.wp Tryd.prog _ _ ⟨#[.pointer (some ⟨p, 0, none⟩), .pointer (some ⟨q, 0, none⟩), undef, .nilIface, .bool false, undef], []⟩ w
  go_wp2_with fail
  refine ⟨rfl, .returning, ?_, .tuple #[], by simp [results, Tryd.results47], rfl, rfl, rfl⟩
  cases c₀
  simp_all

theorem caught_open {w : World} {p q : Nat} {y : Int} {a b c d x : Value} (hp : Blk w p 57 #[a, b, c, d, x]) (hq : Blk w q 32 #[.int .i64 y]) (hne : q ≠ p) :
    Blk (caughtO w p q) p 57 #[.int .i64 0, .slice none 0 0, .slice none 0 0, .slice none 0 0, .slice none 0 0] ∧ Blk (caughtO w p q) q 32 #[.int .i64 2] ∧ ∀ B, B ≤ p → B ≤ q → B ≤ w.heap.size → Below B w (caughtO w p q) := by
  have hp2 := hp.alloc (.cells #[.int .i64 0, .slice none 0 0, .slice none 0 0, .slice none 0 0, .slice none 0 0] 57)
  have hq2 := hq.alloc (.cells #[.int .i64 0, .slice none 0 0, .slice none 0 0, .slice none 0 0, .slice none 0 0] 57)
  refine ⟨(((((hp2.set 0 _).set 1 _).set 2 _).set 3 _).set 4 _).far (Ne.symm hne) 0 _, (((((hq2.far hne 0 _).far hne 1 _).far hne 2 _).far hne 3 _).far hne 4 _).set 0 _, fun B h1 h2 h3 => ?_⟩
  exact (((((((Below.refl B w).alloc h3 _).setCell h1 _).setCell h1 _).setCell h1 _).setCell h1 _).setCell h1 _).setCell h2 _

theorem errno_zero : ∀ (j : Nat) (x : Int), (#[Value.int .i64 0] : Array Value)[j]? ≠ some (.int .u8 x) := by
  intro j x h
  rcases j with _ | j <;> simp at h
theorem stored_open {w : World} {p q B : Nat} (hp : Blk w p 57 #[.int .i64 0, .slice none 0 0, .slice none 0 0, .slice none 0 0, .slice none 0 0]) (hq : Blk w q 32 #[.int .i64 0]) (hne : q ≠ p) (h1 : B ≤ p) (h2 : B ≤ q) (h3 : B ≤ w.heap.size) (a b c d e : Value) :
    Blk ((((((w.setCell ⟨p, 0, none⟩ a).setCell ⟨p, 1, none⟩ b).setCell ⟨p, 2, none⟩ c).setCell ⟨p, 3, none⟩ d).setCell ⟨p, 4, none⟩ e).setCell ⟨q, 0, none⟩ (.int .i64 0)) p 57 #[a, b, c, d, e] ∧
    Blk ((((((w.setCell ⟨p, 0, none⟩ a).setCell ⟨p, 1, none⟩ b).setCell ⟨p, 2, none⟩ c).setCell ⟨p, 3, none⟩ d).setCell ⟨p, 4, none⟩ e).setCell ⟨q, 0, none⟩ (.int .i64 0)) q 32 #[.int .i64 0] ∧
    Below B w ((((((w.setCell ⟨p, 0, none⟩ a).setCell ⟨p, 1, none⟩ b).setCell ⟨p, 2, none⟩ c).setCell ⟨p, 3, none⟩ d).setCell ⟨p, 4, none⟩ e).setCell ⟨q, 0, none⟩ (.int .i64 0)) ∧
    ∀ (P : Nat → Prop) (n : T) (v : Value), (∀ b, P b → b ≠ p ∧ b ≠ q) → (n.InP P w v → n.InP P ((((((w.setCell ⟨p, 0, none⟩ a).setCell ⟨p, 1, none⟩ b).setCell ⟨p, 2, none⟩ c).setCell ⟨p, 3, none⟩ d).setCell ⟨p, 4, none⟩ e).setCell ⟨q, 0, none⟩ (.int .i64 0)) v) ∧
      ∀ (r : Option Addr) (k : Nat) (zs : List Int), Row w r k zs → Row ((((((w.setCell ⟨p, 0, none⟩ a).setCell ⟨p, 1, none⟩ b).setCell ⟨p, 2, none⟩ c).setCell ⟨p, 3, none⟩ d).setCell ⟨p, 4, none⟩ e).setCell ⟨q, 0, none⟩ (.int .i64 0)) r k zs := by
  have G5 := five_grow p w a b c d e
  have hqf := ((((hq.far hne 0 a).far hne 1 b).far hne 2 c).far hne 3 d).far hne 4 e
  have G6 := grown_set (((((w.setCell ⟨p, 0, none⟩ a).setCell ⟨p, 1, none⟩ b).setCell ⟨p, 2, none⟩ c).setCell ⟨p, 3, none⟩ d).setCell ⟨p, 4, none⟩ e) q 0 (.int .i64 0)
  refine ⟨(((((hp.set 0 a).set 1 b).set 2 c).set 3 d).set 4 e).far (Ne.symm hne) 0 _, hqf.set 0 _, (grown_below G5 B h1 h3).trans (grown_below G6 B h2 (by have := G5.size; omega)), fun P n v hP => ⟨fun hin => ?_, fun r k zs hr => ?_⟩⟩
  · exact (hin.grownP (fun b hb => (hP b hb).1) G5).grownP (fun b hb => (hP b hb).2) G6
  · have h := row_grown hr (row_off hr hp opened_zeros) G5
    exact row_grown h (row_off h hqf errno_zero) G6

/-- Both results in memory. -/
theorem results_two {P : Program} {fn : Func} {p q : Tmp} {ty t2 : TypeId} (h : fn.results = #[.cell p ty, .cell q t2]) (tmps : Array Value) (w : World) (g g2 : Nat) (t : TypeId) (cs : Array Value) (fr : Nat × Nat) (d : TypeDesc) (z : Int)
    (hp : tmps.getD p undef = .pointer (some ⟨g, 0, none⟩)) (hg : w.heap[g]? = some (.cells cs t fr)) (hq : tmps.getD q undef = .pointer (some ⟨g2, 0, none⟩)) (hg2 : w.cell? ⟨g2, 0, none⟩ = some (.int .i64 z))
    (hu : P.underlying ty = some d) (hd : (match d with | .struct _ | .array _ _ => true | _ => false) = true) (hi : (P.info? ty).map (·.size) = some cs.size) (hu2 : P.underlying t2 = some (.int .i64)) :
    (results fn tmps).run P w = .ok (.tuple #[.agg cs, .int .i64 z]) w := results_pair h tmps w g g2 t cs fr d z hp hg hq hg2 hu hd hi hu2

def GivesOpen (P : Nat → Prop) (x : Except Int (T × List Int × List Int)) (w : World) (e : Ending) (w' : World) : Prop := Below w.heap.size w w' ∧
  ((∃ z, x = .error z ∧ e = .returned (.tuple #[.agg #[.int .i64 0, .slice none 0 0, .slice none 0 0, .slice none 0 0, .slice none 0 0], .int .i64 z])) ∨
   (∃ (n : T) (said sig : List Int) (A : Option Addr) (nn c : Nat) (K : Option Addr) (m d : Nat) (a1 : Option Addr) (c1 : Nat) (a2 : Option Addr) (c2 : Nat), x = .ok (n, said, sig) ∧ e = .returned (.tuple #[.agg #[.int .i64 n.tag, .slice A nn c, .slice K m d, .slice a1 said.length c1, .slice a2 sig.length c2], .int .i64 0]) ∧
      n.InP P w' (.agg #[.int .i64 n.tag, .slice A nn c, .slice K m d]) ∧ Row w' a1 said.length said ∧ (a1 = none → c1 = 0) ∧ Row w' a2 sig.length sig ∧ (a2 = none → c2 = 0)))

set_option maxHeartbeats 2000000 in
theorem oparsed_any (P : Nat → Prop) (x : T) (v : Value) (w : World) (hP : ∀ b, P b → b < w.heap.size) (hin : x.InP P w v) (hwt : wt x < 30000) (hwr : ∀ k ∈ x.kids, (writeZ k).2 = 0) : Calls Tryd.prog 25 #[v, .func (.func 26) #[] #[]] w (GivesOpen P (openedZ x) w) := by
  have hmf : ∀ (fn : Fn) (first cap : Array Value) (w : World), (Instr.makeFunc fn first cap).run Tryd.prog w = .ok (.func fn first cap) w := fun _ _ _ _ => rfl
  obtain ⟨A, nb, c, K, m, d, rfl⟩ := hin.form
  have BX := Lib.hid (Box.start (T.InP.in _ hin))
  have P0 := Blk.new (w.alloc (.cells #[.int .i64 x.tag, .slice A nb c, .slice K m d] 28)) 57 #[.int .i64 0, .slice none 0 0, .slice none 0 0, .slice none 0 0, .slice none 0 0]
  have Q0 := Blk.new ((w.alloc (.cells #[.int .i64 x.tag, .slice A nb c, .slice K m d] 28)).alloc (.cells #[.int .i64 0, .slice none 0 0, .slice none 0 0, .slice none 0 0, .slice none 0 0] 57)) 32 #[.int .i64 0]
  have P1 := P0.alloc (.cells #[.int .i64 0] 32)
  rw [show (w.alloc (.cells #[.int .i64 x.tag, .slice A nb c, .slice K m d] 28)).heap.size = w.heap.size + 1 by simp] at P1
  rw [show ((w.alloc (.cells #[.int .i64 x.tag, .slice A nb c, .slice K m d] 28)).alloc (.cells #[.int .i64 0, .slice none 0 0, .slice none 0 0, .slice none 0 0, .slice none 0 0] 57)).heap.size = w.heap.size + 1 + 1 by simp] at Q0
  have b2 : Below w.heap.size w (((w.alloc (.cells #[.int .i64 x.tag, .slice A nb c, .slice K m d] 28)).alloc (.cells #[.int .i64 0, .slice none 0 0, .slice none 0 0, .slice none 0 0, .slice none 0 0] 57)).alloc (.cells #[.int .i64 0] 32)) := (((Below.refl _ _).alloc (Nat.le_refl _) _).alloc (by simp) _).alloc (by simp; omega) _
  have CO := Lib.hid (openedOf_any P x _ _ (fun b hb => Nat.lt_of_lt_of_le (hP b hb) b2.size) (T.InP.below b2 (fun _ h => h) _ hin) hwt hwr)
  have P2 := Lib.hid P1
  have Q2 := Lib.hid Q0
  have B2 := Lib.hid b2
  have HP := Lib.hid hP
  clear P0 P1 Q0 b2 hin hwr hP
  go_enter_defers Tryd.func25, Tryd.ntmps25
  obtain ⟨g0, g1, g2⟩ := BX.out.cells
  go_wp2_with fail
  refine CO.out.mono ?_
  rintro e w3 ⟨hb3, hways⟩
  have P3 := Lib.hid (P2.out.below hb3 P2.out.lt)
  have Q3 := Lib.hid (Q2.out.below hb3 Q2.out.lt)
  have B3 := Lib.hid (B2.out.trans (hb3.mono B2.out.size))
  clear CO P2 Q2 B2 hb3 g0 g1 g2 BX
  rcases hways with ⟨hz, rfl⟩ | ⟨n, said, sig, A1, nn, c1, K1, m1, d1, a2, c2, a3, c3, hz, rfl, hin, hr1, hn1, hr2, hn2⟩
  · refine leaves_cons (f := 47) (args := #[.pointer (some ⟨w.heap.size + 1, 0, none⟩), .pointer (some ⟨w.heap.size + 1 + 1, 0, none⟩)]) (by simp) (by simp [go_sem]) ?_
    refine (ocatch_panicking (w.heap.size + 1) (w.heap.size + 1 + 1) 0 _ _ _ _ _ _ P3.out Q3.out (by omega)).mono ?_
    rintro e u' w5 ⟨rfl, rfl, rfl⟩
    have C := caught_open P3.out Q3.out (by omega)
    exact ⟨_, results_two rfl _ _ (w.heap.size + 1) (w.heap.size + 1 + 1) 57 _ (0, 0) _ 2 rfl C.1 rfl (C.2.1.cell 0) Tryd.underlying57 rfl Tryd.sizeOpened Tryd.underlying32, B3.out.trans (C.2.2 _ (by omega) (by omega) B3.out.size), .inl ⟨2, hz, rfl⟩⟩
  · obtain ⟨p0, p1, p2, p3, p4, f0, f1, f2, f3, f4⟩ := P3.out.five
    have q0 := Q3.out.cell 0
    have h0 := Q3.out.free 0
    simp only [List.getElem?_toArray, List.getElem?_cons_zero] at q0
    have HZ := Lib.hid hz
    have IN := Lib.hid hin
    have R1 := Lib.hid hr1
    have R2 := Lib.hid hr2
    have N1 := Lib.hid hn1
    have N2 := Lib.hid hn2
    clear hz hin hr1 hr2 hn1 hn2
    go_wp2_with fail
    refine leaves_cons (f := 47) (args := #[.pointer (some ⟨w.heap.size + 1, 0, none⟩), .pointer (some ⟨w.heap.size + 1 + 1, 0, none⟩)]) (by simp) (by simp [go_sem]) ?_
    refine (ocatch_idle (w.heap.size + 1) (w.heap.size + 1 + 1) _).mono ?_
    rintro e u' w5 ⟨rfl, rfl, rfl⟩
    obtain ⟨C1, C2, C3, C4⟩ := stored_open (B := w.heap.size) P3.out Q3.out (by omega) (by omega) (by omega) B3.out.size (.int .i64 n.tag) (.slice A1 nn c1) (.slice K1 m1 d1) (.slice a2 said.length c2) (.slice a3 sig.length c3)
    exact ⟨_, results_two rfl _ _ (w.heap.size + 1) (w.heap.size + 1 + 1) 57 _ (0, 0) _ 0 rfl C1 rfl (C2.cell 0) Tryd.underlying57 rfl Tryd.sizeOpened Tryd.underlying32, B3.out.trans C3, .inr ⟨n, said, sig, A1, nn, c1, K1, m1, d1, a2, c2, a3, c3, HZ.out, rfl, (C4 P n _ (fun b hb => (by have := HP.out b hb; exact ⟨by omega, by omega⟩))).1 IN.out, (C4 P n (.int .i64 0) (fun b hb => (by have := HP.out b hb; exact ⟨by omega, by omega⟩))).2 _ _ _ R1.out, N1.out, (C4 P n (.int .i64 0) (fun b hb => (by have := HP.out b hb; exact ⟨by omega, by omega⟩))).2 _ _ _ R2.out, N2.out⟩⟩

end Go.Proofs.YtgmefdmeeihgoaaDoor

namespace Go.Proofs.YtgmefdmeeihgoaaDoor
open Go.RowKit
set_option linter.unusedVariables false
set_option linter.unusedSimpArgs false

/-- What is read can be written, and so can all within. -/
theorem read_fit {zs : List Int} {x : T} (hb : ∀ z ∈ zs, 0 ≤ z ∧ z ≤ 255) (h : readZ zs = .ok x) : wt x < 30000 ∧ ∀ k ∈ x.kids, (writeZ k).2 = 0 := by
  obtain ⟨hw, hr⟩ := write_read hb h
  have h0 : (writeZ x).2 = 0 := by rw [hw]
  have f := write_fit h0
  have := wt_le x hr
  refine ⟨by omega, fun k hk => ?_⟩
  cases hwi : withinB x.tag
  · have := (right_parts hr).2.2.1 hwi
    rw [this] at hk
    simp at hk
  · exact (write_kid h0 hwi hk).1

/-- What Open hands back. -/
def GivesOpn (x : Except Int (T × List Int × List Int)) (w : World) (e : Ending) (w' : World) : Prop := Below w.heap.size w w' ∧
  ((∃ z, x = .error z ∧ ¬ z = 0 ∧ e = .returned (.tuple #[.agg #[.int .i64 0, .slice none 0 0, .slice none 0 0], .slice none 0 0, .slice none 0 0, .int .i64 z])) ∨
   (∃ (n : T) (said sig : List Int) (A : Option Addr) (nn c : Nat) (K : Option Addr) (m d : Nat) (a1 : Option Addr) (c1 : Nat) (a2 : Option Addr) (c2 : Nat), x = .ok (n, said, sig) ∧ e = .returned (.tuple #[.agg #[.int .i64 n.tag, .slice A nn c, .slice K m d], .slice a1 said.length c1, .slice a2 sig.length c2, .int .i64 0]) ∧
      n.In w' (.agg #[.int .i64 n.tag, .slice A nn c, .slice K m d]) ∧ Row w' a1 said.length said ∧ (a1 = none → c1 = 0) ∧ Row w' a2 sig.length sig ∧ (a2 = none → c2 = 0)))

theorem results_four {P : Program} {fn : Func} {p u1 u2 u3 : Tmp} {ty : TypeId} (h : fn.results = #[.cell p ty, .tmp u1, .tmp u2, .tmp u3]) (tmps : Array Value) (w : World) (g : Nat) (t : TypeId) (cs : Array Value) (fr : Nat × Nat) (d : TypeDesc)
    (hp : tmps.getD p undef = .pointer (some ⟨g, 0, none⟩)) (hg : w.heap[g]? = some (.cells cs t fr))
    (hu : P.underlying ty = some d) (hd : (match d with | .struct _ | .array _ _ => true | _ => false) = true) (hi : (P.info? ty).map (·.size) = some cs.size) :
    (results fn tmps).run P w = .ok (.tuple #[.agg cs, tmps.getD u1 undef, tmps.getD u2 undef, tmps.getD u3 undef]) w := by
  have hp' : tmps[p]?.getD undef = .pointer (some ⟨g, 0, none⟩) := by simpa using hp
  simp [results, h, hp', asAddr, run_loadVar_row w g t ty cs fr d hg hu hd hi, Result.andThen]

/-- The error of an element's reading is none of nought. -/
theorem head_pos {l : List Int} {z : Int} (h : headL l = .error z) : ¬ z = 0 := by
  unfold headL at h
  repeat' (split at h)
  all_goals (cases h; try decide)
theorem elemW_pos {rec : Nat → List Int → Except Int (List T)} (hrec : ∀ d l z, rec d l = .error z → ¬ z = 0) {deep : Nat} {l : List Int} {z : Int} (h : elemW rec deep l = .error z) : ¬ z = 0 := by
  unfold elemW at h
  split at h
  · rename_i e he
    cases h
    exact head_pos he
  · split at h
    · cases h; decide
    · split at h
      · cases h; decide
      · split at h
        · split at h
          · rename_i e he
            cases h
            have := hrec _ _ _ he
            split <;> omega
          · cases h
        · cases h
theorem kids_pos : ∀ (f deep : Nat) (l : List Int) (z : Int), kidsZ f deep l = .error z → ¬ z = 0
  | 0, _, _, _, h => by
    unfold kidsZ at h
    cases h
  | f + 1, deep, l, z, h => by
    unfold kidsZ at h
    split at h
    · cases h
    · split at h
      · rename_i e he
        cases h
        exact elemW_pos (fun d l z h => kids_pos f d l z h) he
      · split at h
        · rename_i e he
          cases h
          exact kids_pos f _ _ _ he
        · cases h
theorem read_err {zs : List Int} {z : Int} (h : readZ zs = .error z) : ¬ z = 0 := by
  unfold readZ at h
  split at h
  · cases h; decide
  · split at h
    · rename_i e he
      cases h
      exact elemW_pos (fun d l z h => kids_pos _ d l z h) he
    · split at h <;> cases h
      decide

theorem three_grow (g : Nat) (W : World) (a b c : Value) : GrowR g W (((W.setCell ⟨g, 0, none⟩ a).setCell ⟨g, 1, none⟩ b).setCell ⟨g, 2, none⟩ c) :=
  grown_trans (grown_trans (grown_set W g 0 a) (grown_set _ g 1 b)) (grown_set _ g 2 c)
theorem node_zeros : ∀ (j : Nat) (x : Int), (#[Value.int .i64 0, .slice none 0 0, .slice none 0 0] : Array Value)[j]? ≠ some (.int .u8 x) := by
  intro j x h
  rcases j with _ | _ | _ | j <;> simp at h
set_option maxHeartbeats 2000000 in
theorem open_any (a : Option Addr) (n ca : Nat) (zs : List Int) (w : World) (hr : Row w a n zs) (hnc : n ≤ ca) (hn : n ≤ 30000) (hnil : a = none → ca = 0) : Calls Tryd.prog 13 #[.slice a n ca] w (GivesOpn (openZ zs) w) := by
  have b1 : Below w.heap.size w (w.alloc (.cells #[.int .i64 0, .slice none 0 0, .slice none 0 0] 28)) := (Below.refl _ _).alloc (Nat.le_refl _) _
  have S0 := Lib.hid (Blk.new w 28 #[.int .i64 0, .slice none 0 0, .slice none 0 0])
  have CR := Lib.hid (tread_any a n ca zs _ (hr.below b1) hnc hn hnil)
  have HB := Lib.hid hr.2.1
  have B1 := Lib.hid b1
  clear b1 hr
  go_enter Tryd.func13, Tryd.ntmps13
  go_wp2_with fail
  generalize hw1 : w.alloc (.cells #[.int .i64 0, .slice none 0 0, .slice none 0 0] 28) = w1 at *
  have hs1 : Hid (w.heap.size < w1.heap.size) := S0.out.lt
  clear hw1
  refine CR.out.mono ?_
  rintro e w2 ⟨hb2, hways⟩
  have S2 := Lib.hid (S0.out.below hb2 S0.out.lt)
  have B2 := Lib.hid (Below.step B1.out (hb2.mono (Nat.le_refl _)))
  clear S0 B1
  rcases hways with ⟨z, hz, rfl⟩ | ⟨x, v, hx, rfl, hin⟩
  · have F : Hid (openZ zs = .error z) := by unfold openZ; rw [hz]; exact Lib.hid rfl
    have hz0 := read_err hz
    have t0 : (z != 0) = true := by simpa using hz0
    have S3 := Lib.hid (S2.out.alloc (.cells #[.int .i64 0, .slice none 0 0, .slice none 0 0] 28))
    have B3 := Lib.hid (B2.out.alloc B2.out.size (.cells #[.int .i64 0, .slice none 0 0, .slice none 0 0] 28))
    obtain ⟨p0, p1, p2, f0, f1, f2⟩ := S3.out.facts
    have HZ := Lib.hid hz0
    clear hz hz0 CR HB hb2
    go_wp2_with fail
    have C := ((S3.out.set 0 (.int .i64 0)).set 1 (.slice none 0 0)).set 2 (.slice none 0 0)
    exact bodyPost_ret (results_four rfl _ _ w.heap.size 28 _ (0, 0) _ rfl C Tryd.underlying28 rfl Tryd.sizeNode) rfl ⟨((B3.out.setCell (Nat.le_refl _) _).setCell (Nat.le_refl _) _).setCell (Nat.le_refl _) _, .inl ⟨z, F.out, HZ.out, rfl⟩⟩
  · obtain ⟨A, nb, c, K, m, d, rfl⟩ := hin.form
    have F : Hid (openZ zs = openedZ x) := by unfold openZ; rw [hx]; exact Lib.hid rfl
    obtain ⟨hwt, hwr⟩ := read_fit HB.out hx
    have A3 : Below w2.heap.size w2 (w2.alloc (.cells #[.int .i64 x.tag, .slice A nb c, .slice K m d] 28)) := (Below.refl _ _).alloc (Nat.le_refl _) _
    have S3 := Lib.hid (S2.out.below A3 S2.out.lt)
    have X3 := Lib.hid (Blk.new w2 28 #[.int .i64 x.tag, .slice A nb c, .slice K m d])
    have B3 := Lib.hid (B2.out.trans (A3.mono B2.out.size))
    have I3 : x.InP (fun b => w.heap.size < b ∧ b < (w2.alloc (.cells #[.int .i64 x.tag, .slice A nb c, .slice K m d] 28)).heap.size) (w2.alloc (.cells #[.int .i64 x.tag, .slice A nb c, .slice K m d] 28)) (.agg #[.int .i64 x.tag, .slice A nb c, .slice K m d]) :=
      T.InP.keep (fun b hb (hp : w1.heap.size ≤ b) => ⟨⟨by have := hs1.out; omega, Nat.lt_of_lt_of_le hb A3.size⟩, A3.block b hb⟩) A3.size _ hin
    have CO := Lib.hid (oparsed_any _ x _ _ (fun b hb => hb.2) I3 hwt hwr)
    obtain ⟨x0, x1, x2, _, _, _⟩ := X3.out.facts
    clear hin hx CR HB hb2 hwt hwr A3 I3 S2 B2
    go_wp2_with fail
    generalize hw3 : w2.alloc (.cells #[.int .i64 x.tag, .slice A nb c, .slice K m d] 28) = w3 at *
    refine CO.out.mono ?_
    rintro e w4 ⟨hb4, hways⟩
    have S4 := Lib.hid (S3.out.below hb4 S3.out.lt)
    have B4 := Lib.hid (B3.out.trans (hb4.mono B3.out.size))
    have hs4 : Hid (w.heap.size < w4.heap.size) := S4.out.lt
    clear CO S3 X3 B3 hb4 hw3 x0 x1 x2
    rcases hways with ⟨z, hz, rfl⟩ | ⟨t, said, sig, A1, n1, c1, K1, m1, d1, a2, c2, a3, c3, hz, rfl, hin, hr1, hn1, hr2, hn2⟩
    · obtain rfl := opened_err hz
      have HZ := Lib.hid hz
      clear hz
      have A5 : Below w4.heap.size w4 (w4.alloc (.cells #[.int .i64 0, .slice none 0 0, .slice none 0 0, .slice none 0 0, .slice none 0 0] 57)) := (Below.refl _ _).alloc (Nat.le_refl _) _
      have S5 := Lib.hid (S4.out.below A5 S4.out.lt)
      have B5 := Lib.hid (B4.out.trans (A5.mono B4.out.size))
      have Y5 := Lib.hid (Blk.new w4 57 #[.int .i64 0, .slice none 0 0, .slice none 0 0, .slice none 0 0, .slice none 0 0])
      have hne : w4.heap.size ≠ w.heap.size := by have := hs4.out; omega
      clear S4 B4 A5
      go_wp2_with fail
      generalize (w4.alloc (.cells #[.int .i64 0, .slice none 0 0, .slice none 0 0, .slice none 0 0, .slice none 0 0] 57)) = w5 at *
      generalize w4.heap.size = g7 at *
      have y0 : ∀ W, GrowR w.heap.size w5.drew W → W.cell? ⟨g7, 0, none⟩ = some (.int .i64 0) := fun W hW => GrowR.cell hW hne (Y5.out.cell 0)
      have y1 : ∀ W, GrowR w.heap.size w5.drew W → W.cell? ⟨g7, 1, none⟩ = some (.slice none 0 0) := fun W hW => GrowR.cell hW hne (Y5.out.cell 1)
      have y2 : ∀ W, GrowR w.heap.size w5.drew W → W.cell? ⟨g7, 2, none⟩ = some (.slice none 0 0) := fun W hW => GrowR.cell hW hne (Y5.out.cell 2)
      have y3 : ∀ W, GrowR w.heap.size w5.drew W → W.cell? ⟨g7, 3, none⟩ = some (.slice none 0 0) := fun W hW => GrowR.cell hW hne (Y5.out.cell 3)
      have y4 : ∀ W, GrowR w.heap.size w5.drew W → W.cell? ⟨g7, 4, none⟩ = some (.slice none 0 0) := fun W hW => GrowR.cell hW hne (Y5.out.cell 4)
      clear Y5
      refine wp_region_ord (GrowR w.heap.size) (GrowR.refl _) GrowR.trans ((0, false) :: (1, false) :: (2, false) :: (3, false) :: (4, false) :: (5, false) :: (6, false) :: (7, true) :: (8, false) :: (9, false) :: (10, false) :: []) (by kernel_rfl) (by kernel_rfl) rfl (by kernel_rfl) (fun _ _ _ _ _ h => h) ?_
      repeat (refine ord_take _ rfl (by rfl) (fun W hW => by go_simp; first | done | rfl) ?_; simp only [Act.put, List.setIfInBounds_toArray, List.set_cons_zero, List.set_cons_succ])
      clear y0 y1 y2 y3 y4
      have S6 : Hid (Blk w5.drew w.heap.size 28 #[.int .i64 0, .slice none 0 0, .slice none 0 0]) := S5.out
      have B6 : Hid (Below w.heap.size w w5.drew) := B5.out.drew
      clear S5 B5
      generalize w5.drew = w6 at *
      obtain ⟨p0, p1, p2, f0, f1, f2⟩ := S6.out.facts
      refine ord_sole rfl (by rfl) (fun K1 hK1 => ?_)
      go_simp
      refine hK1 _ _ (three_grow _ _ _ _ _) ?_
      clear hK1 K1
      repeat (refine ord_take _ rfl (by rfl) (fun W hW => by go_simp; first | done | rfl) ?_; simp only [Act.put, List.setIfInBounds_toArray, List.set_cons_zero, List.set_cons_succ])
      refine ord_end ?_
      go_wp2_with fail
      have C := ((S6.out.set 0 (.int .i64 0)).set 1 (.slice none 0 0)).set 2 (.slice none 0 0)
      have BB := B6.out.trans (three_past (B := w.heap.size) (g := w.heap.size) w6 (Nat.le_refl _) (.int .i64 0) (.slice none 0 0) (.slice none 0 0))
      exact bodyPost_ret (results_four rfl _ _ w.heap.size 28 _ (0, 0) _ rfl C Tryd.underlying28 rfl Tryd.sizeNode) rfl ⟨BB, .inl ⟨2, F.out.trans HZ.out, by decide, rfl⟩⟩
    · have HZ := Lib.hid hz
      have A5 : Below w4.heap.size w4 (w4.alloc (.cells #[.int .i64 t.tag, .slice A1 n1 c1, .slice K1 m1 d1, .slice a2 said.length c2, .slice a3 sig.length c3] 57)) := (Below.refl _ _).alloc (Nat.le_refl _) _
      have S5 := Lib.hid (S4.out.below A5 S4.out.lt)
      have B5 := Lib.hid (B4.out.trans (A5.mono B4.out.size))
      have Y5 := Lib.hid (Blk.new w4 57 #[.int .i64 t.tag, .slice A1 n1 c1, .slice K1 m1 d1, .slice a2 said.length c2, .slice a3 sig.length c3])
      have hne : w4.heap.size ≠ w.heap.size := by have := hs4.out; omega
      have I5 := Lib.hid (T.InP.below A5 (fun _ h => h) _ hin)
      have R5 := Lib.hid (hr1.below A5)
      have Q5 := Lib.hid (hr2.below A5)
      have N5 := Lib.hid hn1
      have M5 := Lib.hid hn2
      clear hz hin hr1 hr2 hn1 hn2
      clear S4 B4 A5
      go_wp2_with fail
      generalize (w4.alloc (.cells #[.int .i64 t.tag, .slice A1 n1 c1, .slice K1 m1 d1, .slice a2 said.length c2, .slice a3 sig.length c3] 57)) = w5 at *
      generalize w4.heap.size = g7 at *
      have y0 : ∀ W, GrowR w.heap.size w5.drew W → W.cell? ⟨g7, 0, none⟩ = some (.int .i64 t.tag) := fun W hW => GrowR.cell hW hne (Y5.out.cell 0)
      have y1 : ∀ W, GrowR w.heap.size w5.drew W → W.cell? ⟨g7, 1, none⟩ = some (.slice A1 n1 c1) := fun W hW => GrowR.cell hW hne (Y5.out.cell 1)
      have y2 : ∀ W, GrowR w.heap.size w5.drew W → W.cell? ⟨g7, 2, none⟩ = some (.slice K1 m1 d1) := fun W hW => GrowR.cell hW hne (Y5.out.cell 2)
      have y3 : ∀ W, GrowR w.heap.size w5.drew W → W.cell? ⟨g7, 3, none⟩ = some (.slice a2 said.length c2) := fun W hW => GrowR.cell hW hne (Y5.out.cell 3)
      have y4 : ∀ W, GrowR w.heap.size w5.drew W → W.cell? ⟨g7, 4, none⟩ = some (.slice a3 sig.length c3) := fun W hW => GrowR.cell hW hne (Y5.out.cell 4)
      clear Y5
      refine wp_region_ord (GrowR w.heap.size) (GrowR.refl _) GrowR.trans ((0, false) :: (1, false) :: (2, false) :: (3, false) :: (4, false) :: (5, false) :: (6, false) :: (7, true) :: (8, false) :: (9, false) :: (10, false) :: []) (by kernel_rfl) (by kernel_rfl) rfl (by kernel_rfl) (fun _ _ _ _ _ h => h) ?_
      repeat (refine ord_take _ rfl (by rfl) (fun W hW => by go_simp; first | done | rfl) ?_; simp only [Act.put, List.setIfInBounds_toArray, List.set_cons_zero, List.set_cons_succ])
      clear y0 y1 y2 y3 y4
      have S6 : Hid (Blk w5.drew w.heap.size 28 #[.int .i64 0, .slice none 0 0, .slice none 0 0]) := S5.out
      have B6 : Hid (Below w.heap.size w w5.drew) := B5.out.drew
      have I6 : Hid (t.InP (fun b => w.heap.size < b ∧ b < w3.heap.size) w5.drew (.agg #[.int .i64 t.tag, .slice A1 n1 c1, .slice K1 m1 d1])) := T.InP.below (Below.refl _ _).drew (fun _ h => h) _ I5.out
      have R6 : Hid (Row w5.drew a2 said.length said) := R5.out
      have Q6 : Hid (Row w5.drew a3 sig.length sig) := Q5.out
      clear I5 R5 Q5
      clear S5 B5
      generalize w5.drew = w6 at *
      obtain ⟨p0, p1, p2, f0, f1, f2⟩ := S6.out.facts
      refine ord_sole rfl (by rfl) (fun K1 hK1 => ?_)
      go_simp
      refine hK1 _ _ (three_grow _ _ _ _ _) ?_
      clear hK1 K1
      repeat (refine ord_take _ rfl (by rfl) (fun W hW => by go_simp; first | done | rfl) ?_; simp only [Act.put, List.setIfInBounds_toArray, List.set_cons_zero, List.set_cons_succ])
      refine ord_end ?_
      go_wp2_with fail
      have C := ((S6.out.set 0 (.int .i64 t.tag)).set 1 (.slice A1 n1 c1)).set 2 (.slice K1 m1 d1)
      have BB := B6.out.trans (three_past (B := w.heap.size) (g := w.heap.size) w6 (Nat.le_refl _) (.int .i64 t.tag) (.slice A1 n1 c1) (.slice K1 m1 d1))
      have G := three_grow w.heap.size w6 (.int .i64 t.tag) (.slice A1 n1 c1) (.slice K1 m1 d1)
      exact bodyPost_ret (results_four rfl _ _ w.heap.size 28 _ (0, 0) _ rfl C Tryd.underlying28 rfl Tryd.sizeNode) rfl ⟨BB, .inr ⟨t, said, sig, A1, n1, c1, K1, m1, d1, a2, c2, a3, c3, F.out.trans HZ.out, rfl, T.InP.in _ (I6.out.grownP (fun b hb => (by have := hb.1; omega)) G), row_grown R6.out (row_off R6.out S6.out node_zeros) G, N5.out, row_grown Q6.out (row_off Q6.out S6.out node_zeros) G, M5.out⟩⟩

end Go.Proofs.YtgmefdmeeihgoaaDoor

namespace Go.Proofs.YtgmefdmeeihgoaaDoor
open Go.RowKit
set_option linter.unusedVariables false

theorem mod_step (a : Int) {q : Int} (hq : 0 < q) : a % (q * 256) = q * (a / q % 256) + a % q := by
  have h1 := Int.mul_ediv_add_emod a q
  have h2 := Int.mul_ediv_add_emod (a / q) 256
  have hr0 := Int.emod_nonneg a (Int.ne_of_gt hq)
  have hr1 := Int.emod_lt_of_pos a hq
  have ht0 := Int.emod_nonneg (a / q) (show (256 : Int) ≠ 0 by decide)
  have ht1 := Int.emod_lt_of_pos (a / q) (show (0 : Int) < 256 by decide)
  generalize a / q % 256 = t at h2 ht0 ht1 ⊢
  generalize a % q = r at h1 hr0 hr1 ⊢
  generalize a / q / 256 = u at h2
  have e : a = (q * t + r) + q * 256 * u := by
    rw [← h1, ← h2, Int.mul_add, Int.mul_assoc]
    omega
  have hlo : 0 ≤ q * t + r := Int.add_nonneg (Int.mul_nonneg (Int.le_of_lt hq) ht0) hr0
  have hhi : q * t + r < q * 256 := by
    have : q * t ≤ q * 255 := Int.mul_le_mul_of_nonneg_left (by omega) (Int.le_of_lt hq)
    omega
  rw [e, Int.add_mul_emod_self_left, Int.emod_eq_of_lt hlo hhi]

theorem mod_of_div {a : Int} {m : Nat} (h : a / 256 ^ m = 0) : a % 256 ^ m = a := by
  have := Int.mul_ediv_add_emod a (256 ^ m)
  rw [h] at this
  omega

theorem numZ_beZ : ∀ (m : Nat) (n s : Int), 0 ≤ s → s * 256 ^ m + n % 256 ^ m ≤ 18446744073709551615 → numZ s (beZ m n) = (s * 256 ^ m + n % 256 ^ m, true)
  | 0, n, s, _, _ => by
    simp only [beZ, numZ, Int.pow_zero, Int.mul_one, Int.emod_one, Int.add_zero]
  | k + 1, n, s, hs, hb => by
    have hq : (0 : Int) < 256 ^ k := Int.pow_pos (by decide)
    rw [Int.pow_succ, mod_step n hq] at hb ⊢
    have hd0 : 0 ≤ n / 256 ^ k % 256 := Int.emod_nonneg _ (by decide)
    have hr0 : 0 ≤ n % 256 ^ k := Int.emod_nonneg _ (Int.ne_of_gt hq)
    have ih := numZ_beZ k n (s * 256 + n / 256 ^ k % 256) (by omega)
    rw [beZ, numZ]
    generalize n / 256 ^ k % 256 = d at hb hd0 ih ⊢
    generalize n % 256 ^ k = r at hb hr0 ih ⊢
    generalize (256 : Int) ^ k = q at hq hb ih ⊢
    have key : (s * 256 + d) * q + r = s * (q * 256) + (q * d + r) := by
      rw [Int.add_mul, Int.mul_assoc, Int.mul_comm 256 q, Int.mul_comm d q, Int.add_assoc]
    have h1 : 0 ≤ q * d := Int.mul_nonneg (Int.le_of_lt hq) hd0
    have h2 : s * 256 ≤ s * (q * 256) := Int.mul_le_mul_of_nonneg_left (by omega) hs
    rw [if_neg (by unfold B56; omega), ih (by rw [key]; exact hb), key]

theorem num_back {m : Nat} {n : Int} (h1 : n ≤ 18446744073709551615) (hz : n / 256 ^ m = 0) : numZ 0 (beZ m n) = (n, true) := by
  have e := mod_of_div hz
  have := numZ_beZ m n 0 (Int.le_refl 0) (by rw [e]; omega)
  rw [this, e]
  simp

/-- Uint of Int. -/
theorem uint_int (x : Int) (h0 : 0 ≤ x) (h1 : x ≤ 18446744073709551615) : uintZ (intT x) = (x, 0) := by
  have e : numZ 0 (intT x).body = (x, true) := by
    show numZ 0 (bigZ (leastZ x)) = (x, true)
    rw [numZ_big]
    exact num_back h1 (leastM_is h0 h1).2.2.1
  unfold uintZ
  rw [e, if_pos ⟨rfl, same_refl _⟩]

/-! ### What is read is laid as just that -/
theorem uint_just {t : T} {x : Int} (h : uintZ t = (x, 0)) : intT x = t := by
  unfold uintZ at h
  split at h
  · rename_i c
    injection h with h1 _
    rw [h1] at c
    exact (same_is _ _ c.2).symm
  · injection h with _ h2
    cases h2

end Go.Proofs.YtgmefdmeeihgoaaDoor

namespace Go.Proofs.YtgmefdmeeihgoaaDoor
open Go.RowKit
set_option linter.unusedVariables false

/-- May the key be? -/
def rightZ (ns : List Int) (e : Int) : Bool := decide (62 ≤ ns.length) && decide (ns.length ≤ 512) && !(ns[0]?.getD 0 == 0) && (ns[ns.length - 1]?.getD 0 % 2 == 1) && (e % 2 == 1) && decide (3 ≤ e)
def HEAD : List Int := [48, 49, 48, 13, 6, 9, 96, 134, 72, 1, 101, 3, 4, 2, 1, 5, 0, 4, 32]
/-- A hash's frame of so many bytes. -/
def frameZ (hz : List Int) (k : Nat) : List Int := 0 :: 1 :: (List.replicate (k - 54) 255 ++ 0 :: (HEAD ++ hz))
theorem frame_len {hz : List Int} (h : hz.length = 32) {k : Nat} (hk : 62 ≤ k) : (frameZ hz k).length = k := by
  simp [frameZ, HEAD, h]
  omega
theorem frame_byte {hz : List Int} (h : ∀ x ∈ hz, 0 ≤ x ∧ x ≤ 255) (k : Nat) : ∀ x ∈ frameZ hz k, 0 ≤ x ∧ x ≤ 255 := by
  intro x hx
  simp only [frameZ, HEAD, List.mem_cons, List.mem_append, List.not_mem_nil, or_false, List.mem_replicate] at hx
  rcases hx with rfl | rfl | ⟨_, rfl⟩ | rfl | hx | hx
  · omega
  · omega
  · omega
  · omega
  · omega
  · exact h x hx
/-- Frames of as many bytes are the same just if the hashes are. -/
theorem frame_inj {xs ys : List Int} {k : Nat} (h : frameZ xs k = frameZ ys k) : xs = ys := by
  simpa [frameZ] using h

theorem right_len {ns : List Int} {e : Int} (h : rightZ ns e = true) : 62 ≤ ns.length ∧ ns.length ≤ 512 := by
  simp only [rightZ, Bool.and_eq_true, decide_eq_true_eq] at h
  omega
theorem right_head {ns : List Int} {e : Int} (h : rightZ ns e = true) : ns[0]?.getD 0 ≠ 0 := by
  simp only [rightZ, Bool.and_eq_true, decide_eq_true_eq, Bool.not_eq_true', beq_eq_false_iff_ne] at h
  exact h.1.1.1.2

end Go.Proofs.YtgmefdmeeihgoaaDoor

namespace Go.Proofs.YtgmefdmeeihgoaaDoor
open Go.RowKit
set_option linter.unusedVariables false
set_option linter.unusedSimpArgs false

/-- A key's own element, its bytes, and the key's element. -/
def innerT (ns : List Int) (e : Int) : T := .node 48 [] [bigT ns, intT e]
def ownZ (ns : List Int) (e : Int) : List Int := (writeZ (innerT ns e)).1
def keyT (ns : List Int) (e : Int) : T := .node 48 [] [algT 1, bitsT (ownZ ns e)]
def innerZ (ns : List Int) (e : Int) : List Int × Int := if rightZ ns e = true then (ownZ ns e, 0) else ([], 1)
def nodeK (ns : List Int) (e : Int) : T × Int := if rightZ ns e = true then (keyT ns e, 0) else (zeroT, 1)

theorem wt_big (ns : List Int) : wt (bigT ns) ≤ ns.length + 2 := by
  have := big_le ns
  unfold bigT
  simp only [wt, wtAll]
  omega
theorem least_len (e : Int) : (leastZ e).length ≤ 8 := by
  unfold leastZ
  rw [beZ_length]
  exact leastM_le e
theorem wt_int (e : Int) : wt (intT e) ≤ 10 := by
  have h1 := wt_big (leastZ e)
  have h2 := least_len e
  have h3 : intT e = bigT (leastZ e) := rfl
  rw [h3]
  omega
theorem wt_inner (ns : List Int) (e : Int) : wt (innerT ns e) ≤ ns.length + 13 := by
  have h1 := wt_big ns
  have h2 := wt_int e
  unfold innerT
  simp only [wt, wtAll, List.length_nil]
  omega
theorem right_big (ns : List Int) : rightT (bigT ns) = true := by
  unfold bigT
  simp [rightT, rightAll, tagB, withinB]
theorem right_inner (ns : List Int) (e : Int) : rightT (innerT ns e) = true := by
  have h1 := right_big ns
  have h2 : rightT (intT e) = true := right_big (leastZ e)
  unfold innerT
  simp [rightT, rightAll, tagB, withinB, h1, h2]
theorem deep_big (ns : List Int) : deepT (bigT ns) = 1 := by
  unfold bigT
  simp [deepT, withinB]
theorem deep_inner (ns : List Int) (e : Int) : deepT (innerT ns e) ≤ 32 := by
  have h1 := deep_big ns
  have h2 : deepT (intT e) = 1 := deep_big (leastZ e)
  unfold innerT
  simp only [deepT, deepAll, h1, h2]
  repeat' split
  all_goals omega
theorem inner_writes {ns : List Int} (e : Int) (h : ns.length ≤ 3000) : writeZ (innerT ns e) = (ownZ ns e, 0) := by
  have h1 := (size_le (innerT ns e)).2.1
  have h2 := wt_inner ns e
  have h3 := write_of (right_inner ns e) (deep_inner ns e) (by omega)
  unfold ownZ
  rw [h3]
theorem own_len {ns : List Int} (e : Int) (h : ns.length ≤ 3000) : (ownZ ns e).length ≤ 20000 := by
  have hw := inner_writes e h
  have f := write_fit (t := innerT ns e) (congrArg Prod.snd hw)
  have e1 := write_of f.1 f.2.1 f.2.2
  rw [hw] at e1
  have e2 : ownZ ns e = layT (innerT ns e) := (Prod.mk.inj e1).1
  have := lay_len (innerT ns e) f.1
  rw [e2]
  omega
theorem own_short {ns : List Int} (e : Int) (h : ns.length ≤ 3000) : (ownZ ns e).length ≤ 5 * ns.length + 65 := by
  have hw := inner_writes e h
  have f := write_fit (t := innerT ns e) (congrArg Prod.snd hw)
  have e1 := write_of f.1 f.2.1 f.2.2
  rw [hw] at e1
  have e2 : ownZ ns e = layT (innerT ns e) := (Prod.mk.inj e1).1
  have h1 := lay_len (innerT ns e) f.1
  have h2 := (size_le (innerT ns e)).2.1
  have h3 := wt_inner ns e
  rw [e2]
  omega

/-- What the package's keyOf finds. -/
def keyIn (t : T) (p q : T) : Option (List Int × Int) :=
  if (greatZ p).2 = 0 ∧ (uintZ q).2 = 0 ∧ rightZ (greatZ p).1 ((uintZ q).1 % 4294967296) = true ∧ sameT (keyT (greatZ p).1 ((uintZ q).1 % 4294967296)) t = true then some ((greatZ p).1, (uintZ q).1 % 4294967296) else none
def keyWithin (t : T) (x : Except Int T) : Option (List Int × Int) :=
  match x with
  | .error _ => none
  | .ok y => match y.kids with
    | p :: q :: _ => keyIn t p q
    | _ => none
def readK (t : T) : Option (List Int × Int) :=
  match t.kids with
  | _ :: b :: _ => if (ofZ b).2.2 = 0 then keyWithin t (readZ (ofZ b).1) else none
  | _ => none
/-- What the reference's Read finds. -/
def rkeyWithin (t : T) (x : Except Int T) : Option (List Int × Int) :=
  match x with
  | .error _ => none
  | .ok y => match y.kids with
    | [p, q] => keyIn t p q
    | _ => none
def rreadK (t : T) : Option (List Int × Int) :=
  match t.kids with
  | [_, b] => if (ofZ b).2.2 = 0 then rkeyWithin t (readZ (ofZ b).1) else none
  | _ => none

theorem bare_right {ns : List Int} {e : Int} (h : rightZ ns e = true) : bareZ ns = ns := by
  have h0 := right_head h
  have hl := (right_len h).1
  cases ns with
  | nil => rfl
  | cons x r =>
    rw [bareZ, if_neg]
    intro hx
    subst hx
    exact h0 (by simp)
theorem keyIn_right {ns : List Int} {e : Int} (h : rightZ ns e = true) (h0 : 0 ≤ e) (h1 : e ≤ 4294967295) : keyIn (keyT ns e) (bigT ns) (intT e) = some (ns, e) := by
  have hg : greatZ (bigT ns) = (ns, 0) := by rw [great_big, bare_right h]
  have hu : uintZ (intT e) = (e, 0) := uint_int e h0 (by omega)
  have hm : e % 4294967296 = e := by omega
  unfold keyIn
  rw [hg, hu]
  simp [hm, h, same_refl]
/-- A key is read as it was. -/
theorem read_key {ns : List Int} {e : Int} (h : rightZ ns e = true) (h0 : 0 ≤ e) (h1 : e ≤ 4294967295) : readK (keyT ns e) = some (ns, e) ∧ rreadK (keyT ns e) = some (ns, e) := by
  have hl := (right_len h).2
  have hw := inner_writes (ns := ns) e (by omega)
  have ho : ofZ (bitsT (ownZ ns e)) = (ownZ ns e, 8 * ((ownZ ns e).length : Int), 0) := of_bits _
  have hr : readZ (ownZ ns e) = .ok (innerT ns e) := by
    exact read_write (t := innerT ns e) (congrArg Prod.snd hw)
  have hk : (keyT ns e).kids = [algT 1, bitsT (ownZ ns e)] := rfl
  have hi : (innerT ns e).kids = [bigT ns, intT e] := rfl
  constructor
  · unfold readK
    rw [hk]
    simp only [ho, if_true]
    unfold keyWithin
    rw [hr]
    simp only [hi]
    exact keyIn_right h h0 h1
  · unfold rreadK
    rw [hk]
    simp only [ho, if_true]
    unfold rkeyWithin
    rw [hr]
    simp only [hi]
    exact keyIn_right h h0 h1
theorem keyIn_is {t p q : T} {ns : List Int} {e : Int} (h : keyIn t p q = some (ns, e)) : t = keyT ns e ∧ rightZ ns e = true ∧ 0 ≤ e ∧ e ≤ 4294967295 := by
  unfold keyIn at h
  split at h
  · rename_i hc
    cases h
    exact ⟨(same_is _ _ hc.2.2.2).symm, hc.2.2.1, by omega, by omega⟩
  · cases h
/-- What is read has just that element. -/
theorem key_read {t : T} {ns : List Int} {e : Int} (h : readK t = some (ns, e)) : t = keyT ns e ∧ rightZ ns e = true ∧ 0 ≤ e ∧ e ≤ 4294967295 := by
  unfold readK at h
  split at h
  · split at h
    · unfold keyWithin at h
      split at h
      · cases h
      · split at h
        · exact keyIn_is h
        · cases h
    · cases h
  · cases h
theorem rkey_read {t : T} {ns : List Int} {e : Int} (h : rreadK t = some (ns, e)) : t = keyT ns e ∧ rightZ ns e = true ∧ 0 ≤ e ∧ e ≤ 4294967295 := by
  unfold rreadK at h
  split at h
  · split at h
    · unfold rkeyWithin at h
      split at h
      · cases h
      · split at h
        · exact keyIn_is h
        · cases h
    · cases h
  · cases h
theorem rread_same (t : T) : rreadK t = readK t := by
  cases h : readK t with
  | some v =>
    obtain ⟨ns, e⟩ := v
    obtain ⟨rfl, hr, h0, h1⟩ := key_read h
    exact (read_key hr h0 h1).2
  | none =>
    cases h2 : rreadK t with
    | none => rfl
    | some v =>
      obtain ⟨ns, e⟩ := v
      obtain ⟨rfl, hr, h0, h1⟩ := rkey_read h2
      rw [(read_key hr h0 h1).1] at h
      cases h
/-- Two keys that may be have the same element just if they are the same. -/
theorem key_inj {ns ms : List Int} {e f : Int} (h : rightZ ns e = true) (h0 : 0 ≤ e) (h1 : e ≤ 4294967295) (k : rightZ ms f = true) (k0 : 0 ≤ f) (k1 : f ≤ 4294967295) (hk : keyT ns e = keyT ms f) : ns = ms ∧ e = f := by
  have a := (read_key h h0 h1).1
  have b := (read_key k k0 k1).1
  rw [hk, b] at a
  cases a
  exact ⟨rfl, rfl⟩

end Go.Proofs.YtgmefdmeeihgoaaDoor

namespace Go.Proofs.YtgmefdmeeihgoaaDoor
open Go.RowKit
set_option linter.unusedVariables false

/-- A key: its bytes, its exponent. -/
def KeyAt (w : World) (a : Option Addr) (n c : Nat) (e : Int) (ns : List Int) : Prop := Row w a n ns ∧ n ≤ c ∧ (a = none → c = 0) ∧ 0 ≤ e ∧ e ≤ 4294967295
theorem KeyAt.below {w w' : World} {a : Option Addr} {n c : Nat} {e : Int} {ns : List Int} (h : KeyAt w a n c e ns) (hb : Below w.heap.size w w') : KeyAt w' a n c e ns := ⟨h.1.below hb, h.2⟩
/-- The block into which a key is put. -/
theorem key_box (w : World) (a : Option Addr) (n c : Nat) (e : Int) : Blk (w.alloc (.cells #[.slice a n c, .int .u32 e] 25)) w.heap.size 25 #[.slice a n c, .int .u32 e] := Blk.new _ _ _
theorem box_below (w : World) (o : Obj) : Below w.heap.size w (w.alloc o) := (Below.refl _ _).alloc (Nat.le_refl _) o

set_option maxRecDepth 100000 in
theorem ksize_any (s : Int) (w : World) (h0 : -9223372036854775808 ≤ s) (h1 : s ≤ 9223372036854775807) : Calls Tryd.prog 50 #[.int .i64 s] w fun e w' => e = .returned (.bool (decide (62 ≤ s) && decide (s ≤ 512))) ∧ w' = w := by
  go_enter Tryd.func50, Tryd.ntmps50
  by_cases h : 62 ≤ s
  · have t1 : decide ((62 : Int) ≤ s) = true := decide_eq_true h
    go_wp2_with fail
    go_ret
    exact ⟨by rw [t1]; rfl, rfl⟩
  · have t1 : decide ((62 : Int) ≤ s) = false := decide_eq_false h
    go_wp2_with fail
    go_ret
    exact ⟨rfl, rfl⟩

set_option maxHeartbeats 1000000 in
set_option maxRecDepth 100000 in
theorem kright_any (a : Option Addr) (n c : Nat) (e : Int) (ns : List Int) (w : World) (hk : KeyAt w a n c e ns) (hn : n ≤ 1000000) :
    Calls Tryd.prog 28 #[.agg #[.slice a n c, .int .u32 e]] w fun r w' => r = .returned (.bool (rightZ ns e)) ∧ Below w.heap.size w w' := by
  have BX := Lib.hid (key_box w a n c e)
  have BW := Lib.hid (box_below w (.cells #[.slice a n c, .int .u32 e] 25))
  have HR := Lib.hid (hk.1.below BW.out)
  have hl := hk.1.1
  obtain ⟨_, _, _, e0, e1⟩ := hk
  have c0 := BX.out.cell 0
  have c1 := BX.out.cell 1
  simp only [List.getElem?_toArray, List.getElem?_cons_zero, List.getElem?_cons_succ] at c0 c1
  have RZ : Hid (rightZ ns e = (decide (62 ≤ n) && decide (n ≤ 512) && !(ns[0]?.getD 0 == 0) && (ns[n - 1]?.getD 0 % 2 == 1) && (e % 2 == 1) && decide (3 ≤ e))) := by
    unfold rightZ
    rw [hl]
    exact Lib.hid rfl
  have b0 := HR.out.byte 0
  have b1 := HR.out.byte (n - 1)
  go_enter Tryd.func28, Tryd.ntmps28
  generalize hw2 : w.alloc (.cells #[.slice a n c, .int .u32 e] 25) = w2 at *
  have CS := Lib.hid (ksize_any (n : Int) w2 (by omega) (by omega))
  clear hl
  by_cases h : 62 ≤ n ∧ n ≤ 512
  · have t1 : (decide ((62 : Int) ≤ (n : Int)) && decide ((n : Int) ≤ 512)) = true := by simp; omega
    rw [t1] at CS
    have t2 : (decide (62 ≤ n) && decide (n ≤ 512)) = true := by simp; omega
    rw [t2] at RZ
    obtain ⟨b, o, rfl, hb, hc⟩ := HR.out.2.2 (by omega)
    have d0 := hc 0 (by omega)
    have d1 := hc (n - 1) (by omega)
    obtain ⟨m, rfl⟩ : ∃ m, n = m + 1 := ⟨n - 1, by omega⟩
    rw [Nat.add_sub_cancel] at d1 b1 RZ
    rw [Nat.add_zero] at d0
    clear hc HR BX t1 t2
    generalize ns[0]?.getD 0 = x at *
    generalize ns[m]?.getD 0 = y at *
    rw [show ((m + 1 : Nat) : Int) = (m : Int) + 1 from rfl] at CS
    go_wp2_with fail
    refine CS.out.mono ?_
    rintro r w3 ⟨rfl, rfl⟩
    clear CS hw2
    go_wp2_with fail
    all_goals
      go_ret
      refine ⟨ret_bool ?_, BW.out⟩
      rw [RZ.out]
      rw [Bool.eq_iff_iff]
      simp [*]
  · have t1 : (decide ((62 : Int) ≤ (n : Int)) && decide ((n : Int) ≤ 512)) = false := by
      simp only [Bool.and_eq_false_iff, decide_eq_false_iff_not]
      omega
    rw [t1] at CS
    have t2 : (decide (62 ≤ n) && decide (n ≤ 512)) = false := by
      simp only [Bool.and_eq_false_iff, decide_eq_false_iff_not]
      omega
    rw [t2] at RZ
    go_wp2_with fail
    refine CS.out.mono ?_
    rintro r w3 ⟨rfl, rfl⟩
    go_wp2_with fail
    go_ret
    exact ⟨by rw [RZ.out]; rfl, BW.out⟩

set_option maxRecDepth 100000 in
theorem klight_any (a : Option Addr) (n c : Nat) (e : Int) (ns : List Int) (w : World) (hk : KeyAt w a n c e ns) (hn : n ≤ maxLen) :
    Calls Tryd.prog 6 #[.agg #[.slice a n c, .int .u32 e]] w fun r w' => r = .returned (.bool (decide (n ≤ 140))) ∧ Below w.heap.size w w' := by
  have BX := Lib.hid (key_box w a n c e)
  have BW := Lib.hid (box_below w (.cells #[.slice a n c, .int .u32 e] 25))
  have c0 := BX.out.cell 0
  simp only [List.getElem?_toArray, List.getElem?_cons_zero] at c0
  have TD : Hid (decide ((n : Int) ≤ 140) = decide (n ≤ 140)) := Lib.hid (by rw [decide_eq_decide]; omega)
  go_enter Tryd.func6, Tryd.ntmps6
  generalize hw2 : w.alloc (.cells #[.slice a n c, .int .u32 e] 25) = w2 at *
  go_wp2_with fail
  go_ret
  exact ⟨ret_bool TD.out, BW.out⟩

end Go.Proofs.YtgmefdmeeihgoaaDoor

namespace Go.Proofs.YtgmefdmeeihgoaaDoor
open Go.RowKit
set_option linter.unusedVariables false

/-- A word turned to the right. -/
def rotZ (x : Int) (n : Nat) : Int := x / 2 ^ n + x % 2 ^ n * 2 ^ (32 - n)
def sx (x y z : Int) : Int := bits .xor .u32 (bits .xor .u32 x y) z
def lowS (x : Int) : Int := sx (rotZ x 7) (rotZ x 18) (x / 8)
def highS (y : Int) : Int := sx (rotZ y 17) (rotZ y 19) (y / 1024)
def bigE (e : Int) : Int := sx (rotZ e 6) (rotZ e 11) (rotZ e 25)
def bigA (a : Int) : Int := sx (rotZ a 2) (rotZ a 13) (rotZ a 22)
/-- The bits of f where e has a 1, and those of g where e has a 0. -/
def choose (e f g : Int) : Int := bits .or .u32 (bits .and .u32 e f) (bits .and .u32 (bits .xor .u32 IntKind.u32.max e) g)
/-- The bits that at least two have. -/
def most (a b c : Int) : Int := bits .or .u32 (bits .or .u32 (bits .and .u32 a b) (bits .and .u32 a c)) (bits .and .u32 b c)
def m32 (x : Int) : Int := x % 4294967296

def CONSTS : List Int := [
  0x428a2f98, 0x71374491, 0xb5c0fbcf, 0xe9b5dba5, 0x3956c25b, 0x59f111f1, 0x923f82a4, 0xab1c5ed5,
  0xd807aa98, 0x12835b01, 0x243185be, 0x550c7dc3, 0x72be5d74, 0x80deb1fe, 0x9bdc06a7, 0xc19bf174,
  0xe49b69c1, 0xefbe4786, 0x0fc19dc6, 0x240ca1cc, 0x2de92c6f, 0x4a7484aa, 0x5cb0a9dc, 0x76f988da,
  0x983e5152, 0xa831c66d, 0xb00327c8, 0xbf597fc7, 0xc6e00bf3, 0xd5a79147, 0x06ca6351, 0x14292967,
  0x27b70a85, 0x2e1b2138, 0x4d2c6dfc, 0x53380d13, 0x650a7354, 0x766a0abb, 0x81c2c92e, 0x92722c85,
  0xa2bfe8a1, 0xa81a664b, 0xc24b8b70, 0xc76c51a3, 0xd192e819, 0xd6990624, 0xf40e3585, 0x106aa070,
  0x19a4c116, 0x1e376c08, 0x2748774c, 0x34b0bcb5, 0x391c0cb3, 0x4ed8aa4a, 0x5b9cca4f, 0x682e6ff3,
  0x748f82ee, 0x78a5636f, 0x84c87814, 0x8cc70208, 0x90befffa, 0xa4506ceb, 0xbef9a3f7, 0xc67178f2]
theorem consts_len : CONSTS.length = 64 := rfl
theorem consts_range : ∀ x ∈ CONSTS, 0 ≤ x ∧ x ≤ 4294967295 := by decide +kernel

/-- Eight words. -/
structure V8 where
  a : Int
  b : Int
  c : Int
  d : Int
  e : Int
  f : Int
  g : Int
  h : Int
def V8.list (v : V8) : List Int := [v.a, v.b, v.c, v.d, v.e, v.f, v.g, v.h]
def W32 (x : Int) : Prop := 0 ≤ x ∧ x ≤ 4294967295
def V8.ok (v : V8) : Prop := W32 v.a ∧ W32 v.b ∧ W32 v.c ∧ W32 v.d ∧ W32 v.e ∧ W32 v.f ∧ W32 v.g ∧ W32 v.h
def H0 : V8 := ⟨0x6a09e667, 0xbb67ae85, 0x3c6ef372, 0xa54ff53a, 0x510e527f, 0x9b05688c, 0x1f83d9ab, 0x5be0cd19⟩

/-- A word of four bytes. -/
def wordZ (b : List Int) (i : Nat) : Int := ((b[i]?.getD 0 * 256 + b[i + 1]?.getD 0) * 256 + b[i + 2]?.getD 0) * 256 + b[i + 3]?.getD 0
/-- The next word behind t of them. -/
def nextZ (l : List Int) (t : Nat) : Int := m32 (l[t - 16]?.getD 0 + lowS (l[t - 15]?.getD 0) + l[t - 7]?.getD 0 + highS (l[t - 2]?.getD 0))
/-- The first words of a block. -/
def wordsZ8 (b : List Int) : Nat → List Int
  | 0 => []
  | k + 1 => wordsZ8 b k ++ [if k < 16 then wordZ b (4 * k) else nextZ (wordsZ8 b k) k]
def stepV (v : V8) (c w : Int) : V8 :=
  let p := m32 (v.h + bigE v.e + choose v.e v.f v.g + c + w)
  let q := m32 (bigA v.a + most v.a v.b v.c)
  ⟨m32 (p + q), v.a, v.b, v.c, m32 (v.d + p), v.e, v.f, v.g⟩
def roundsV (s : V8) (ws : List Int) : Nat → V8
  | 0 => s
  | t + 1 => stepV (roundsV s ws t) (CONSTS[t]?.getD 0) (ws[t]?.getD 0)
def addV (v s : V8) : V8 := ⟨m32 (v.a + s.a), m32 (v.b + s.b), m32 (v.c + s.c), m32 (v.d + s.d), m32 (v.e + s.e), m32 (v.f + s.f), m32 (v.g + s.g), m32 (v.h + s.h)⟩
def blockV (s : V8) (b : List Int) : V8 := addV (roundsV s (wordsZ8 b 64) 64) s
/-- Some blocks, one behind the other. -/
def runV : Nat → V8 → List Int → V8
  | 0, s, _ => s
  | k + 1, s, l => runV k (blockV s (l.take 64)) (l.drop 64)
/-- How many noughts fill up. -/
def padN (n : Nat) : Nat := (119 - n % 64) % 64
def fillZ (zs : List Int) : List Int := zs ++ [128] ++ List.replicate (padN zs.length) 0 ++ beZ 8 (8 * (zs.length : Int))
def outV (v : V8) : List Int := v.list.flatMap fun x => beZ 4 x
def hashZ (zs : List Int) : List Int := outV (runV ((fillZ zs).length / 64) H0 (fillZ zs))

theorem fill_len (zs : List Int) : (fillZ zs).length = 64 * ((zs.length + 9 + padN zs.length) / 64) ∧ (zs.length + 1 + padN zs.length) % 64 = 56 := by
  unfold fillZ padN
  simp only [List.length_append, List.length_cons, List.length_nil, List.length_replicate, beZ_length]
  omega
theorem runV_add (j k : Nat) : ∀ (s : V8) (l1 l2 : List Int), l1.length = 64 * j → runV (j + k) s (l1 ++ l2) = runV k (runV j s l1) l2 := by
  induction j with
  | zero =>
    intro s l1 l2 h
    obtain rfl : l1 = [] := List.eq_nil_of_length_eq_zero (by omega)
    rw [Nat.zero_add, runV, List.nil_append]
  | succ j ih =>
    intro s l1 l2 h
    rw [show j + 1 + k = (j + k) + 1 by omega, runV, runV, List.take_append_of_le_length (by omega), List.drop_append_of_le_length (by omega)]
    exact ih _ _ _ (by rw [List.length_drop]; omega)
theorem wordsZ8_len (b : List Int) (k : Nat) : (wordsZ8 b k).length = k := by
  induction k with
  | zero => rfl
  | succ k ih => rw [wordsZ8, List.length_append, ih]; rfl
theorem m32_range (x : Int) : W32 (m32 x) := by unfold W32 m32; omega
theorem hash_abc : hashZ [97, 98, 99] = [0xba, 0x78, 0x16, 0xbf, 0x8f, 0x01, 0xcf, 0xea, 0x41, 0x41, 0x40, 0xde, 0x5d, 0xae, 0x22, 0x23, 0xb0, 0x03, 0x61, 0xa3, 0x96, 0x17, 0x7a, 0x9c, 0xb4, 0x10, 0xff, 0x61, 0xf2, 0x00, 0x15, 0xad] := by decide +kernel

end Go.Proofs.YtgmefdmeeihgoaaDoor

namespace Go.Proofs.YtgmefdmeeihgoaaDoor
open Go.RowKit
set_option linter.unusedVariables false

theorem rot2_is {x : Int} (h0 : 0 ≤ x) (h1 : x ≤ 4294967295) : bits .or .u32 (x / 4) (x * 1073741824 % 4294967296) = rotZ x 2 := by
  have e : x * 1073741824 % 4294967296 = x % 4 * 1073741824 := by omega
  have r : rotZ x 2 = x / 4 + x % 4 * 1073741824 := rfl
  rw [e, r]
  exact bits_join_low .u32 32 (by decide) (fun n h0 h1 => IntWalk.u32_in _ (by omega)) 30 _ _ (by omega) (by omega) (by omega) (by omega) (by omega) (by omega)
theorem rot6_is {x : Int} (h0 : 0 ≤ x) (h1 : x ≤ 4294967295) : bits .or .u32 (x / 64) (x * 67108864 % 4294967296) = rotZ x 6 := by
  have e : x * 67108864 % 4294967296 = x % 64 * 67108864 := by omega
  have r : rotZ x 6 = x / 64 + x % 64 * 67108864 := rfl
  rw [e, r]
  exact bits_join_low .u32 32 (by decide) (fun n h0 h1 => IntWalk.u32_in _ (by omega)) 26 _ _ (by omega) (by omega) (by omega) (by omega) (by omega) (by omega)
theorem rot7_is {x : Int} (h0 : 0 ≤ x) (h1 : x ≤ 4294967295) : bits .or .u32 (x / 128) (x * 33554432 % 4294967296) = rotZ x 7 := by
  have e : x * 33554432 % 4294967296 = x % 128 * 33554432 := by omega
  have r : rotZ x 7 = x / 128 + x % 128 * 33554432 := rfl
  rw [e, r]
  exact bits_join_low .u32 32 (by decide) (fun n h0 h1 => IntWalk.u32_in _ (by omega)) 25 _ _ (by omega) (by omega) (by omega) (by omega) (by omega) (by omega)
theorem rot11_is {x : Int} (h0 : 0 ≤ x) (h1 : x ≤ 4294967295) : bits .or .u32 (x / 2048) (x * 2097152 % 4294967296) = rotZ x 11 := by
  have e : x * 2097152 % 4294967296 = x % 2048 * 2097152 := by omega
  have r : rotZ x 11 = x / 2048 + x % 2048 * 2097152 := rfl
  rw [e, r]
  exact bits_join_low .u32 32 (by decide) (fun n h0 h1 => IntWalk.u32_in _ (by omega)) 21 _ _ (by omega) (by omega) (by omega) (by omega) (by omega) (by omega)
theorem rot13_is {x : Int} (h0 : 0 ≤ x) (h1 : x ≤ 4294967295) : bits .or .u32 (x / 8192) (x * 524288 % 4294967296) = rotZ x 13 := by
  have e : x * 524288 % 4294967296 = x % 8192 * 524288 := by omega
  have r : rotZ x 13 = x / 8192 + x % 8192 * 524288 := rfl
  rw [e, r]
  exact bits_join_low .u32 32 (by decide) (fun n h0 h1 => IntWalk.u32_in _ (by omega)) 19 _ _ (by omega) (by omega) (by omega) (by omega) (by omega) (by omega)
theorem rot17_is {x : Int} (h0 : 0 ≤ x) (h1 : x ≤ 4294967295) : bits .or .u32 (x / 131072) (x * 32768 % 4294967296) = rotZ x 17 := by
  have e : x * 32768 % 4294967296 = x % 131072 * 32768 := by omega
  have r : rotZ x 17 = x / 131072 + x % 131072 * 32768 := rfl
  rw [e, r]
  exact bits_join_low .u32 32 (by decide) (fun n h0 h1 => IntWalk.u32_in _ (by omega)) 15 _ _ (by omega) (by omega) (by omega) (by omega) (by omega) (by omega)
theorem rot18_is {x : Int} (h0 : 0 ≤ x) (h1 : x ≤ 4294967295) : bits .or .u32 (x / 262144) (x * 16384 % 4294967296) = rotZ x 18 := by
  have e : x * 16384 % 4294967296 = x % 262144 * 16384 := by omega
  have r : rotZ x 18 = x / 262144 + x % 262144 * 16384 := rfl
  rw [e, r]
  exact bits_join_low .u32 32 (by decide) (fun n h0 h1 => IntWalk.u32_in _ (by omega)) 14 _ _ (by omega) (by omega) (by omega) (by omega) (by omega) (by omega)
theorem rot19_is {x : Int} (h0 : 0 ≤ x) (h1 : x ≤ 4294967295) : bits .or .u32 (x / 524288) (x * 8192 % 4294967296) = rotZ x 19 := by
  have e : x * 8192 % 4294967296 = x % 524288 * 8192 := by omega
  have r : rotZ x 19 = x / 524288 + x % 524288 * 8192 := rfl
  rw [e, r]
  exact bits_join_low .u32 32 (by decide) (fun n h0 h1 => IntWalk.u32_in _ (by omega)) 13 _ _ (by omega) (by omega) (by omega) (by omega) (by omega) (by omega)
theorem rot22_is {x : Int} (h0 : 0 ≤ x) (h1 : x ≤ 4294967295) : bits .or .u32 (x / 4194304) (x * 1024 % 4294967296) = rotZ x 22 := by
  have e : x * 1024 % 4294967296 = x % 4194304 * 1024 := by omega
  have r : rotZ x 22 = x / 4194304 + x % 4194304 * 1024 := rfl
  rw [e, r]
  exact bits_join_low .u32 32 (by decide) (fun n h0 h1 => IntWalk.u32_in _ (by omega)) 10 _ _ (by omega) (by omega) (by omega) (by omega) (by omega) (by omega)
theorem rot25_is {x : Int} (h0 : 0 ≤ x) (h1 : x ≤ 4294967295) : bits .or .u32 (x / 33554432) (x * 128 % 4294967296) = rotZ x 25 := by
  have e : x * 128 % 4294967296 = x % 33554432 * 128 := by omega
  have r : rotZ x 25 = x / 33554432 + x % 33554432 * 128 := rfl
  rw [e, r]
  exact bits_join_low .u32 32 (by decide) (fun n h0 h1 => IntWalk.u32_in _ (by omega)) 7 _ _ (by omega) (by omega) (by omega) (by omega) (by omega) (by omega)
theorem rot_range (x : Int) (n : Nat) (h0 : 0 ≤ x) (h1 : x ≤ 4294967295) (hn : n ≤ 32) : W32 (rotZ x n) := by
  unfold W32 rotZ
  have hp : (0 : Int) < 2 ^ n := Int.pow_pos (by decide)
  have hq : (0 : Int) < 2 ^ (32 - n) := Int.pow_pos (by decide)
  have e : (2 : Int) ^ (32 - n) * 2 ^ n = 4294967296 := by rw [← Int.pow_add, Nat.sub_add_cancel hn]; rfl
  have m0 := Int.emod_nonneg x (Int.ne_of_gt hp)
  have m1 := Int.emod_lt_of_pos x hp
  have d0 : 0 ≤ x / 2 ^ n := Int.ediv_nonneg h0 (Int.le_of_lt hp)
  have d1 : x / 2 ^ n < 2 ^ (32 - n) := Int.ediv_lt_of_lt_mul hp (by rw [e]; omega)
  have k0 : 0 ≤ x % 2 ^ n * 2 ^ (32 - n) := Int.mul_nonneg m0 (Int.le_of_lt hq)
  have k1 : x % 2 ^ n * 2 ^ (32 - n) ≤ (2 ^ n - 1) * 2 ^ (32 - n) := Int.mul_le_mul_of_nonneg_right (by omega) (Int.le_of_lt hq)
  have k2 : ((2 : Int) ^ n - 1) * 2 ^ (32 - n) = 4294967296 - 2 ^ (32 - n) := by rw [Int.sub_mul, Int.one_mul, Int.mul_comm, e]
  omega
def Turns (n : Nat) : Prop := n = 2 ∨ n = 6 ∨ n = 7 ∨ n = 11 ∨ n = 13 ∨ n = 17 ∨ n = 18 ∨ n = 19 ∨ n = 22 ∨ n = 25
end Go.Proofs.YtgmefdmeeihgoaaDoor

namespace Go.Proofs.YtgmefdmeeihgoaaDoor
open Go.RowKit
set_option linter.unusedVariables false

theorem bits_or_comm (k : IntKind) (a b : Int) : bits .or k a b = bits .or k b a := by
  show k.wrap ((BitVec.ofInt k.bits a ||| BitVec.ofInt k.bits b).toNat : Int) = k.wrap ((BitVec.ofInt k.bits b ||| BitVec.ofInt k.bits a).toNat : Int)
  rw [BitVec.or_comm]
set_option maxHeartbeats 2000000 in
theorem rotl_any (x n : Int) (k : Nat) (w : World) (hk : n = -(k : Int)) (hn : Turns k) (h0 : 0 ≤ x) (h1 : x ≤ 4294967295) : Calls Tryd.prog 102 #[.int .u32 x, .int .i64 n] w fun e w' => e = .returned (.int .u32 (rotZ x k)) ∧ w' = w := by
  subst hk
  unfold Turns at hn
  rcases hn with rfl | rfl | rfl | rfl | rfl | rfl | rfl | rfl | rfl | rfl
  · have R := rot2_is h0 h1
    rw [bits_or_comm] at R
    rw [show (-((2 : Nat) : Int)) = -2 by rfl]
    have W : IntKind.u64.wrap (-2) = 18446744073709551614 := by kernel_rfl
    have B : bits .and .u64 18446744073709551614 31 = 30 := by kernel_rfl
    generalize rotZ x 2 = y at *
    go_enter Tryd.func102, Tryd.ntmps102
    go_wp2_with fail
    go_ret
    exact ⟨rfl, rfl⟩
  · have R := rot6_is h0 h1
    rw [bits_or_comm] at R
    rw [show (-((6 : Nat) : Int)) = -6 by rfl]
    have W : IntKind.u64.wrap (-6) = 18446744073709551610 := by kernel_rfl
    have B : bits .and .u64 18446744073709551610 31 = 26 := by kernel_rfl
    generalize rotZ x 6 = y at *
    go_enter Tryd.func102, Tryd.ntmps102
    go_wp2_with fail
    go_ret
    exact ⟨rfl, rfl⟩
  · have R := rot7_is h0 h1
    rw [bits_or_comm] at R
    rw [show (-((7 : Nat) : Int)) = -7 by rfl]
    have W : IntKind.u64.wrap (-7) = 18446744073709551609 := by kernel_rfl
    have B : bits .and .u64 18446744073709551609 31 = 25 := by kernel_rfl
    generalize rotZ x 7 = y at *
    go_enter Tryd.func102, Tryd.ntmps102
    go_wp2_with fail
    go_ret
    exact ⟨rfl, rfl⟩
  · have R := rot11_is h0 h1
    rw [bits_or_comm] at R
    rw [show (-((11 : Nat) : Int)) = -11 by rfl]
    have W : IntKind.u64.wrap (-11) = 18446744073709551605 := by kernel_rfl
    have B : bits .and .u64 18446744073709551605 31 = 21 := by kernel_rfl
    generalize rotZ x 11 = y at *
    go_enter Tryd.func102, Tryd.ntmps102
    go_wp2_with fail
    go_ret
    exact ⟨rfl, rfl⟩
  · have R := rot13_is h0 h1
    rw [bits_or_comm] at R
    rw [show (-((13 : Nat) : Int)) = -13 by rfl]
    have W : IntKind.u64.wrap (-13) = 18446744073709551603 := by kernel_rfl
    have B : bits .and .u64 18446744073709551603 31 = 19 := by kernel_rfl
    generalize rotZ x 13 = y at *
    go_enter Tryd.func102, Tryd.ntmps102
    go_wp2_with fail
    go_ret
    exact ⟨rfl, rfl⟩
  · have R := rot17_is h0 h1
    rw [bits_or_comm] at R
    rw [show (-((17 : Nat) : Int)) = -17 by rfl]
    have W : IntKind.u64.wrap (-17) = 18446744073709551599 := by kernel_rfl
    have B : bits .and .u64 18446744073709551599 31 = 15 := by kernel_rfl
    generalize rotZ x 17 = y at *
    go_enter Tryd.func102, Tryd.ntmps102
    go_wp2_with fail
    go_ret
    exact ⟨rfl, rfl⟩
  · have R := rot18_is h0 h1
    rw [bits_or_comm] at R
    rw [show (-((18 : Nat) : Int)) = -18 by rfl]
    have W : IntKind.u64.wrap (-18) = 18446744073709551598 := by kernel_rfl
    have B : bits .and .u64 18446744073709551598 31 = 14 := by kernel_rfl
    generalize rotZ x 18 = y at *
    go_enter Tryd.func102, Tryd.ntmps102
    go_wp2_with fail
    go_ret
    exact ⟨rfl, rfl⟩
  · have R := rot19_is h0 h1
    rw [bits_or_comm] at R
    rw [show (-((19 : Nat) : Int)) = -19 by rfl]
    have W : IntKind.u64.wrap (-19) = 18446744073709551597 := by kernel_rfl
    have B : bits .and .u64 18446744073709551597 31 = 13 := by kernel_rfl
    generalize rotZ x 19 = y at *
    go_enter Tryd.func102, Tryd.ntmps102
    go_wp2_with fail
    go_ret
    exact ⟨rfl, rfl⟩
  · have R := rot22_is h0 h1
    rw [bits_or_comm] at R
    rw [show (-((22 : Nat) : Int)) = -22 by rfl]
    have W : IntKind.u64.wrap (-22) = 18446744073709551594 := by kernel_rfl
    have B : bits .and .u64 18446744073709551594 31 = 10 := by kernel_rfl
    generalize rotZ x 22 = y at *
    go_enter Tryd.func102, Tryd.ntmps102
    go_wp2_with fail
    go_ret
    exact ⟨rfl, rfl⟩
  · have R := rot25_is h0 h1
    rw [bits_or_comm] at R
    rw [show (-((25 : Nat) : Int)) = -25 by rfl]
    have W : IntKind.u64.wrap (-25) = 18446744073709551591 := by kernel_rfl
    have B : bits .and .u64 18446744073709551591 31 = 7 := by kernel_rfl
    generalize rotZ x 25 = y at *
    go_enter Tryd.func102, Tryd.ntmps102
    go_wp2_with fail
    go_ret
    exact ⟨rfl, rfl⟩
theorem rotr_any (x n : Int) (k : Nat) (w : World) (hk : n = (k : Int)) (hn : Turns k) (h0 : 0 ≤ x) (h1 : x ≤ 4294967295) : Calls Tryd.prog 96 #[.int .u32 x, .int .i64 n] w fun e w' => e = .returned (.int .u32 (rotZ x k)) ∧ w' = w := by
  subst hk
  have C := Lib.hid (fun W => rotl_any x (-(k : Int)) k W rfl hn h0 h1)
  have kb : (k : Int) ≤ 25 := by unfold Turns at hn; omega
  have wk : IntKind.i64.wrap (-(k : Int)) = -(k : Int) := IntWalk.i64_in _ (by omega)
  generalize rotZ x k = y at *
  go_enter Tryd.func96, Tryd.ntmps96
  go_wp2_with fail
  refine (C.out _).mono ?_
  rintro e w2 ⟨rfl, hw⟩
  subst hw
  go_wp2_with fail
  go_ret
  exact ⟨rfl, rfl⟩

end Go.Proofs.YtgmefdmeeihgoaaDoor

namespace Go.Proofs.YtgmefdmeeihgoaaDoor
open Go.RowKit
set_option linter.unusedVariables false

theorem consts_row (w : World) : Row32 (w.alloc (.cells (CONSTS.map (Value.int .u32)).toArray 23)) (some ⟨w.heap.size, 0, none⟩) 64 CONSTS := row32_const w CONSTS consts_range
theorem GivesNew.of {zs : List Int} {w w' : World} {V : Value} (h : Out w w' V zs) : GivesNew zs w (.returned V) w' := ⟨V, rfl, h⟩
theorem fill_byte {zs : List Int} (h : ∀ x ∈ zs, 0 ≤ x ∧ x ≤ 255) : ∀ x ∈ fillZ zs, 0 ≤ x ∧ x ≤ 255 := by
  intro x hx
  unfold fillZ at hx
  rcases List.mem_append.1 hx with hx | hx
  · rcases List.mem_append.1 hx with hx | hx
    · rcases List.mem_append.1 hx with hx | hx
      · exact h x hx
      · simp only [List.mem_cons, List.not_mem_nil, or_false] at hx
        omega
    · have := List.eq_of_mem_replicate hx
      omega
  · exact beZ_byte _ _ x hx

theorem pad_step {n j : Nat} (h : j < padN n) : ¬ (n + 1 + j) % 64 = 56 := by unfold padN at h; omega
theorem pad_end {n j : Nat} (h : j = padN n) : (n + 1 + j) % 64 = 56 := by unfold padN at h; omega
theorem pad_le (n : Nat) : padN n ≤ 63 := by unfold padN; omega

end Go.Proofs.YtgmefdmeeihgoaaDoor
