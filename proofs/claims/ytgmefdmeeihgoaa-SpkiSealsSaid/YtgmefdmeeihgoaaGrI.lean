/-
  Merged texts: SkR, SkS, SkT.
-/
import Derived.Test.YtgmefdmeeihgoaaGrG
import Derived.Test.YtgmefdmeeihgoaaGrH
import Derived.Test.YtgmefdmeeihgoaaGrD
import Derived.Test.YtgmefdmeeihgoaaGrB
namespace Go.Proofs.Ytgmefdmeeihgoaa
open Go.RowKit
set_option linter.unusedVariables false
set_option linter.unusedSimpArgs false

set_option maxHeartbeats 1000000 in
theorem rmade_any (last : Int) (h0 : 0 ≤ last) (h1 : last ≤ 1000) (w : World) : Calls Try.prog 17 #[.int .u32 last] w (GivesNode (algT last) w) := by
  have S0 := Lib.hid (RB.start w)
  have R1 := row32_const (w.alloc (.cells #[.int .i64 0, .slice none 0 0, .slice none 0 0] 25)) (arcsK last) (arcs_range last h0 h1)
  have CO := roid_any _ _ 7 _ _ R1
  rw [oid_is] at CO
  have S1 := Lib.hid (S0.out.go ((Below.refl _ _).alloc (Nat.le_refl _) (.cells ((arcsK last).map (Value.int .u32)).toArray 42)))
  unfold arcsK at CO S1
  simp only [World.size_alloc, List.length_cons, List.length_nil, List.map_cons, List.map_nil] at CO S1
  have CI := Lib.hid CO
  clear R1 CO
  go_enter Try.func17, Try.ntmps17
  go_wp2_with fail
  refine CI.out.mono ?_
  rintro e w3 ⟨A, n, c, K, m, d, rfl, hin, hb⟩
  have S3 := Lib.hid (S1.out.go hb)
  have I3 : Hid ((oidT last).InP (w.heap.size < ·) w3 (.agg #[.int .i64 6, .slice A n c, .slice K m d])) := T.InP.keep (fun x _ hp => ⟨by have hp' := hp; simp at hp'; show w.heap.size < x; omega, rfl⟩) (Nat.le_refl _) _ hin
  clear CI S1 S0 hin hb
  have B4 : Below w3.heap.size w3 ((w3.alloc (.cells #[.int .i64 (oidT last).tag, .slice A n c, .slice K m d] 25)).alloc (.cells #[.int .i64 (oidT last).tag, .slice A n c, .slice K m d, .int .i64 5, .slice none 0 0, .slice none 0 0] 25)) := ((Below.refl _ _).alloc (Nat.le_refl _) _).alloc (by simp) _
  have S4 := Lib.hid (S3.out.go B4)
  have K4 : Hid (KidsP (w.heap.size < ·) ((w3.alloc (.cells #[.int .i64 (oidT last).tag, .slice A n c, .slice K m d] 25)).alloc (.cells #[.int .i64 (oidT last).tag, .slice A n c, .slice K m d, .int .i64 5, .slice none 0 0, .slice none 0 0] 25)) (some ⟨w3.heap.size + 1, 0, none⟩) 2 2 [oidT last, .node 5 [] []]) := by
    have hb := Blk.new (w3.alloc (.cells #[.int .i64 (oidT last).tag, .slice A n c, .slice K m d] 25)) 25 #[.int .i64 (oidT last).tag, .slice A n c, .slice K m d, .int .i64 5, .slice none 0 0, .slice none 0 0]
    rw [show (w3.alloc (.cells #[.int .i64 (oidT last).tag, .slice A n c, .slice K m d] 25)).heap.size = w3.heap.size + 1 by simp] at hb
    exact kids_two hb (by have := S3.out.below.size; have := S3.out.box.lt; show w.heap.size < w3.heap.size + 1; omega) (T.InP.below B4 (fun _ h => h) _ I3.out) (null_inP _ _)
  obtain ⟨c0, c1, c2, f0, f1, f2⟩ := S4.out.box.facts
  clear B4 S3 I3
  go_wp2_with fail
  exact gives_seq rfl rfl S4.out K4.out

set_option maxHeartbeats 2000000 in
theorem rseal_any (t : T) (v : Value) (a : Option Addr) (n ca : Nat) (zs : List Int) (w : World) (hin : t.In w v) (hwt : wt t + zs.length < 39000) (hr : Row w a n zs) (hnil : a = none → ca = 0) : Calls Try.prog 8 #[v, .slice a n ca] w (GivesWrite (writeZ (sealT t zs)) w) := by
  obtain ⟨A, nb, c, K, m, d, rfl⟩ := (T.In.inP t hin).form
  have BX := Lib.hid (Box.start hin)
  have hlen := hr.1
  have hw0 := wt_ge t
  have WS := wt_seal t zs
  have CO := rbits_any a n ca zs (8 * (n : Int)) (w.alloc (.cells #[.int .i64 t.tag, .slice A nb c, .slice K m d] 25)) (hr.below BX.out.below) (by omega) hnil
  have e : bitsZ zs (8 * (n : Int)) = (bitsT zs, 0) := by rw [← hlen]; exact bits_whole zs
  rw [e] at CO
  have CI := Lib.hid CO
  have I0 := Lib.hid (T.In.any BX.out.has)
  have X0 := Lib.hid BX.out.blk
  have B0 := Lib.hid BX.out.below
  have hn1 : n ≤ 39000 := by omega
  clear CO e hr hnil hin BX hlen
  go_enter Try.func8, Try.ntmps8
  go_wp2_with fail
  refine CI.out.mono ?_
  rintro e w2 ⟨A2, n2, c2, K2, m2, d2, rfl, hin2, hb2⟩
  have A3 : Below w2.heap.size w2 (w2.alloc (.cells #[.int .i64 (bitsT zs).tag, .slice A2 n2 c2, .slice K2 m2 d2] 25)) := (Below.refl _ _).alloc (Nat.le_refl _) _
  have E3 := hb2.trans (A3.mono hb2.size)
  have X3 := Lib.hid (X0.out.below E3 X0.out.lt)
  have Y3 := Lib.hid (Blk.new w2 25 #[.int .i64 (bitsT zs).tag, .slice A2 n2 c2, .slice K2 m2 d2])
  have B3 := Lib.hid (B0.out.trans (E3.mono B0.out.size))
  have I3 := Lib.hid (T.InP.below E3 (fun _ h => h) _ I0.out)
  have J3 := Lib.hid (T.InP.below A3 (Q := Any) (fun _ _ => trivial) _ hin2)
  clear CI X0 B0 I0 hin2 hb2 A3 E3
  go_wp2_with fail
  generalize w2.alloc (.cells #[.int .i64 (bitsT zs).tag, .slice A2 n2 c2, .slice K2 m2 d2] 25) = w3 at *
  generalize w2.heap.size = g6 at *
  have l0 := cell_later (X3.out.cell 0)
  have l1 := cell_later (X3.out.cell 1)
  have l2 := cell_later (X3.out.cell 2)
  have k0 := cell_later (Y3.out.cell 0)
  have k1 := cell_later (Y3.out.cell 1)
  have k2 := cell_later (Y3.out.cell 2)
  refine wp_region_ord Ext Ext.refl (fun _ _ _ => Ext.trans) ((0, false) :: (2, false) :: (1, true) :: (3, true) :: (4, false) :: (5, true) :: (6, false) :: (7, false) :: (8, false) :: (9, false) :: []) (by kernel_rfl) (by kernel_rfl) rfl (by kernel_rfl) (fun _ _ _ _ _ h => h) ?_
  repeat (refine ord_take _ rfl (by rfl) (fun W hW => by go_simp; first | done | rfl) ?_; simp only [Act.put, List.setIfInBounds_toArray, List.set_cons_zero, List.set_cons_succ])
  clear l0 l1 l2 k0 k1 k2 X3 Y3
  have B4 : Hid (Below w.heap.size w w3.drew) := B3.out.drew
  have I4 := Lib.hid (T.InP.below (w := w3) (w' := w3.drew) (Below.refl _ _).drew (fun _ h => h) _ I3.out)
  have J4 := Lib.hid (T.InP.below (w := w3) (w' := w3.drew) (Below.refl _ _).drew (fun _ h => h) _ J3.out)
  clear B3 I3 J3
  generalize w3.drew = w4 at *
  refine ord_sole rfl (by rfl) (fun K1 hK1 => ?_)
  go_simp
  refine (rmade_any 11 (by omega) (by omega) w4).mono ?_
  rintro e w5 ⟨A5, n5, c5, K5, m5, d5, rfl, hin5, hb5⟩
  refine hK1 _ _ hb5 ?_
  clear hK1 K1
  have A6 : Below w5.heap.size w5 (w5.alloc (.cells #[.int .i64 t.tag, .slice A nb c, .slice K m d, .int .i64 (algT 11).tag, .slice A5 n5 c5, .slice K5 m5 d5, .int .i64 (bitsT zs).tag, .slice A2 n2 c2, .slice K2 m2 d2] 25)) := (Below.refl _ _).alloc (Nat.le_refl _) _
  have E6 := hb5.trans (A6.mono hb5.size)
  have B6 := Lib.hid (B4.out.trans (E6.mono B4.out.size))
  have K6 := Lib.hid (kids_three (P := Any) (Blk.new w5 25 #[.int .i64 t.tag, .slice A nb c, .slice K m d, .int .i64 (algT 11).tag, .slice A5 n5 c5, .slice K5 m5 d5, .int .i64 (bitsT zs).tag, .slice A2 n2 c2, .slice K2 m2 d2]) trivial (T.InP.below E6 (fun _ h => h) _ I4.out) (T.InP.below A6 (Q := Any) (fun _ _ => trivial) _ hin5) (T.InP.below E6 (fun _ h => h) _ J4.out))
  clear hb5 hin5 B4 I4 J4 E6
  refine ord_sole rfl (by rfl) (fun K1 hK1 => ?_)
  go_simp
  refine hK1 _ _ A6 ?_
  clear hK1 K1 A6
  generalize w5.alloc (.cells #[.int .i64 t.tag, .slice A nb c, .slice K m d, .int .i64 (algT 11).tag, .slice A5 n5 c5, .slice K5 m5 d5, .int .i64 (bitsT zs).tag, .slice A2 n2 c2, .slice K2 m2 d2] 25) = w6 at *
  generalize w5.heap.size = g9 at *
  have CW := Lib.hid (rwrite_big (sealT t zs) _ w6 (T.InP.in _ (K6.out.node (z := 48) (by decide))) (by omega))
  repeat (refine ord_take _ rfl (by rfl) (fun W hW => by go_simp; first | done | rfl) ?_; simp only [Act.put, List.setIfInBounds_toArray, List.set_cons_zero, List.set_cons_succ])
  refine ord_sole rfl (by rfl) (fun K1 hK1 => ?_)
  go_simp
  refine CW.out.mono ?_
  rintro e w7 ⟨a7, c7, rfl, hr7, hn7, hb7⟩
  refine hK1 _ _ hb7 ?_
  clear hK1 K1
  have B7 := Lib.hid (B6.out.trans (hb7.mono B6.out.size))
  have R7 := Lib.hid hr7
  have N7 := Lib.hid hn7
  clear hb7 B6 K6 CW hr7 hn7
  repeat (refine ord_take _ rfl (by rfl) (fun W hW => by go_simp; first | done | rfl) ?_; simp only [Act.put, List.setIfInBounds_toArray, List.set_cons_zero, List.set_cons_succ])
  refine ord_end ?_
  go_wp2_with fail
  go_ret2
  exact ⟨a7, c7, rfl, R7.out, N7.out, B7.out⟩

end Go.Proofs.Ytgmefdmeeihgoaa

namespace Go.Proofs.Ytgmefdmeeihgoaa
open Go.RowKit
set_option linter.unusedVariables false
set_option linter.unusedSimpArgs false

theorem capped_le {z : Value} {A : Option Addr} {n c : Nat} {y : Value} (h : n ≤ c) : Capped (.agg #[z, .slice A n c, y]) := by
  intro z' A' n' c' y' e
  simp only [Value.agg.injEq] at e
  have e' := congrArg Array.toList e
  simp only [List.cons.injEq, and_true, Value.slice.injEq] at e'
  obtain ⟨_, ⟨_, rfl, rfl⟩, _⟩ := e'
  exact h
theorem T.In.capped {w : World} {t : T} {v : Value} (h : t.In w v) : Capped v := by
  obtain ⟨A, n, c, K, m, d, rfl, _, _, _, _, _, hcc, _⟩ := h.open
  exact capped_le hcc.2.1

/-- Where the reference's Open stands: its result's box, the element's box. -/
structure RO (w W : World) (g : Nat) (x : T) (A : Option Addr) (nb c : Nat) (K : Option Addr) (m d : Nat) : Prop where
  far : w.heap.size < g
  res : Blk W w.heap.size 25 #[.int .i64 0, .slice none 0 0, .slice none 0 0]
  box : Blk W g 25 #[.int .i64 x.tag, .slice A nb c, .slice K m d]
  below : Below w.heap.size w W
  has : x.InP (w.heap.size < ·) W (.agg #[.int .i64 x.tag, .slice A nb c, .slice K m d])
theorem RO.go {w W W' : World} {g : Nat} {x : T} {A : Option Addr} {nb c : Nat} {K : Option Addr} {m d : Nat} (h : RO w W g x A nb c K m d) (hb : Below W.heap.size W W') : RO w W' g x A nb c K m d :=
  ⟨h.far, h.res.below hb h.res.lt, h.box.below hb h.box.lt, h.below.trans (hb.mono h.below.size), T.InP.below hb (fun _ h => h) _ h.has⟩
/-- The end of a way that finds nothing. -/
theorem opn_no {w W : World} {x : Except Int (T × List Int × List Int)} {g : Nat} {t : T} {A : Option Addr} {nb c : Nat} {K : Option Addr} {m d : Nat} {tmps : Array Value} {fn : Func} {p u1 u2 u3 : Tmp} {z : Int} (h : RO w W g t A nb c K m d) (hx : x = .error z) (hz : ¬ z = 0) (hf : fn.results = #[.cell p 25, .tmp u1, .tmp u2, .tmp u3]) (hp : tmps.getD p undef = .pointer (some ⟨w.heap.size, 0, none⟩)) (h1 : tmps.getD u1 undef = .slice none 0 0) (h2 : tmps.getD u2 undef = .slice none 0 0) (h3 : tmps.getD u3 undef = .int .i64 z) :
    bodyPost Try.prog fn (GivesOpn x w) .ret { tmps := tmps, defers := [] } (((W.setCell ⟨w.heap.size, 0, none⟩ (.int .i64 0)).setCell ⟨w.heap.size, 1, none⟩ (.slice none 0 0)).setCell ⟨w.heap.size, 2, none⟩ (.slice none 0 0)) := by
  have C := ((h.res.set 0 (.int .i64 0)).set 1 (.slice none 0 0)).set 2 (.slice none 0 0)
  have R := results_four (P := Try.prog) hf tmps _ w.heap.size 25 _ (0, 0) _ hp C Try.underlying25 rfl Try.sizeNode
  rw [h1, h2, h3] at R
  exact bodyPost_ret R rfl ⟨h.below.trans (three_past (B := w.heap.size) (g := w.heap.size) W (Nat.le_refl _) _ _ _), .inl ⟨z, hx, hz, rfl⟩⟩
theorem ropened_few {b : List Int} {x : T} (h : ¬ x.kids.length = 3) : ropenedZ b x = .error 2 := by
  unfold ropenedZ
  split
  · rename_i n a s hk
    rw [hk] at h
    exact absurd rfl h
  · rfl
theorem ropened_three {b : List Int} {x n a s : T} (h : x.kids = [n, a, s]) : ropenedZ b x = if (writeZ (sealT n (ofZ s).1)).2 = 0 ∧ (writeZ (sealT n (ofZ s).1)).1 = b then .ok (n, (writeZ n).1, (ofZ s).1) else .error 2 := by
  unfold ropenedZ
  rw [h]

set_option maxHeartbeats 4000000 in
theorem ropen_any (a : Option Addr) (n ca : Nat) (zs : List Int) (w : World) (hr : Row w a n zs) (hnc : n ≤ ca) (hn : n ≤ 30000) : Calls Try.prog 10 #[.slice a n ca] w (GivesOpn (openZ zs) w) := by
  have b1 : Below w.heap.size w (w.alloc (.cells #[.int .i64 0, .slice none 0 0, .slice none 0 0] 25)) := (Below.refl _ _).alloc (Nat.le_refl _) _
  have S0 := Lib.hid (Blk.new w 25 #[.int .i64 0, .slice none 0 0, .slice none 0 0])
  have CR := Lib.hid (rread_any a n ca zs _ (hr.below b1) hnc hn)
  have HB := Lib.hid hr.2.1
  have R0 := Lib.hid hr
  have B1 := Lib.hid b1
  clear b1 hr
  go_enter Try.func10, Try.ntmps10
  go_wp2_with fail
  generalize hw1 : w.alloc (.cells #[.int .i64 0, .slice none 0 0, .slice none 0 0] 25) = w1 at *
  have hs1 : Hid (w.heap.size < w1.heap.size) := S0.out.lt
  clear hw1
  refine CR.out.mono ?_
  rintro e w2 ⟨hb2, hways⟩
  have S2 := Lib.hid (S0.out.below hb2 S0.out.lt)
  have B2 := Lib.hid (Below.step B1.out (hb2.mono (Nat.le_refl _)))
  clear S0 B1
  rcases hways with ⟨z, hz, rfl⟩ | ⟨x, v, hx, rfl, hin⟩
  · have F : Hid (openZ zs = .error z) := by unfold openZ; rw [hz]; exact Lib.hid rfl
    have hz0 := read_err hz
    have t0 : (z != 0) = true := by simpa using hz0
    have P3 : Hid (RO w (w2.alloc (.cells #[.int .i64 0, .slice none 0 0, .slice none 0 0] 25)) w2.heap.size (.node 0 [] []) none 0 0 none 0 0) :=
      ⟨S2.out.lt, S2.out.alloc _, Blk.new _ _ _, B2.out.alloc B2.out.size _, leaf_inP rfl (Row.nil _ _) (by simp) ⟨fun _ => rfl, Nat.le_refl _⟩ (fun h => absurd h (by simp))⟩
    obtain ⟨p0, p1, p2, f0, f1, f2⟩ := P3.out.res.facts
    have HZ := Lib.hid hz0
    clear hz hz0 CR HB hb2 S2 B2
    go_wp2_with fail
    exact opn_no P3.out F.out HZ.out rfl rfl rfl rfl rfl
  obtain ⟨A, nb, c, K, m, d, rfl⟩ := hin.form
  have F0 : Hid (openZ zs = ropenedZ zs x) := by unfold openZ; rw [hx]; exact Lib.hid (ropened_is HB.out hx).symm
  obtain ⟨hwt, hwr⟩ := read_fit HB.out hx
  have P3 : Hid (RO w (w2.alloc (.cells #[.int .i64 x.tag, .slice A nb c, .slice K m d] 25)) w2.heap.size x A nb c K m d) :=
    ⟨S2.out.lt, S2.out.alloc _, Blk.new _ _ _, B2.out.alloc B2.out.size _, T.InP.below ((Below.refl _ _).alloc (Nat.le_refl _) _) (fun b (hb : w1.heap.size ≤ b) => (by have := hs1.out; show w.heap.size < b; omega)) _ hin⟩
  have E3 : Below w.heap.size w (w2.alloc (.cells #[.int .i64 x.tag, .slice A nb c, .slice K m d] 25)) := P3.out.below
  have R3 := Lib.hid (R0.out.below E3)
  have hml : x.kids.length = m := by have := P3.out.has.kidsP.1; exact this
  clear hin hx CR hb2 E3 S2 B2 R0 hs1
  obtain ⟨x0, x1, x2, _, _, _⟩ := P3.out.box.facts
  obtain ⟨p0, p1, p2, f0, f1, f2⟩ := P3.out.res.facts
  by_cases hm : m = 3
  rotate_left
  · have F : Hid (openZ zs = .error 2) := by rw [F0.out]; exact Lib.hid (ropened_few (by omega))
    have t1 : ((m : Int) != 3) = true := by simp; omega
    clear hm F0 hwr hwt hml
    go_wp2_with fail
    exact opn_no P3.out F.out (by decide) rfl rfl rfl rfl rfl
  subst hm
  obtain ⟨k0, k1, k2, hks⟩ : ∃ k0 k1 k2, x.kids = [k0, k1, k2] := by
    rcases hk : x.kids with _ | ⟨k0, _ | ⟨k1, _ | ⟨k2, _ | ⟨k3, r⟩⟩⟩⟩
    · rw [hk] at hml; simp at hml
    · rw [hk] at hml; simp at hml
    · rw [hk] at hml; simp at hml
    · exact ⟨k0, k1, k2, rfl⟩
    · rw [hk] at hml; simp at hml
  have F1 : Hid (openZ zs = if (writeZ (sealT k0 (ofZ k2).1)).2 = 0 ∧ (writeZ (sealT k0 (ofZ k2).1)).1 = zs then .ok (k0, (writeZ k0).1, (ofZ k2).1) else .error 2) := by rw [F0.out]; exact Lib.hid (ropened_three hks)
  have hm0 : k0 ∈ x.kids := by rw [hks]; simp
  have hm2 : k2 ∈ x.kids := by rw [hks]; simp
  have W0 := Lib.hid (hwr k0 hm0)
  have hw0 : wt k0 < 30000 := by have := wt_kid hm0; omega
  have hb2 : k2.body.length ≤ 30000 := by have h1 := wt_kid hm2; have h2 := wt_eq k2; have h3 := wtAll_pos k2.kids; omega
  have hsum : wt k0 + (ofZ k2).1.length < 39000 := by
    have h1 := of_len k2
    have h2 := wt_eq k2
    have h3 := wtAll_pos k2.kids
    have h4 : wt k0 + wt k2 < 30000 := by
      have h5 := wt_eq x
      rw [hks] at h5
      simp only [wtAll] at h5
      have h6 := wt_ge k1
      omega
    omega
  have KK := Lib.hid P3.out.has.kidsP
  rw [hks] at KK
  obtain ⟨y, b, off, z, A2, n2, c2, K2, m2, d2, he, rfl, q0, q1, q2, hin2⟩ := KK.out.kid 2 (by omega)
  obtain rfl : k2 = y := by simpa using he
  have CO := Lib.hid (rof_any k2 _ _ (T.InP.in _ hin2) (T.InP.in _ hin2).capped (by omega))
  clear he hin2 hm0 hm2 hwr hwt F0 hml
  go_wp2_with fail
  refine CO.out.mono ?_
  rintro e w4 ⟨a4, c4, rfl, hr4, hn4, hc4, hb4⟩
  have P4 := Lib.hid (P3.out.go hb4)
  have R4 := Lib.hid (R3.out.below hb4)
  have S4 := Lib.hid hr4
  have N4 := Lib.hid hn4
  clear CO P3 R3 KK hb4 hr4 hn4 q0 q1 q2 x0 x1 x2 p0 p1 p2 f0 f1 f2
  generalize w2.heap.size = g6 at *
  generalize (ofZ k2).1 = sig at *
  generalize (ofZ k2).2.1 = o1
  generalize (ofZ k2).2.2 = o2
  obtain ⟨x0, x1, x2, _, _, _⟩ := P4.out.box.facts
  have KK := Lib.hid P4.out.has.kidsP
  rw [hks] at KK
  obtain ⟨y, b', off', z0, A0, n0, c0, K0, m0, d0, he, heq, q0, q1, q2, hin0⟩ := KK.out.kid 0 (by omega)
  obtain rfl : k0 = y := by simpa using he
  obtain ⟨rfl, rfl⟩ : b = b' ∧ off = off' := by simpa using heq
  obtain rfl := inP_tag hin0
  rw [Nat.zero_mul, Nat.add_zero] at q0 q1 q2
  have CS := Lib.hid (rseal_any k0 _ a4 sig.length c4 sig w4 (T.InP.in _ hin0) hsum S4.out N4.out)
  clear he heq hin0
  go_wp2_with fail
  refine CS.out.mono ?_
  rintro e w5 ⟨a5, c5, rfl, hr5, hn5, hb5⟩
  have P5 := Lib.hid (P4.out.go hb5)
  have R5 := Lib.hid (R4.out.below hb5)
  have S5 := Lib.hid (S4.out.below hb5)
  have C5 := Lib.hid hr5
  clear CS P4 R4 S4 KK hb5 hr5 hn5 q0 q1 q2 x0 x1 x2
  generalize (writeZ (sealT k0 sig)).1 = cz at *
  generalize (writeZ (sealT k0 sig)).2 = er at *
  obtain ⟨x0, x1, x2, _, _, _⟩ := P5.out.box.facts
  obtain ⟨p0, p1, p2, f0, f1, f2⟩ := P5.out.res.facts
  by_cases he0 : er = 0
  rotate_left
  · have F : Hid (openZ zs = .error 2) := by rw [F1.out]; exact Lib.hid (if_neg (fun h => he0 h.1))
    have t1 : (er != 0) = true := by simpa using he0
    clear he0 F1
    go_wp2_with fail
    exact opn_no P5.out F.out (by decide) rfl rfl rfl rfl rfl
  subst he0
  have kx := conv_at c5 C5.out
  have ky := conv_at ca R5.out
  have ts := strs_test C5.out.2.1 R5.out.2.1
  by_cases hz : cz = zs
  rotate_left
  · have F : Hid (openZ zs = .error 2) := by rw [F1.out]; exact Lib.hid (if_neg (fun h => hz h.2))
    have t2 : (cz == zs) = false := by simpa using hz
    rw [t2] at ts
    clear hz F1 t2
    go_wp2_with fail
    exact opn_no P5.out F.out (by decide) rfl rfl rfl rfl rfl
  have F : Hid (openZ zs = .ok (k0, (writeZ k0).1, sig)) := by rw [F1.out]; exact Lib.hid (if_pos ⟨rfl, hz⟩)
  have t2 : (cz == zs) = true := by simpa using hz
  rw [t2] at ts
  clear hz F1 t2
  have KK := Lib.hid P5.out.has.kidsP
  rw [hks] at KK
  obtain ⟨y, b', off', z0, A0, n0, c0, K0, m0, d0, he, heq, q0, q1, q2, hin0⟩ := KK.out.kid 0 (by omega)
  obtain rfl : k0 = y := by simpa using he
  obtain ⟨rfl, rfl⟩ : b = b' ∧ off = off' := by simpa using heq
  obtain rfl := inP_tag hin0
  rw [Nat.zero_mul, Nat.add_zero] at q0 q1 q2
  have CW := Lib.hid (write_any k0 _ w5 (T.InP.in _ hin0) hw0)
  clear he heq hin0 p0 p1 p2 f0 f1 f2
  go_wp2_with fail
  refine CW.out.mono ?_
  rintro e w6 ⟨a6, c6, rfl, hr6, hn6, hb6⟩
  have P6 := Lib.hid (P5.out.go hb6)
  have S6 := Lib.hid (S5.out.below hb6)
  have W6 := Lib.hid hr6
  have N6 := Lib.hid hn6
  clear CW P5 R5 S5 C5 KK hb6 hr6 hn6 q0 q1 q2 x0 x1 x2 kx ky ts
  obtain ⟨x0, x1, x2, _, _, _⟩ := P6.out.box.facts
  obtain ⟨p0, p1, p2, f0, f1, f2⟩ := P6.out.res.facts
  have KK := P6.out.has.kidsP
  rw [hks] at KK
  obtain ⟨y, b', off', z0, A0, n0, c0, K0, m0, d0, he, heq, q0, q1, q2, hin0⟩ := KK.kid 0 (by omega)
  obtain rfl : k0 = y := by simpa using he
  obtain ⟨rfl, rfl⟩ : b = b' ∧ off = off' := by simpa using heq
  obtain rfl := inP_tag hin0
  rw [Nat.zero_mul, Nat.add_zero] at q0 q1 q2
  have I6 := Lib.hid hin0
  clear he heq hin0 KK
  go_wp2_with fail
  have G := three_grow w.heap.size w6 (.int .i64 k0.tag) (.slice A0 n0 c0) (.slice K0 m0 d0)
  have C := ((P6.out.res.set 0 (.int .i64 k0.tag)).set 1 (.slice A0 n0 c0)).set 2 (.slice K0 m0 d0)
  exact bodyPost_ret (results_four rfl _ _ w.heap.size 25 _ (0, 0) _ rfl C Try.underlying25 rfl Try.sizeNode) rfl ⟨P6.out.below.trans (three_past (B := w.heap.size) (g := w.heap.size) w6 (Nat.le_refl _) _ _ _), .inr ⟨k0, _, sig, A0, n0, c0, K0, m0, d0, a6, c6, a4, c4, F.out, rfl, T.InP.in _ (I6.out.grownP (fun b hb => Nat.ne_of_gt hb) G), row_grown W6.out (row_off W6.out P6.out.res node_zeros) G, N6.out, row_grown S6.out (row_off S6.out P6.out.res node_zeros) G, N4.out⟩⟩

end Go.Proofs.Ytgmefdmeeihgoaa

namespace Go.Proofs.Ytgmefdmeeihgoaa
open Go.RowKit
set_option linter.unusedVariables false
set_option linter.unusedSimpArgs false

/-- What Open answers, as one word. -/
def opnN (x : Except Int (T × List Int × List Int)) : T := match x with | .ok v => v.1 | .error _ => .node 0 [] []
def opnS (x : Except Int (T × List Int × List Int)) : List Int := match x with | .ok v => v.2.1 | .error _ => []
def opnG (x : Except Int (T × List Int × List Int)) : List Int := match x with | .ok v => v.2.2 | .error _ => []
def opnE (x : Except Int (T × List Int × List Int)) : Int := match x with | .ok _ => 0 | .error z => z
theorem opn_one {x : Except Int (T × List Int × List Int)} {w w' : World} {e : Ending} (h : GivesOpn x w e w') : Below w.heap.size w w' ∧ ∃ A n c K m d a1 c1 a2 c2, e = .returned (.tuple #[.agg #[.int .i64 (opnN x).tag, .slice A n c, .slice K m d], .slice a1 (opnS x).length c1, .slice a2 (opnG x).length c2, .int .i64 (opnE x)]) ∧
    (opnN x).In w' (.agg #[.int .i64 (opnN x).tag, .slice A n c, .slice K m d]) ∧ Row w' a1 (opnS x).length (opnS x) ∧ Row w' a2 (opnG x).length (opnG x) := by
  obtain ⟨hb, ⟨z, rfl, _, rfl⟩ | ⟨n, said, sig, A, nn, c, K, m, d, a1, c1, a2, c2, rfl, rfl, hin, h1, _, h2, _⟩⟩ := h
  · exact ⟨hb, none, 0, 0, none, 0, 0, none, 0, none, 0, rfl, T.InP.in _ (leaf_inP (P := Any) rfl (Row.nil _ _) (by simp) ⟨fun _ => rfl, Nat.le_refl _⟩ (fun h => absurd h (by simp))), Row.nil _ _, Row.nil _ _⟩
  · exact ⟨hb, A, nn, c, K, m, d, a1, c1, a2, c2, rfl, hin, h1, h2⟩

set_option maxHeartbeats 4000000 in
theorem seals_walk (t : T) (v : Value) (a1 : Option Addr) (n1 c1 : Nat) (sig : List Int) (a2 : Option Addr) (n2 c2 : Nat) (zs : List Int) (w : World) (hin : t.In w v) (hr1 : Row w a1 n1 sig) (hnil1 : a1 = none → c1 = 0) (hm1 : n1 ≤ maxLen) (hr2 : Row w a2 n2 zs) (hnc2 : n2 ≤ c2) (hnil2 : a2 = none → c2 = 0) (hm2 : n2 ≤ maxLen) :
    Calls Try.prog 3 #[v, .slice a1 n1 c1, .slice a2 n2 c2] w fun e w' => e = .returned (.bool true) ∧ Below w.heap.size w w' := by
  obtain ⟨A, nb, c, K, m, d, rfl⟩ := (T.In.inP t hin).form
  have BX := Lib.hid (Box.start hin)
  have R1 := Lib.hid (hr1.below BX.out.below)
  have R2 := Lib.hid (hr2.below BX.out.below)
  have N1 := Lib.hid hnil1
  have N2 := Lib.hid hnil2
  have hl1 := hr1.1
  unfold maxLen at hm1 hm2
  clear hin hr1 hnil1 hr2 hnil2
  obtain ⟨g0, g1, g2⟩ := BX.out.cells
  go_enter Try.func3, Try.ntmps3
  generalize hw1 : w.alloc (.cells #[.int .i64 t.tag, .slice A nb c, .slice K m d] 25) = w1 at *
  go_wp2_with fail
  refine (awake14_any _).mono ?_
  rintro e w2 ⟨rfl, hb2⟩
  have BX2 := Lib.hid (BX.out.go hb2)
  have R1b := Lib.hid (R1.out.below hb2)
  have R2b := Lib.hid (R2.out.below hb2)
  clear BX R1 R2 hb2 hw1 g0 g1 g2
  obtain ⟨g0, g1, g2⟩ := BX2.out.cells
  go_wp2_with fail
  refine (light_any t _ w2 BX2.out.has).mono ?_
  rintro e w3 ⟨rfl, hb3⟩
  have BX3 := Lib.hid (BX2.out.go hb3)
  have R13 := Lib.hid (R1b.out.below hb3)
  have R23 := Lib.hid (R2b.out.below hb3)
  clear BX2 R1b R2b hb3 g0 g1 g2
  obtain ⟨g0, g1, g2⟩ := BX3.out.cells
  cases hlt : lightT t
  · clear g0 g1 g2
    go_wp2_with fail
    go_ret
    exact ⟨rfl, BX3.out.below⟩
  obtain ⟨hwt, _⟩ := light_wt hlt
  clear hlt
  by_cases h1 : 1000 < n1
  · have t1 : decide (1000 < (n1 : Int)) = true := by simp; omega
    clear g0 g1 g2
    go_wp2_with fail
    go_ret
    exact ⟨rfl, BX3.out.below⟩
  have t1 : decide (1000 < (n1 : Int)) = false := by simp; omega
  by_cases h2 : 3000 < n2
  · have t2 : decide (3000 < (n2 : Int)) = true := by simp; omega
    clear g0 g1 g2
    go_wp2_with fail
    go_ret
    exact ⟨rfl, BX3.out.below⟩
  have t2 : decide (3000 < (n2 : Int)) = false := by simp; omega
  have CS := Lib.hid (seal_any t _ a1 n1 c1 sig w3 BX3.out.has (by omega) R13.out (by omega) N1.out)
  go_wp2_with fail
  refine CS.out.mono ?_
  rintro e w4 ⟨a4, c4, rfl, hr4, _, hb4, _⟩
  have BX4 := Lib.hid (BX3.out.go hb4)
  have R14 := Lib.hid (R13.out.below hb4)
  have R24 := Lib.hid (R23.out.below hb4)
  have X4 := Lib.hid hr4
  clear CS BX3 R13 R23 hb4 hr4 g0 g1 g2 t1 t2
  obtain ⟨g0, g1, g2⟩ := BX4.out.cells
  have CR := Lib.hid (rseal_any t _ a1 n1 c1 sig w4 BX4.out.has (by omega) R14.out N1.out)
  go_wp2_with fail
  refine CR.out.mono ?_
  rintro e w5 ⟨a5, c5, rfl, hr5, _, hb5⟩
  have BX5 := Lib.hid (BX4.out.below.trans (hb5.mono BX4.out.below.size))
  have R25 := Lib.hid (R24.out.below hb5)
  have X5 := Lib.hid (X4.out.below hb5)
  have Y5 := Lib.hid hr5
  clear CR BX4 R14 R24 X4 hb5 hr5 g0 g1 g2
  generalize (writeZ (sealT t sig)).1 = cz at *
  generalize (writeZ (sealT t sig)).2 = er at *
  have CO := Lib.hid (open_any a2 n2 c2 zs w5 R25.out hnc2 (by omega) N2.out)
  go_wp2_with fail
  refine CO.out.mono ?_
  intro e w6 h6
  obtain ⟨hb6, A6, n6, c6, K6, m6, d6, a61, c61, a62, c62, rfl, hin6, hr61, hr62⟩ := opn_one h6
  have A7 : Below w6.heap.size w6 (w6.alloc (.cells #[.int .i64 (opnN (openZ zs)).tag, .slice A6 n6 c6, .slice K6 m6 d6] 25)) := (Below.refl _ _).alloc (Nat.le_refl _) _
  have E7 := hb6.trans (A7.mono hb6.size)
  have B7 := Lib.hid (BX5.out.trans (E7.mono BX5.out.size))
  have R27 := Lib.hid (R25.out.below E7)
  have X7 := Lib.hid (X5.out.below E7)
  have Y7 := Lib.hid (Y5.out.below E7)
  have I7 := Lib.hid (T.In.below A7 _ hin6)
  have S7 := Lib.hid (hr61.below A7)
  have G7 := Lib.hid (hr62.below A7)
  have Z7 := Lib.hid (Blk.new w6 25 #[.int .i64 (opnN (openZ zs)).tag, .slice A6 n6 c6, .slice K6 m6 d6])
  clear CO BX5 R25 X5 Y5 h6 hb6 hin6 hr61 hr62 A7 E7
  go_wp2_with fail
  generalize w6.alloc (.cells #[.int .i64 (opnN (openZ zs)).tag, .slice A6 n6 c6, .slice K6 m6 d6] 25) = w7 at *
  generalize w6.heap.size = g13 at *
  refine (ropen_any a2 n2 c2 zs w7 R27.out hnc2 (by omega)).mono ?_
  intro e w8 h8
  obtain ⟨hb8, A8, n8, c8, K8, m8, d8, a81, c81, a82, c82, rfl, hin8, hr81, hr82⟩ := opn_one h8
  have A9 : Below w8.heap.size w8 (w8.alloc (.cells #[.int .i64 (opnN (openZ zs)).tag, .slice A8 n8 c8, .slice K8 m8 d8] 25)) := (Below.refl _ _).alloc (Nat.le_refl _) _
  have E9 := hb8.trans (A9.mono hb8.size)
  have B9 := Lib.hid (B7.out.trans (E9.mono B7.out.size))
  have X9 := Lib.hid (X7.out.below E9)
  have Y9 := Lib.hid (Y7.out.below E9)
  have I9 := Lib.hid (T.In.below E9 _ I7.out)
  have J9 := Lib.hid (T.In.below A9 _ hin8)
  have S9 := Lib.hid (S7.out.below E9)
  have G9 := Lib.hid (G7.out.below E9)
  have U9 := Lib.hid (hr81.below A9)
  have V9 := Lib.hid (hr82.below A9)
  obtain ⟨p0, p1, p2, _, _, _⟩ := (Z7.out.below E9 Z7.out.lt).facts
  obtain ⟨q0, q1, q2, _, _, _⟩ := (Blk.new w8 25 #[.int .i64 (opnN (openZ zs)).tag, .slice A8 n8 c8, .slice K8 m8 d8]).facts
  clear B7 R27 X7 Y7 I7 S7 G7 Z7 h8 hb8 hin8 hr81 hr82 A9 E9
  generalize opnN (openZ zs) = tn at *
  generalize opnS (openZ zs) = ts at *
  generalize opnG (openZ zs) = tg at *
  generalize opnE (openZ zs) = te at *
  have CM := Lib.hid (same_any tn tn _ _ _ I9.out J9.out)
  go_wp2_with fail
  refine CM.out.mono ?_
  rintro e w10 ⟨rfl, hb10⟩
  have B10 := Lib.hid (B9.out.trans (hb10.mono B9.out.size))
  have k1 := conv_at c4 (X9.out.below hb10)
  have k2 := conv_at c5 (Y9.out.below hb10)
  have k3 := conv_at c61 (S9.out.below hb10)
  have k4 := conv_at c81 (U9.out.below hb10)
  have k5 := conv_at c62 (G9.out.below hb10)
  have k6 := conv_at c82 (V9.out.below hb10)
  have SR := Lib.hid (same_refl tn)
  clear CM B9 X9 Y9 I9 J9 S9 G9 U9 V9 hb10 p0 p1 p2 q0 q1 q2
  rw [SR.out]
  have e1 : (er == er) = true := by simp
  have e2 : (te == te) = true := by simp
  have e3 : ((strOfNums cz).toList == (strOfNums cz).toList) = true := by simp
  have e4 : ((strOfNums ts).toList == (strOfNums ts).toList) = true := by simp
  have e5 : ((strOfNums tg).toList == (strOfNums tg).toList) = true := by simp
  go_wp2_with fail
  go_ret
  exact ⟨rfl, B10.out⟩

end Go.Proofs.Ytgmefdmeeihgoaa
