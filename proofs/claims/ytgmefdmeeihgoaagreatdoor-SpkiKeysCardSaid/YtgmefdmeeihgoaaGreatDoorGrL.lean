/-
  Merged texts: SkN, SkQ, SkU, SkW, SkR, SkV, SkZ, SkJ, RsI.
-/
import Derived.Test.YtgmefdmeeihgoaaGreatDoorGrK
import Derived.Test.YtgmefdmeeihgoaaGreatDoorGrI
import Derived.Test.YtgmefdmeeihgoaaGreatDoorGrH
import Derived.Test.YtgmefdmeeihgoaaGreatDoorGrE
import Derived.Test.YtgmefdmeeihgoaaGreatDoorGrD
import Derived.Test.YtgmefdmeeihgoaaGreatDoorGrJ
import Derived.Test.YtgmefdmeeihgoaaGreatDoorRows
import Derived.WalkKit
import Derived.ProofKit
import Derived.OpenShut
import Derived.ChangeArms
import Derived.ChangeSame
namespace Go.Proofs.YtgmefdmeeihgoaaGreatDoor
open Go.RowKit
set_option linter.unusedVariables false
set_option linter.unusedSimpArgs false
theorem readK_nil {t : T} (h : t.kids = []) : readK t = none := by unfold readK; rw [h]
theorem readK_one {t a : T} (h : t.kids = [a]) : readK t = none := by unfold readK; rw [h]
theorem readK_two {t a b : T} {r : List T} (h : t.kids = a :: b :: r) : readK t = if (ofZ b).2.2 = 0 then keyWithin t (readZ (ofZ b).1) else none := by unfold readK; rw [h]
theorem within_nil {t y : T} (h : y.kids = []) : keyWithin t (.ok y) = none := by unfold keyWithin; simp only [h]
theorem within_one {t y p : T} (h : y.kids = [p]) : keyWithin t (.ok y) = none := by unfold keyWithin; simp only [h]
theorem within_two {t y p q : T} {r : List T} (h : y.kids = p :: q :: r) : keyWithin t (.ok y) = keyIn t p q := by unfold keyWithin; simp only [h]
theorem T.In.cappedD {w : World} {t : T} {v : Value} (h : t.In w v) : Capped v := by
  obtain ⟨A, n, c, K, m, d, rfl, _, _, _, _, _, hcc, _⟩ := h.open
  intro z' A' n' c' y' e
  simp only [Value.agg.injEq] at e
  have e' := congrArg Array.toList e
  simp only [List.cons.injEq, and_true, Value.slice.injEq] at e'
  obtain ⟨_, ⟨_, rfl, rfl⟩, _⟩ := e'
  exact hcc.2.1
theorem T.In.bytes {w : World} {t : T} {v : Value} (h : t.In w v) : ∀ x ∈ t.body, 0 ≤ x ∧ x ≤ 255 := by
  obtain ⟨A, n, c, K, m, d, _, _, hr, _⟩ := h.open
  exact hr.2.1
theorem slice_zeros {K : Option Addr} {m d : Nat} : ∀ (j : Nat) (x : Int), (#[Value.slice K m d] : Array Value)[j]? ≠ some (.int .u8 x) := by
  intro j x h
  rcases j with _ | j <;> simp at h
theorem uint_rangeK (t : T) (hb : ∀ x ∈ t.body, 0 ≤ x ∧ x ≤ 255) : 0 ≤ (uintZ t).1 ∧ (uintZ t).1 ≤ 18446744073709551615 := by
  unfold uintZ
  split
  · exact numZ_range t.body hb 0 (by omega) (by omega)
  · simp
theorem two_grow (g : Nat) (W : World) (a b : Value) : GrowR g W ((W.setCell ⟨g, 0, none⟩ a).setCell ⟨g, 1, none⟩ b) := grown_trans (grown_set W g 0 a) (grown_set _ g 1 b)
theorem key_zeros : ∀ (j : Nat) (x : Int), (#[Value.slice none 0 0, .int .u32 0] : Array Value)[j]? ≠ some (.int .u8 x) := by
  intro j x h
  rcases j with _ | _ | j <;> simp at h
theorem Tryz.sizeKey : (Tryz.prog.info? 25).map (·.size) = some 2 := by kernel_rfl
theorem great_len (t : T) : (greatZ t).1.length ≤ t.body.length := by
  unfold greatZ
  split
  · exact bare_le _
  · simp
structure KP (w wr : World) (x : T) (A : Option Addr) (nb c : Nat) (K : Option Addr) (m d : Nat) : Prop where
  box : Blk wr w.heap.size 28 #[.int .i64 x.tag, .slice A nb c, .slice K m d]
  res : Blk wr (w.heap.size + 1) 25 #[.slice none 0 0, .int .u32 0]
  below : Below w.heap.size w wr
  has : x.InP (· < w.heap.size) wr (.agg #[.int .i64 x.tag, .slice A nb c, .slice K m d])
theorem KP.grow {w wr w' : World} {g : Nat} {x : T} {A : Option Addr} {nb c : Nat} {K : Option Addr} {m d : Nat} (h : KP w wr x A nb c K m d) (hf : w.heap.size + 1 < g) (hg : GrowR g wr w') : KP w w' x A nb c K m d :=
  ⟨h.box.grown hg (by omega), h.res.grown hg (by omega), h.below.trans (grown_below hg _ (by omega) h.below.size), h.has.grownP (fun b hb => by have hb' : b < w.heap.size := hb; omega) hg⟩
theorem KP.go {w wr w' : World} {x : T} {A : Option Addr} {nb c : Nat} {K : Option Addr} {m d : Nat} (h : KP w wr x A nb c K m d) (hb : Below wr.heap.size wr w') : KP w w' x A nb c K m d :=
  h.grow (g := w.heap.size + 2) (by omega) (GrowR.below hb)
def GivesKeyOf (x : Option (List Int × Int)) (w : World) (e : Ending) (w' : World) : Prop := Below w.heap.size w w' ∧
  ((x = none ∧ e = .panicked (errP 2)) ∨
   (∃ (ns : List Int) (ex : Int) (a : Option Addr) (c : Nat), x = some (ns, ex) ∧ e = .returned (.agg #[.slice a ns.length c, .int .u32 ex]) ∧ KeyAt w' a ns.length c ex ns))
set_option maxRecDepth 100000 in
set_option maxHeartbeats 4000000 in
theorem keyOf_any (t : T) (v : Value) (w : World) (hin : t.In w v) (hwt : wt t < 30000) : Calls Tryz.prog 29 #[v] w (GivesKeyOf (readK t) w) := by
  obtain ⟨A, nb, c, K, m, d, rfl⟩ := (T.In.inP t hin).form
  have X0 := (Blk.new w 28 #[.int .i64 t.tag, .slice A nb c, .slice K m d]).alloc (.cells #[.slice none 0 0, .int .u32 0] 25)
  have S0 := Blk.new (w.alloc (.cells #[.int .i64 t.tag, .slice A nb c, .slice K m d] 28)) 25 #[.slice none 0 0, .int .u32 0]
  rw [show (w.alloc (.cells #[.int .i64 t.tag, .slice A nb c, .slice K m d] 28)).heap.size = w.heap.size + 1 by simp] at S0
  have b2 : Below w.heap.size w ((w.alloc (.cells #[.int .i64 t.tag, .slice A nb c, .slice K m d] 28)).alloc (.cells #[.slice none 0 0, .int .u32 0] 25)) := ((Below.refl _ _).alloc (Nat.le_refl _) _).alloc (by simp) _
  have P2 := Lib.hid (KP.mk X0 S0 b2 (T.InP.below b2 (fun _ h => h) _ (T.In.inP t hin)))
  obtain ⟨g0, g1, g2, _, _, _⟩ := X0.facts
  have HWT := Lib.hid hwt
  clear b2 S0 X0 hin
  go_enter Tryz.func29, Tryz.ntmps29
  go_wp2_with fail
  generalize hw2 : (w.alloc (.cells #[.int .i64 t.tag, .slice A nb c, .slice K m d] 28)).alloc (.cells #[.slice none 0 0, .int .u32 0] 25) = w2 at *
  clear hw2
  have hsz : w.heap.size + 1 < w2.heap.size := P2.out.res.lt
  refine (partsOf_any _ _ K m d w2).mono ?_
  rintro e w3 ⟨rfl, hg3, hb3⟩
  have P3 := Lib.hid (P2.out.go hb3)
  obtain ⟨g, hg⟩ : ∃ g, w2.heap.size + 1 = g := ⟨_, rfl⟩
  rw [hg] at hg3
  rw [hg]
  have HG : Hid (w.heap.size + 1 < g) := by show w.heap.size + 1 < g; omega
  have HO : Hid (∀ b, b < w.heap.size → b ≠ g) := Lib.hid (fun b hb => by have := HG.out; omega)
  clear hg hb3 P2 hsz g0 g1 g2
  have KK := P3.out.has.kidsP
  rcases hks : t.kids with _ | ⟨ka, ks⟩
  · have F := Lib.hid (readK_nil hks)
    rw [hks] at KK
    obtain rfl : m = 0 := KK.1.symm
    have CN := Lib.hid (next_no g K d w3 hg3)
    clear hks KK hg3
    go_wp2_with fail
    refine CN.out.mono ?_
    rintro e w4 ⟨rfl, hb4⟩
    exact ⟨rfl, (P3.out.go hb4).below, .inl ⟨F.out, rfl⟩⟩
  rw [hks] at KK
  have CN := Lib.hid (next_ok _ g K m d ka ks w3 HO.out hg3 KK)
  have HK := Lib.hid hks
  clear hks KK hg3
  go_wp2_with fail
  refine CN.out.mono ?_
  rintro e w4 ⟨An, nn, cn, Kn, mn, dn, K2, m2, d2, rfl, hin4, hg4, hk4, hgr4⟩
  have P4 := Lib.hid (P3.out.grow HG.out hgr4)
  clear CN P3 hin4 hgr4
  go_wp2_with fail
  rcases ks with _ | ⟨kb, ks⟩
  · have F := Lib.hid (readK_one HK.out)
    obtain rfl : m2 = 0 := hk4.1.symm
    refine (next_no g K2 d2 w4 hg4).mono ?_
    rintro e w5 ⟨rfl, hb5⟩
    exact ⟨rfl, (P4.out.go hb5).below, .inl ⟨F.out, rfl⟩⟩
  have F0 := Lib.hid (readK_two HK.out)
  have hmem : kb ∈ t.kids := by rw [HK.out]; simp
  have hbody : kb.body.length ≤ 30000 := by have h1 := wt_kid hmem; have h2 := wt_eq kb; have h3 := wtAll_pos kb.kids; omega
  refine (next_ok _ g K2 m2 d2 kb ks w4 HO.out hg4 hk4).mono ?_
  rintro e w5 ⟨Ab, n5, c5, Kb, mb, db, K3, m3, d3, rfl, hin5, hg5, hk5, hgr5⟩
  have P5 := Lib.hid (P4.out.grow HG.out hgr5)
  have CB := Lib.hid (bytesOf_any kb _ w5 (T.InP.in _ hin5) hbody)
  have hsl := Nat.le_trans (of_len kb) hbody
  clear P4 hg4 hk4 hin5 hg5 hk5 hgr5 HK hmem hbody hwt
  go_wp2_with fail
  refine CB.out.mono ?_
  rintro e w6 ⟨hb6, hways⟩
  have P6 := Lib.hid (P5.out.go hb6)
  clear CB P5 hb6
  rcases hways with ⟨h0, a6, c6, rfl, hr6, hn6, hc6⟩ | ⟨h0, rfl⟩
  rotate_left
  · have F2 : Hid (readK t = none) := by rw [F0.out]; exact if_neg h0
    exact ⟨rfl, P6.out.below, .inl ⟨F2.out, rfl⟩⟩
  have F1 : Hid (readK t = keyWithin t (readZ (ofZ kb).1)) := by rw [F0.out]; exact if_pos h0
  clear h0 F0
  have HBy := Lib.hid hr6.2.1
  have CR := Lib.hid (tread_any a6 _ c6 _ w6 hr6 hc6 hsl hn6)
  clear hr6 hn6
  generalize (ofZ kb).1 = bs at *
  go_wp2_with fail
  refine CR.out.mono ?_
  rintro e w7 ⟨hb7, hways⟩
  have P7 := Lib.hid (P6.out.go hb7)
  have hs6 : Hid (w.heap.size + 1 < w6.heap.size) := P6.out.res.lt
  clear CR P6 hb7
  rcases hways with ⟨z, hz, rfl⟩ | ⟨y, v, hy, rfl, hin7⟩
  · have F2 : Hid (readK t = none) := by rw [F1.out, hz]; exact Lib.hid rfl
    have CM := Lib.hid (must_node_no 0 z none 0 0 none 0 0 (read_err hz) w7)
    clear hz F1
    go_wp2_with fail
    refine CM.out.mono ?_
    rintro e w8 ⟨rfl, hb8⟩
    exact ⟨rfl, (P7.out.go hb8).below, .inl ⟨F2.out, rfl⟩⟩
  obtain ⟨Ay, ny, cy, Ky, my, dy, rfl⟩ := hin7.form
  have F2 : Hid (readK t = keyWithin t (.ok y)) := by rw [F1.out, hy]; exact Lib.hid rfl
  have hwy := (read_fit HBy.out hy).1
  clear F1 HBy hy
  have CM := Lib.hid (must_node y.tag Ay ny cy Ky my dy w7)
  go_wp2_with fail
  refine CM.out.mono ?_
  rintro e w8 ⟨rfl, hb8⟩
  have P8 := Lib.hid (P7.out.go hb8)
  have I8 := Lib.hid (T.InP.below hb8 (fun _ h => h) _ hin7)
  clear CM P7 hb8 hin7
  go_wp2_with fail
  refine (partsOf_any _ _ Ky my dy w8).mono ?_
  rintro e w9 ⟨rfl, hg9, hb9⟩
  have hs8 : w.heap.size + 1 < w8.heap.size := P8.out.res.lt
  obtain ⟨h, hh⟩ : ∃ h, w8.heap.size + 1 = h := ⟨_, rfl⟩
  have I9 := T.InP.keep (Q := (· ≠ h)) (fun b hb _ => ⟨by omega, hb9.block b hb⟩) hb9.size _ I8.out
  have P9 := Lib.hid (P8.out.go hb9)
  rw [hh] at hg9
  rw [hh]
  have HH : Hid (w.heap.size + 1 < h) := by show w.heap.size + 1 < h; omega
  have HQ : Hid (∀ b, b ≠ h → b ≠ h) := Lib.hid (fun _ h => h)
  have KY := I9.kidsP
  clear hh hb9 P8 I8 I9 hs8 HG HO
  rcases hks : y.kids with _ | ⟨kp, ks⟩
  · have F := Lib.hid (F2.out.trans (within_nil hks))
    rw [hks] at KY
    obtain rfl : my = 0 := KY.1.symm
    have CN := Lib.hid (next_no h Ky dy w9 hg9)
    clear hks KY hg9 F2
    go_wp2_with fail
    refine CN.out.mono ?_
    rintro e w10 ⟨rfl, hb10⟩
    exact ⟨rfl, (P9.out.go hb10).below, .inl ⟨F.out, rfl⟩⟩
  rw [hks] at KY
  have CN := Lib.hid (next_ok _ h Ky my dy kp ks w9 HQ.out hg9 KY)
  have HK := Lib.hid hks
  have hmp : kp ∈ y.kids := by rw [hks]; simp
  have hbp : kp.body.length ≤ 30000 := by have h1 := wt_kid hmp; have h2 := wt_eq kp; have h3 := wtAll_pos kp.kids; omega
  have hgl := Nat.le_trans (great_len kp) hbp
  clear hks KY hg9 hmp
  go_wp2_with fail
  refine CN.out.mono ?_
  rintro e w10 ⟨Ap, np, cp, Kp, mp, dp, K11, m11, d11, rfl, hin10, hg10, hk10, hgr10⟩
  have P10 := Lib.hid (P9.out.grow HH.out hgr10)
  have CG := Lib.hid (great_any kp _ w10 (T.InP.in _ hin10) (T.InP.in _ hin10).cappedD hbp)
  have G10 := Lib.hid hg10
  have KK10 := Lib.hid hk10
  clear CN P9 hin10 hgr10 hg10 hk10 hbp
  go_wp2_with fail
  refine CG.out.mono ?_
  rintro e w11 ⟨a11, c11, rfl, hr11, hn11, hc11, hb11⟩
  have P11 := Lib.hid (P10.out.go hb11)
  have G11 := Lib.hid (G10.out.below hb11 G10.out.lt)
  have KK11 := Lib.hid (KK10.out.below hb11 (fun _ h => h))
  have R11 := Lib.hid hr11
  have N11 := Lib.hid hn11
  clear CG P10 G10 KK10 hb11 hr11 hn11
  by_cases hgp : (greatZ kp).2 = 0
  rotate_left
  · have F : Hid (readK t = none) := by
      rw [F2.out]
      rcases ks with _ | ⟨kq, ks⟩
      · exact Lib.hid (within_one HK.out)
      · rw [within_two HK.out]
        exact Lib.hid (if_neg (fun h => hgp h.1))
    have CM := Lib.hid (must_bytes_no a11 (greatZ kp).1.length c11 (greatZ kp).2 hgp w11)
    clear hgp F2
    go_wp2_with fail
    refine CM.out.mono ?_
    rintro e w12 ⟨rfl, rfl⟩
    exact ⟨rfl, P11.out.below, .inl ⟨F.out, rfl⟩⟩
  rw [hgp]
  have CM := Lib.hid (must_bytes a11 (greatZ kp).1.length c11 w11)
  have HGP := Lib.hid hgp
  clear hgp
  go_wp2_with fail
  refine CM.out.mono ?_
  rintro e w12 ⟨rfl, rfl⟩
  clear CM
  go_wp2_with fail
  rcases ks with _ | ⟨kq, ks⟩
  · have F := Lib.hid (F2.out.trans (within_one HK.out))
    obtain rfl : m11 = 0 := KK11.out.1.symm
    refine (next_no h K11 d11 w12 G11.out).mono ?_
    rintro e w13 ⟨rfl, hb13⟩
    exact ⟨rfl, (P11.out.go hb13).below, .inl ⟨F.out, rfl⟩⟩
  have F3 := Lib.hid (F2.out.trans (within_two HK.out))
  have hmq : kq ∈ y.kids := by rw [HK.out]; simp
  have hbq : kq.body.length ≤ 1000000 := by have h1 := wt_kid hmq; have h2 := wt_eq kq; have h3 := wtAll_pos kq.kids; omega
  refine (next_ok _ h K11 m11 d11 kq ks w12 HQ.out G11.out KK11.out).mono ?_
  rintro e w13 ⟨Aq, nq, cq, Kq, mq, dq, K13, m13, d13, rfl, hin13, hg13, hk13, hgr13⟩
  have P13 := Lib.hid (P11.out.grow HH.out hgr13)
  have R13 := Lib.hid (row_grown R11.out (row_off R11.out G11.out slice_zeros) hgr13)
  have UB := Lib.hid (uint_rangeK kq (T.InP.in _ hin13).bytes)
  have CU := Lib.hid (uint_any kq _ w13 (T.InP.in _ hin13) hbq)
  clear P11 G11 KK11 R11 hin13 hg13 hk13 hgr13 hmq hbq HK F2 hwy HH HQ
  go_wp2_with fail
  refine CU.out.mono ?_
  rintro e w14 ⟨rfl, hb14⟩
  have P14 := Lib.hid (P13.out.go hb14)
  have R14 := Lib.hid (R13.out.below hb14)
  clear CU P13 R13 hb14
  by_cases hgq : (uintZ kq).2 = 0
  rotate_left
  · have F : Hid (readK t = none) := by rw [F3.out]; exact Lib.hid (if_neg (fun h => hgq h.2.1))
    have CM := Lib.hid (must_u64_no (uintZ kq).1 (uintZ kq).2 hgq w14)
    clear hgq F3
    go_wp2_with fail
    refine CM.out.mono ?_
    rintro e w15 ⟨rfl, rfl⟩
    exact ⟨rfl, P14.out.below, .inl ⟨F.out, rfl⟩⟩
  rw [hgq]
  have CM := Lib.hid (must_u64 (uintZ kq).1 w14)
  have F4 : Hid (readK t = if rightZ (greatZ kp).1 ((uintZ kq).1 % 4294967296) = true ∧ sameT (keyT (greatZ kp).1 ((uintZ kq).1 % 4294967296)) t = true then some ((greatZ kp).1, (uintZ kq).1 % 4294967296) else none) := by
    rw [F3.out]
    unfold keyIn
    simp [HGP.out, hgq, Hid]
  clear hgq F3 HGP
  go_wp2_with fail
  refine CM.out.mono ?_
  rintro e w15 ⟨rfl, rfl⟩
  clear CM
  generalize (greatZ kp).1 = ns at *
  generalize (uintZ kq).1 = u at *
  obtain ⟨ex, hex⟩ : ∃ ex, u % 4294967296 = ex := ⟨_, rfl⟩
  have hwr : IntKind.u32.wrap u = ex := by rw [IntKind.wrap_u32]; omega
  have hx0 : 0 ≤ ex ∧ ex ≤ 4294967295 := by omega
  rw [hex] at F4
  have A16 : Below w15.heap.size w15 (w15.alloc (.cells #[.slice a11 ns.length c11, .int .u32 ex] 25)) := (Below.refl _ _).alloc (Nat.le_refl _) _
  have P16 := Lib.hid (P14.out.go A16)
  have K16 : Hid (KeyAt (w15.alloc (.cells #[.slice a11 ns.length c11, .int .u32 ex] 25)) a11 ns.length c11 ex ns) := ⟨R14.out.below A16, hc11, N11.out, hx0.1, hx0.2⟩
  have X16 := Lib.hid (Blk.new w15 25 #[.slice a11 ns.length c11, .int .u32 ex])
  have L16 : Hid (w15.heap.size ≠ w.heap.size + 1) := by have := P14.out.res.lt; show w15.heap.size ≠ _; omega
  clear hex UB A16 P14 R14 N11 hx0
  go_wp2_with fail
  clear hwr
  generalize w15.alloc (.cells #[.slice a11 ns.length c11, .int .u32 ex] 25) = w16 at *
  generalize w15.heap.size = g7 at *
  have CN := Lib.hid (node_any a11 ns.length c11 ex ns w16.drew K16.out.drew (by omega))
  have l0 : ∀ W, GrowR (w.heap.size + 1) w16.drew W → W.cell? ⟨g7, 0, none⟩ = some (.slice a11 ns.length c11) := fun W hW => GrowR.cell hW L16.out (X16.out.cell 0)
  have l1 : ∀ W, GrowR (w.heap.size + 1) w16.drew W → W.cell? ⟨g7, 1, none⟩ = some (.int .u32 ex) := fun W hW => GrowR.cell hW L16.out (X16.out.cell 1)
  have k0 : ∀ W, GrowR (w.heap.size + 1) w16.drew W → W.cell? ⟨w.heap.size, 0, none⟩ = some (.int .i64 t.tag) := fun W hW => GrowR.cell hW (by omega) (P16.out.box.cell 0)
  have k1 : ∀ W, GrowR (w.heap.size + 1) w16.drew W → W.cell? ⟨w.heap.size, 1, none⟩ = some (.slice A nb c) := fun W hW => GrowR.cell hW (by omega) (P16.out.box.cell 1)
  have k2 : ∀ W, GrowR (w.heap.size + 1) w16.drew W → W.cell? ⟨w.heap.size, 2, none⟩ = some (.slice K m d) := fun W hW => GrowR.cell hW (by omega) (P16.out.box.cell 2)
  refine wp_region_ord (GrowR (w.heap.size + 1)) (GrowR.refl _) GrowR.trans ((0, false) :: (5, false) :: (1, true) :: (2, false) :: (3, false) :: (4, true) :: (6, true) :: (7, true) :: []) (by kernel_rfl) (by kernel_rfl) rfl (by kernel_rfl) (fun _ _ _ _ _ h => h) ?_
  repeat (refine ord_take _ rfl (by rfl) (fun W hW => by go_simp; first | done | rfl) ?_; simp only [Act.put, List.setIfInBounds_toArray, List.set_cons_zero, List.set_cons_succ])
  clear l0 l1 k0 k1 k2
  have P17 : Hid (KP w w16.drew t A nb c K m d) := P16.out.go (wr := w16) (w' := w16.drew) (Below.refl _ _).drew
  have K17 := Lib.hid K16.out.drew
  have X17 : Hid (Blk w16.drew g7 25 #[.slice a11 ns.length c11, .int .u32 ex]) := X16.out
  clear P16 K16 X16
  generalize w16.drew = w17 at *
  refine ord_sole rfl (by rfl) (fun K1 hK1 => ?_)
  go_simp
  refine CN.out.mono ?_
  rintro e w18 ⟨A18, n18, c18, K18, m18, d18, rfl, hin18, hb18⟩
  refine hK1 _ _ (GrowR.below hb18) ?_
  have P18 := Lib.hid (P17.out.go hb18)
  have Q18 := Lib.hid (K17.out.below hb18)
  have X18 := Lib.hid (X17.out.below hb18 X17.out.lt)
  have I18 := Lib.hid (T.InP.in _ hin18)
  clear hK1 K1 CN P17 K17 X17 hin18 hb18
  repeat (refine ord_take _ rfl (by rfl) (fun W hW => by go_simp; first | done | rfl) ?_; simp only [Act.put, List.setIfInBounds_toArray, List.set_cons_zero, List.set_cons_succ])
  cases hrt : rightZ ns ex
  · have F : Hid (readK t = none) := by rw [F4.out, hrt]; simp [Hid]
    have N0 : nodeK ns ex = (zeroT, 1) := by unfold nodeK; rw [hrt]; rfl
    have CM := Lib.hid (must_node_no zeroT.tag 1 A18 n18 c18 K18 m18 d18 (by decide) w18)
    refine ord_sole rfl (by rfl) (fun K1 hK1 => ?_)
    go_simp
    refine CM.out.mono ?_
    rintro e w19 ⟨rfl, hb19⟩
    exact ⟨rfl, (P18.out.go hb19).below, .inl ⟨F.out, rfl⟩⟩
  have F5 : Hid (readK t = if sameT (keyT ns ex) t = true then some (ns, ex) else none) := by rw [F4.out, hrt]; simp [Hid]
  have N0 : nodeK ns ex = (keyT ns ex, 0) := by unfold nodeK; rw [hrt]; rfl
  rw [N0] at I18 ⊢
  have CM := Lib.hid (must_node (keyT ns ex).tag A18 n18 c18 K18 m18 d18 w18)
  clear hrt N0 F4
  refine ord_sole rfl (by rfl) (fun K1 hK1 => ?_)
  go_simp
  refine CM.out.mono ?_
  rintro e w19 ⟨rfl, hb19⟩
  refine hK1 _ _ (GrowR.below hb19) ?_
  have P19 := Lib.hid (P18.out.go hb19)
  have Q19 := Lib.hid (Q18.out.below hb19)
  have X19 := Lib.hid (X18.out.below hb19 X18.out.lt)
  have CE := Lib.hid (eqT_any (keyT ns ex) t _ _ w19 (T.In.below hb19 _ I18.out) (T.InP.in _ P19.out.has))
  clear hK1 K1 CM P18 Q18 X18 I18 hb19
  refine ord_sole rfl (by rfl) (fun K1 hK1 => ?_)
  go_simp
  refine CE.out.mono ?_
  rintro e w20 ⟨rfl, hb20⟩
  refine hK1 _ _ (GrowR.below hb20) ?_
  have P20 := Lib.hid (P19.out.go hb20)
  have Q20 := Lib.hid (Q19.out.below hb20)
  have X20 := Lib.hid (X19.out.below hb20 X19.out.lt)
  clear hK1 K1 CE P19 Q19 X19 hb20
  refine ord_sole rfl (by rfl) (fun K1 hK1 => ?_)
  go_simp
  refine (demand_any _ w20).mono ?_
  rintro e w21 ⟨rfl, ⟨hb, rfl⟩ | ⟨hb, rfl⟩⟩
  rotate_left
  · have F6 : Hid (readK t = none) := by rw [F5.out, hb]; rfl
    exact ⟨rfl, P20.out.below, .inl ⟨F6.out, rfl⟩⟩
  refine hK1 _ _ (GrowR.refl _ _) ?_
  have F6 : Hid (readK t = some (ns, ex)) := by rw [F5.out, hb]; rfl
  clear hK1 K1 hb F5
  refine ord_end ?_
  have x0 := X20.out.cell 0
  have x1 := X20.out.cell 1
  have p0 := P20.out.res.cell 0
  have p1 := P20.out.res.cell 1
  have f0 := P20.out.res.free 0
  have f1 := P20.out.res.free 1
  simp only [List.getElem?_toArray, List.getElem?_cons_succ, List.getElem?_cons_zero] at x0 x1 p0 p1
  go_wp2_with fail
  have G := two_grow (w.heap.size + 1) w21 (.slice a11 ns.length c11) (.int .u32 ex)
  have C := (P20.out.res.set 0 (.slice a11 ns.length c11)).set 1 (.int .u32 ex)
  exact bodyPost_ret (results_cell_row rfl _ _ (w.heap.size + 1) 25 _ (0, 0) _ rfl C Tryz.underlying25 rfl Tryz.sizeKey) rfl ⟨P20.out.below.trans (grown_below G _ (Nat.le_succ _) P20.out.below.size), .inr ⟨ns, ex, a11, c11, F6.out, rfl, row_grown Q20.out.1 (row_off Q20.out.1 P20.out.res key_zeros) G, Q20.out.2⟩⟩
end Go.Proofs.YtgmefdmeeihgoaaGreatDoor
namespace Go.Proofs.YtgmefdmeeihgoaaGreatDoor
open Go.RowKit
set_option linter.unusedVariables false
set_option linter.unusedSimpArgs false
def caughtK (w : World) (p q : Nat) : World := ((((w.alloc (.cells #[.slice none 0 0, .int .u32 0] 25)).setCell ⟨p, 0, none⟩ (.slice none 0 0)).setCell ⟨p, 1, none⟩ (.int .u32 0)).setCell ⟨q, 0, none⟩ (.int .i64 2))
theorem Blk.pair {w : World} {g : Nat} {t : TypeId} {a b : Value} (h : Blk w g t #[a, b]) : w.cell? ⟨g, 0, none⟩ = some a ∧ w.cell? ⟨g, 1, none⟩ = some b ∧ w.frozen? ⟨g, 0, none⟩ = false ∧ w.frozen? ⟨g, 1, none⟩ = false :=
  ⟨h.cell 0, h.cell 1, h.free 0, h.free 1⟩
set_option maxRecDepth 100000 in
set_option maxHeartbeats 1000000 in
theorem kcatch_panicking (p q : Nat) (y : Int) (a b : Value) (w : World) (hp : Blk w p 25 #[a, b]) (hq : Blk w q 32 #[.int .i64 y]) (hne : q ≠ p) :
    CallsD Tryz.prog 52 #[.pointer (some ⟨p, 0, none⟩), .pointer (some ⟨q, 0, none⟩)] (.panicking (errP 2)) w fun e u' w' =>
      e = .returned (.tuple #[]) ∧ u' = .panicking [{ v := .iface 32 (.int .i64 2), recovered := true }] ∧ w' = caughtK w p q := by
  have hp2 := hp.alloc (.cells #[.slice none 0 0, .int .u32 0] 25)
  have hq2 := hq.alloc (.cells #[.slice none 0 0, .int .u32 0] 25)
  obtain ⟨p0, p1, f0, f1⟩ := hp2.pair
  have q0 := hq2.cell 0
  have g0 := hq2.free 0
  simp only [List.getElem?_toArray, List.getElem?_cons_zero] at q0
  refine callsD_of_wpS Tryz.func52 rfl fun c₀ cs hu => ?_
  unfold errP at hu
  apply wpS_seq
  apply wpS_region
  simp [wpOpsS, go_sem, recoverD, hu, Tryz.ntmps52, Exit.thenS]
  refine wpS_of_wp ?_
  change Code.wp Tryz.prog _ _ ⟨#[.pointer (some ⟨p, 0, none⟩), .pointer (some ⟨q, 0, none⟩), undef, .iface 32 (.int .i64 2), .bool true, undef], []⟩ w
  go_wp2_with fail
  exact ⟨rfl, _, rfl, .tuple #[], by simp [results, Tryz.results52], rfl, rfl, rfl⟩
set_option maxRecDepth 100000 in
set_option maxHeartbeats 1000000 in
theorem kcatch_idle (p q : Nat) (w : World) :
    CallsD Tryz.prog 52 #[.pointer (some ⟨p, 0, none⟩), .pointer (some ⟨q, 0, none⟩)] .returning w fun e u' w' => e = .returned (.tuple #[]) ∧ u' = .returning ∧ w' = w := by
  refine callsD_of_wpS Tryz.func52 rfl fun c₀ cs hu => ?_
  apply wpS_seq
  apply wpS_region
  simp [wpOpsS, go_sem, recoverD, hu, Tryz.ntmps52, Exit.thenS]
  refine wpS_of_wp ?_
  change Code.wp Tryz.prog _ _ ⟨#[.pointer (some ⟨p, 0, none⟩), .pointer (some ⟨q, 0, none⟩), undef, .nilIface, .bool false, undef], []⟩ w
  go_wp2_with fail
  refine ⟨rfl, .returning, ?_, .tuple #[], by simp [results, Tryz.results52], rfl, rfl, rfl⟩
  cases c₀
  simp_all
theorem caught_key {w : World} {p q : Nat} {y : Int} {a b : Value} (hp : Blk w p 25 #[a, b]) (hq : Blk w q 32 #[.int .i64 y]) (hne : q ≠ p) :
    Blk (caughtK w p q) p 25 #[.slice none 0 0, .int .u32 0] ∧ Blk (caughtK w p q) q 32 #[.int .i64 2] ∧ ∀ B, B ≤ p → B ≤ q → B ≤ w.heap.size → Below B w (caughtK w p q) := by
  have hp2 := hp.alloc (.cells #[.slice none 0 0, .int .u32 0] 25)
  have hq2 := hq.alloc (.cells #[.slice none 0 0, .int .u32 0] 25)
  refine ⟨((hp2.set 0 _).set 1 _).far (Ne.symm hne) 0 _, ((hq2.far hne 0 _).far hne 1 _).set 0 _, fun B h1 h2 h3 => ?_⟩
  exact ((((Below.refl B w).alloc h3 _).setCell h1 _).setCell h1 _).setCell h2 _
theorem stored_key {w : World} {p q B : Nat} (hp : Blk w p 25 #[.slice none 0 0, .int .u32 0]) (hq : Blk w q 32 #[.int .i64 0]) (hne : q ≠ p) (h1 : B ≤ p) (h2 : B ≤ q) (h3 : B ≤ w.heap.size) (a b : Value) :
    Blk (((w.setCell ⟨p, 0, none⟩ a).setCell ⟨p, 1, none⟩ b).setCell ⟨q, 0, none⟩ (.int .i64 0)) p 25 #[a, b] ∧
    Blk (((w.setCell ⟨p, 0, none⟩ a).setCell ⟨p, 1, none⟩ b).setCell ⟨q, 0, none⟩ (.int .i64 0)) q 32 #[.int .i64 0] ∧
    Below B w (((w.setCell ⟨p, 0, none⟩ a).setCell ⟨p, 1, none⟩ b).setCell ⟨q, 0, none⟩ (.int .i64 0)) ∧
      ∀ (r : Option Addr) (k : Nat) (zs : List Int), Row w r k zs → Row (((w.setCell ⟨p, 0, none⟩ a).setCell ⟨p, 1, none⟩ b).setCell ⟨q, 0, none⟩ (.int .i64 0)) r k zs := by
  have G5 := two_grow p w a b
  have hqf := (hq.far hne 0 a).far hne 1 b
  have G6 := grown_set ((w.setCell ⟨p, 0, none⟩ a).setCell ⟨p, 1, none⟩ b) q 0 (.int .i64 0)
  refine ⟨((hp.set 0 a).set 1 b).far (Ne.symm hne) 0 _, hqf.set 0 _, (grown_below G5 B h1 h3).trans (grown_below G6 B h2 (by have := G5.size; omega)), fun r k zs hr => ?_⟩
  have h := row_grown hr (row_off hr hp key_zeros) G5
  exact row_grown h (row_off h hqf errno_zero) G6
def GivesKey (x : Option (List Int × Int)) (w : World) (e : Ending) (w' : World) : Prop := Below w.heap.size w w' ∧
  ((x = none ∧ e = .returned (.tuple #[.agg #[.slice none 0 0, .int .u32 0], .int .i64 2])) ∨
   (∃ (ns : List Int) (ex : Int) (a : Option Addr) (c : Nat), x = some (ns, ex) ∧ e = .returned (.tuple #[.agg #[.slice a ns.length c, .int .u32 ex], .int .i64 0]) ∧ KeyAt w' a ns.length c ex ns))
set_option maxRecDepth 100000 in
set_option maxHeartbeats 2000000 in
theorem kparsed_any (x : T) (v : Value) (w : World) (hin : x.In w v) (hwt : wt x < 30000) : Calls Tryz.prog 28 #[v, .func (.func 29) #[] #[]] w (GivesKey (readK x) w) := by
  have hmf : ∀ (fn : Fn) (first cap : Array Value) (w : World), (Instr.makeFunc fn first cap).run Tryz.prog w = .ok (.func fn first cap) w := fun _ _ _ _ => rfl
  obtain ⟨A, nb, c, K, m, d, rfl⟩ := (T.In.inP x hin).form
  have BX := Lib.hid (Box.start hin)
  have P0 := Blk.new (w.alloc (.cells #[.int .i64 x.tag, .slice A nb c, .slice K m d] 28)) 25 #[.slice none 0 0, .int .u32 0]
  have Q0 := Blk.new ((w.alloc (.cells #[.int .i64 x.tag, .slice A nb c, .slice K m d] 28)).alloc (.cells #[.slice none 0 0, .int .u32 0] 25)) 32 #[.int .i64 0]
  have P1 := P0.alloc (.cells #[.int .i64 0] 32)
  rw [show (w.alloc (.cells #[.int .i64 x.tag, .slice A nb c, .slice K m d] 28)).heap.size = w.heap.size + 1 by simp] at P1
  rw [show ((w.alloc (.cells #[.int .i64 x.tag, .slice A nb c, .slice K m d] 28)).alloc (.cells #[.slice none 0 0, .int .u32 0] 25)).heap.size = w.heap.size + 1 + 1 by simp] at Q0
  have b2 : Below w.heap.size w (((w.alloc (.cells #[.int .i64 x.tag, .slice A nb c, .slice K m d] 28)).alloc (.cells #[.slice none 0 0, .int .u32 0] 25)).alloc (.cells #[.int .i64 0] 32)) := (((Below.refl _ _).alloc (Nat.le_refl _) _).alloc (by simp) _).alloc (by simp; omega) _
  have CO := Lib.hid (keyOf_any x _ _ (T.In.below b2 x hin) hwt)
  have P2 := Lib.hid P1
  have Q2 := Lib.hid Q0
  have B2 := Lib.hid b2
  clear P0 P1 Q0 b2 hin
  go_enter_defers Tryz.func28, Tryz.ntmps28
  obtain ⟨g0, g1, g2⟩ := BX.out.cells
  go_wp2_with fail
  refine CO.out.mono ?_
  rintro e w3 ⟨hb3, hways⟩
  have P3 := Lib.hid (P2.out.below hb3 P2.out.lt)
  have Q3 := Lib.hid (Q2.out.below hb3 Q2.out.lt)
  have B3 := Lib.hid (B2.out.trans (hb3.mono B2.out.size))
  clear CO P2 Q2 B2 hb3 g0 g1 g2 BX
  rcases hways with ⟨hz, rfl⟩ | ⟨ns, ex, a, c3, hz, rfl, hk⟩
  · refine leaves_cons (f := 52) (args := #[.pointer (some ⟨w.heap.size + 1, 0, none⟩), .pointer (some ⟨w.heap.size + 1 + 1, 0, none⟩)]) (by simp) (by simp [go_sem]) ?_
    refine (kcatch_panicking (w.heap.size + 1) (w.heap.size + 1 + 1) 0 _ _ _ P3.out Q3.out (by omega)).mono ?_
    rintro e u' w5 ⟨rfl, rfl, rfl⟩
    have C := caught_key P3.out Q3.out (by omega)
    exact ⟨_, results_two rfl _ _ (w.heap.size + 1) (w.heap.size + 1 + 1) 25 _ (0, 0) _ 2 rfl C.1 rfl (C.2.1.cell 0) Tryz.underlying25 rfl Tryz.sizeKey Tryz.underlying32, B3.out.trans (C.2.2 _ (by omega) (by omega) B3.out.size), .inl ⟨hz, rfl⟩⟩
  · obtain ⟨p0, p1, f0, f1⟩ := P3.out.pair
    have q0 := Q3.out.cell 0
    have h0 := Q3.out.free 0
    simp only [List.getElem?_toArray, List.getElem?_cons_zero] at q0
    have HZ := Lib.hid hz
    have HK := Lib.hid hk
    clear hz hk
    go_wp2_with fail
    refine leaves_cons (f := 52) (args := #[.pointer (some ⟨w.heap.size + 1, 0, none⟩), .pointer (some ⟨w.heap.size + 1 + 1, 0, none⟩)]) (by simp) (by simp [go_sem]) ?_
    refine (kcatch_idle (w.heap.size + 1) (w.heap.size + 1 + 1) _).mono ?_
    rintro e u' w5 ⟨rfl, rfl, rfl⟩
    obtain ⟨C1, C2, C3, C4⟩ := stored_key (B := w.heap.size) P3.out Q3.out (by omega) (by omega) (by omega) B3.out.size (.slice a ns.length c3) (.int .u32 ex)
    exact ⟨_, results_two rfl _ _ (w.heap.size + 1) (w.heap.size + 1 + 1) 25 _ (0, 0) _ 0 rfl C1 rfl (C2.cell 0) Tryz.underlying25 rfl Tryz.sizeKey Tryz.underlying32, B3.out.trans C3, .inr ⟨ns, ex, a, c3, HZ.out, rfl, C4 _ _ _ HK.out.1, HK.out.2⟩⟩
set_option maxHeartbeats 1000000 in
theorem kread_any (x : T) (v : Value) (w : World) (hin : x.In w v) (hwt : wt x < 30000) : Calls Tryz.prog 12 #[v] w (GivesKey (readK x) w) := by
  obtain ⟨A, nb, c, K, m, d, rfl⟩ := (T.In.inP x hin).form
  have X0 := (Blk.new w 28 #[.int .i64 x.tag, .slice A nb c, .slice K m d]).alloc (.cells #[.slice none 0 0, .int .u32 0] 25)
  have S0 := Blk.new (w.alloc (.cells #[.int .i64 x.tag, .slice A nb c, .slice K m d] 28)) 25 #[.slice none 0 0, .int .u32 0]
  rw [show (w.alloc (.cells #[.int .i64 x.tag, .slice A nb c, .slice K m d] 28)).heap.size = w.heap.size + 1 by simp] at S0
  have b2 : Below w.heap.size w ((w.alloc (.cells #[.int .i64 x.tag, .slice A nb c, .slice K m d] 28)).alloc (.cells #[.slice none 0 0, .int .u32 0] 25)) := ((Below.refl _ _).alloc (Nat.le_refl _) _).alloc (by simp) _
  have CP := Lib.hid (kparsed_any x _ _ (T.In.below b2 x hin) hwt)
  obtain ⟨g0, g1, g2, _, _, _⟩ := X0.facts
  have S2 := Lib.hid S0
  have B2 := Lib.hid b2
  clear b2 S0 X0 hin
  go_enter Tryz.func12, Tryz.ntmps12
  go_wp2_with fail
  generalize hw2 : (w.alloc (.cells #[.int .i64 x.tag, .slice A nb c, .slice K m d] 28)).alloc (.cells #[.slice none 0 0, .int .u32 0] 25) = w2 at *
  refine CP.out.mono ?_
  rintro e w3 ⟨hb3, hways⟩
  have S3 := Lib.hid (S2.out.below hb3 S2.out.lt)
  have B3 := Lib.hid (B2.out.trans (hb3.mono B2.out.size))
  obtain ⟨p0, p1, f0, f1⟩ := S3.out.pair
  clear CP S2 B2 hb3 hw2 g0 g1 g2
  rcases hways with ⟨hz, rfl⟩ | ⟨ns, ex, a, c3, hz, rfl, hk⟩
  · have HZ := Lib.hid hz
    clear hz
    go_wp2_with fail
    have G := two_grow (w.heap.size + 1) w3 (.slice none 0 0) (.int .u32 0)
    have C := (S3.out.set 0 (.slice none 0 0)).set 1 (.int .u32 0)
    exact bodyPost_ret (results_nodee rfl _ _ (w.heap.size + 1) 25 _ (0, 0) _ rfl C Tryz.underlying25 rfl Tryz.sizeKey) rfl ⟨B3.out.trans (grown_below G _ (Nat.le_succ _) B3.out.size), .inl ⟨HZ.out, rfl⟩⟩
  · have HZ := Lib.hid hz
    have HK := Lib.hid hk
    clear hz hk
    go_wp2_with fail
    have G := two_grow (w.heap.size + 1) w3 (.slice a ns.length c3) (.int .u32 ex)
    have C := (S3.out.set 0 (.slice a ns.length c3)).set 1 (.int .u32 ex)
    exact bodyPost_ret (results_nodee rfl _ _ (w.heap.size + 1) 25 _ (0, 0) _ rfl C Tryz.underlying25 rfl Tryz.sizeKey) rfl ⟨B3.out.trans (grown_below G _ (Nat.le_succ _) B3.out.size), .inr ⟨ns, ex, a, c3, HZ.out, rfl, row_grown HK.out.1 (row_off HK.out.1 S3.out key_zeros) G, HK.out.2⟩⟩
end Go.Proofs.YtgmefdmeeihgoaaGreatDoor
namespace Go.Proofs.YtgmefdmeeihgoaaGreatDoor
open Go.RowKit
set_option linter.unusedVariables false
set_option linter.unusedSimpArgs false
def sameK (ns : List Int) (e : Int) (ms : List Int) (f : Int) : Bool := (ns == ms) && (e == f)
theorem sameK_refl (ns : List Int) (e : Int) : sameK ns e ns e = true := by simp [sameK]
set_option maxHeartbeats 1000000 in
theorem ksame_any (a : Option Addr) (n c : Nat) (e : Int) (ns : List Int) (b : Option Addr) (m d : Nat) (f : Int) (ms : List Int) (w : World) (h1 : KeyAt w a n c e ns) (h2 : KeyAt w b m d f ms) : Calls Tryz.prog 14 #[.agg #[.slice a n c, .int .u32 e], .agg #[.slice b m d, .int .u32 f]] w fun r w' => r = .returned (.bool (sameK ns e ms f)) ∧ Below w.heap.size w w' := by
  have X1 := (key_box w a n c e).alloc (.cells #[.slice b m d, .int .u32 f] 25)
  have Y1 := key_box (w.alloc (.cells #[.slice a n c, .int .u32 e] 25)) b m d f
  rw [show (w.alloc (.cells #[.slice a n c, .int .u32 e] 25)).heap.size = w.heap.size + 1 by simp] at Y1
  have b2 : Below w.heap.size w ((w.alloc (.cells #[.slice a n c, .int .u32 e] 25)).alloc (.cells #[.slice b m d, .int .u32 f] 25)) := ((Below.refl _ _).alloc (Nat.le_refl _) _).alloc (by simp) _
  obtain ⟨x0, x1, _, _⟩ := X1.pair
  obtain ⟨y0, y1, _, _⟩ := Y1.pair
  have kx := conv_at c (h1.1.below b2)
  have ky := conv_at d (h2.1.below b2)
  have ts := strs_test h1.1.2.1 h2.1.2.1
  have B2 := Lib.hid b2
  clear b2 X1 Y1 h1 h2
  go_enter Tryz.func14, Tryz.ntmps14
  by_cases e1 : ns = ms
  rotate_left
  · have t1 : (ns == ms) = false := by simpa using e1
    have F : Hid (sameK ns e ms f = false) := by unfold sameK; rw [t1]; rfl
    rw [t1] at ts
    clear t1 e1
    go_wp2_with fail
    go_ret
    exact ⟨ret_bool F.out.symm, B2.out⟩
  have t1 : (ns == ms) = true := by simpa using e1
  rw [t1] at ts
  by_cases e2 : e = f
  rotate_left
  · have t2 : (e == f) = false := by simpa using e2
    have F : Hid (sameK ns e ms f = false) := by unfold sameK; rw [t1, t2]; rfl
    clear t1 e1 e2
    go_wp2_with fail
    go_ret
    exact ⟨ret_bool F.out.symm, B2.out⟩
  have t2 : (e == f) = true := by simpa using e2
  have F : Hid (sameK ns e ms f = true) := by unfold sameK; rw [t1, t2]; rfl
  clear t1 e1 e2
  go_wp2_with fail
  go_ret
  exact ⟨ret_bool F.out.symm, B2.out⟩
end Go.Proofs.YtgmefdmeeihgoaaGreatDoor
namespace Go.Proofs.YtgmefdmeeihgoaaGreatDoor
open Go.RowKit
set_option linter.unusedVariables false
set_option linter.unusedSimpArgs false
theorem write_len (t : T) : (writeZ t).1.length ≤ 20000 := by
  by_cases h : (writeZ t).2 = 0
  · have f := write_fit h
    rw [write_of f.1 f.2.1 f.2.2]
    have := lay_len t f.1
    simp only
    omega
  · have : (writeZ t).1 = [] := by
      unfold writeZ at h ⊢
      split
      · rfl
      · split
        · rfl
        · split
          · rfl
          · rename_i h1 h2 h3
            rw [if_neg h1, if_neg h2, if_neg h3] at h
            exact absurd rfl h
    rw [this]
    simp
def nullT : T := .node 5 [] []
theorem null_writes : writeZ nullT = ([5, 0], 0) := by
  have h := write_of (t := nullT) (by decide) (by unfold nullT; simp [deepT, withinB]) (by
    have h1 := (size_le nullT).2.1
    have e : wt nullT = 1 := (by unfold nullT; simp [wt, wtAll])
    omega)
  rw [h]
  unfold nullT
  simp [layT, layAll, lenB]
theorem awake_fit : (writeZ (sealT nullT [7])).2 = 0 := by
  have hr : rightT (sealT nullT [7]) = true := by rw [right_seal]; decide
  have hd : deepT (sealT nullT [7]) ≤ 32 := by
    have h1 := deep_alg 11
    have h2 := deep_bits [7]
    unfold sealT nullT
    simp only [deepT, deepAll, h1, h2]
    repeat' split
    all_goals omega
  have hb : bytesT (sealT nullT [7]) ≤ 20000 := by
    have h1 := (size_le (sealT nullT [7])).2.1
    have h2 := wt_seal nullT [7]
    have e : wt nullT = 1 := (by unfold nullT; simp [wt, wtAll])
    simp only [List.length_cons, List.length_nil] at h2
    omega
  rw [write_of hr hd hb]
set_option maxHeartbeats 1000000 in
theorem awake14_any (w : World) : Calls Tryz.prog 4 #[] w fun e w' => e = .returned (.bool true) ∧ Below w.heap.size w w' := by
  have R0 := row_const w [7] (0, 0) (by intro z hz; have : z = 7 := (by simpa using hz); omega)
  have B0 : Below w.heap.size w (w.alloc (.cells #[.int .u8 7] 5)) := (Below.refl _ _).alloc (Nat.le_refl _) _
  have CS := Lib.hid (seal_any nullT _ _ 1 1 [7] _ (T.InP.in _ (null_inP Any (w.alloc (.cells #[.int .u8 7] 5)))) (by unfold nullT; simp [wt, wtAll]) R0 (by omega) (fun e => by cases e))
  have HB := Lib.hid B0
  have AF := Lib.hid awake_fit
  have OS := Lib.hid (open_seal awake_fit)
  have WL := write_len (sealT nullT [7])
  clear R0 B0
  go_enter Tryz.func4, Tryz.ntmps4
  go_wp2_with fail
  refine CS.out.mono ?_
  rintro e w2 ⟨a2, c2, rfl, hr2, hn2, hb2, hc2⟩
  rw [AF.out]
  generalize (writeZ (sealT nullT [7])).1 = zs at *
  have B2 := Lib.hid (HB.out.trans (hb2.mono HB.out.size))
  have CO := Lib.hid (open_any a2 zs.length c2 zs w2 hr2 hc2 (by omega) hn2)
  rw [OS.out] at CO
  clear CS HB hb2 hr2 hn2 AF OS
  go_wp2_with fail
  refine CO.out.mono ?_
  rintro e w3 ⟨hb3, hways⟩
  rcases hways with ⟨z, hz, _⟩ | ⟨t, said, sig, A, nn, c, K, m, d, a4, c4, a5, c5, hz, rfl, hin, hr4, _, hr5, _⟩
  · cases hz
  injection hz with hz
  injection hz with e1 hz
  injection hz with e2 e3
  subst e1
  subst e2
  subst e3
  rw [null_writes] at hr4
  have A4 : Below w3.heap.size w3 (w3.alloc (.cells #[.int .i64 nullT.tag, .slice A nn c, .slice K m d] 28)) := (Below.refl _ _).alloc (Nat.le_refl _) _
  have N4 := (Blk.new w3 28 #[.int .i64 nullT.tag, .slice A nn c, .slice K m d]).cell 0
  simp only [List.getElem?_toArray, List.getElem?_cons_zero] at N4
  have k4 : (convert 22 9 (.slice a4 2 c4)).run Tryz.prog (w3.alloc (.cells #[.int .i64 nullT.tag, .slice A nn c, .slice K m d] 28)) = .ok (.string ⟨#[5, 0]⟩) (w3.alloc (.cells #[.int .i64 nullT.tag, .slice A nn c, .slice K m d] 28)) := conv_at c4 (hr4.below A4)
  have k5 : (convert 22 9 (.slice a5 1 c5)).run Tryz.prog (w3.alloc (.cells #[.int .i64 nullT.tag, .slice A nn c, .slice K m d] 28)) = .ok (.string ⟨#[7]⟩) (w3.alloc (.cells #[.int .i64 nullT.tag, .slice A nn c, .slice K m d] 28)) := conv_at c5 (hr5.below A4)
  have tb : (nullT.tag == 5) = true := rfl
  have B4 := Lib.hid ((B2.out.trans (hb3.mono B2.out.size)).trans (A4.mono (B2.out.trans (hb3.mono B2.out.size)).size))
  clear CO B2 hb3 hin hr4 hr5 A4
  rw [null_writes]
  go_wp2_with fail
  go_ret
  exact ⟨rfl, B4.out⟩
end Go.Proofs.YtgmefdmeeihgoaaGreatDoor
namespace Go.Proofs.YtgmefdmeeihgoaaGreatDoor
open Go.RowKit
set_option linter.unusedVariables false
set_option linter.unusedSimpArgs false
set_option maxHeartbeats 1000000 in
theorem rmade_any (last : Int) (h0 : 0 ≤ last) (h1 : last ≤ 1000) (w : World) : Calls Tryz.prog 25 #[.int .u32 last] w (GivesNode (algT last) w) := by
  have S0 := Lib.hid (RB.start w)
  have R1 := row32_const (w.alloc (.cells #[.int .i64 0, .slice none 0 0, .slice none 0 0] 28)) (arcsK last) (arcs_range last h0 h1)
  have CO := roid_any _ _ 7 _ _ R1
  rw [oid_is] at CO
  have S1 := Lib.hid (S0.out.go ((Below.refl _ _).alloc (Nat.le_refl _) (.cells ((arcsK last).map (Value.int .u32)).toArray 23)))
  unfold arcsK at CO S1
  simp only [World.size_alloc, List.length_cons, List.length_nil, List.map_cons, List.map_nil] at CO S1
  have CI := Lib.hid CO
  clear R1 CO
  go_enter Tryz.func25, Tryz.ntmps25
  go_wp2_with fail
  refine CI.out.mono ?_
  rintro e w3 ⟨A, n, c, K, m, d, rfl, hin, hb⟩
  have S3 := Lib.hid (S1.out.go hb)
  have I3 : Hid ((oidT last).InP (w.heap.size < ·) w3 (.agg #[.int .i64 6, .slice A n c, .slice K m d])) := T.InP.keep (fun x _ hp => ⟨by have hp' := hp; simp at hp'; show w.heap.size < x; omega, rfl⟩) (Nat.le_refl _) _ hin
  clear CI S1 S0 hin hb
  have B4 : Below w3.heap.size w3 ((w3.alloc (.cells #[.int .i64 (oidT last).tag, .slice A n c, .slice K m d] 28)).alloc (.cells #[.int .i64 (oidT last).tag, .slice A n c, .slice K m d, .int .i64 5, .slice none 0 0, .slice none 0 0] 28)) := ((Below.refl _ _).alloc (Nat.le_refl _) _).alloc (by simp) _
  have S4 := Lib.hid (S3.out.go B4)
  have K4 : Hid (KidsP (w.heap.size < ·) ((w3.alloc (.cells #[.int .i64 (oidT last).tag, .slice A n c, .slice K m d] 28)).alloc (.cells #[.int .i64 (oidT last).tag, .slice A n c, .slice K m d, .int .i64 5, .slice none 0 0, .slice none 0 0] 28)) (some ⟨w3.heap.size + 1, 0, none⟩) 2 2 [oidT last, .node 5 [] []]) := by
    have hb := Blk.new (w3.alloc (.cells #[.int .i64 (oidT last).tag, .slice A n c, .slice K m d] 28)) 28 #[.int .i64 (oidT last).tag, .slice A n c, .slice K m d, .int .i64 5, .slice none 0 0, .slice none 0 0]
    rw [show (w3.alloc (.cells #[.int .i64 (oidT last).tag, .slice A n c, .slice K m d] 28)).heap.size = w3.heap.size + 1 by simp] at hb
    exact kids_two hb (by have := S3.out.below.size; have := S3.out.box.lt; show w.heap.size < w3.heap.size + 1; omega) (T.InP.below B4 (fun _ h => h) _ I3.out) (null_inP _ _)
  obtain ⟨c0, c1, c2, f0, f1, f2⟩ := S4.out.box.facts
  clear B4 S3 I3
  go_wp2_with fail
  exact gives_seq rfl rfl S4.out K4.out
end Go.Proofs.YtgmefdmeeihgoaaGreatDoor
namespace Go.Proofs.YtgmefdmeeihgoaaGreatDoor
open Go.RowKit
set_option linter.unusedVariables false
set_option linter.unusedSimpArgs false
set_option maxHeartbeats 2000000 in
theorem rown_any (a : Option Addr) (n c : Nat) (e : Int) (ns : List Int) (w : World) (hk : KeyAt w a n c e ns) (hn : n ≤ 3000) : Calls Tryz.prog 23 #[.agg #[.slice a n c, .int .u32 e]] w (GivesRow (ownZ ns e) w) := by
  have b1 : Below w.heap.size w (w.alloc (.cells #[.slice a n c, .int .u32 e] 25)) := (Below.refl _ _).alloc (Nat.le_refl _) _
  have X2 := Lib.hid (key_box w a n c e)
  have K2 := Lib.hid (hk.below b1)
  have he0 := hk.2.2.2.1
  have he1 := hk.2.2.2.2
  have hln := hk.1.1
  have B2 := Lib.hid b1
  have hwi := wt_inner ns e
  have WI := Lib.hid (inner_writes (ns := ns) e (by omega))
  have hwr : IntKind.u64.wrap e = e := by rw [IntKind.wrap_u64]; omega
  clear b1 hk
  go_enter Tryz.func23, Tryz.ntmps23
  go_wp2_with fail
  generalize w.alloc (.cells #[.slice a n c, .int .u32 e] 25) = w2 at *
  have l0 : ∀ W, Ext w2.drew W → W.cell? ⟨w.heap.size, 0, none⟩ = some (.slice a n c) := cell_later (X2.out.cell 0)
  have l1 : ∀ W, Ext w2.drew W → W.cell? ⟨w.heap.size, 1, none⟩ = some (.int .u32 e) := cell_later (X2.out.cell 1)
  refine wp_region_ord Ext Ext.refl (fun _ _ _ => Ext.trans) ((0, false) :: (1, false) :: (3, false) :: (4, false) :: (5, false) :: (2, true) :: (6, true) :: (7, true) :: (8, false) :: (9, true) :: (10, false) :: (11, false) :: (12, false) :: (13, false) :: (14, false) :: []) (by kernel_rfl) (by kernel_rfl) rfl (by kernel_rfl) (fun _ _ _ _ _ h => h) ?_
  repeat (refine ord_take _ rfl (by rfl) (fun W hW => by go_simp; first | done | rfl) ?_; simp only [Act.put, List.setIfInBounds_toArray, List.set_cons_zero, List.set_cons_succ])
  clear l0 l1 X2
  have B3 : Hid (Below w.heap.size w w2.drew) := B2.out.drew
  have K3 := Lib.hid K2.out.drew
  clear B2 K2
  generalize w2.drew = w3 at *
  refine ord_sole rfl (by rfl) (fun K1 hK1 => ?_)
  go_simp
  refine (rbig_any a n c ns w3 K3.out.1 K3.out.2.1 (by omega) K3.out.2.2.1).mono ?_
  rintro e1 w4 ⟨A4, n4, c4, K4, m4, d4, rfl, hin4, hb4⟩
  refine hK1 _ _ hb4 ?_
  have B4 := Lib.hid (B3.out.trans (hb4.mono B3.out.size))
  have I4 := Lib.hid (T.InP.below (Q := Any) (w := w4) (Below.refl _ _) (fun _ _ => trivial) _ hin4)
  clear hK1 K1 B3 K3 hin4 hb4
  refine ord_sole rfl (by rfl) (fun K1 hK1 => ?_)
  go_simp
  refine (rint_any e w4 he0 (by omega)).mono ?_
  rintro e1 w5 ⟨A5, n5, c5, K5, m5, d5, rfl, hin5, hb5⟩
  refine hK1 _ _ hb5 ?_
  clear hK1 K1
  have A6 : Below w5.heap.size w5 (w5.alloc (.cells #[.int .i64 (bigT ns).tag, .slice A4 n4 c4, .slice K4 m4 d4, .int .i64 (intT e).tag, .slice A5 n5 c5, .slice K5 m5 d5] 28)) := (Below.refl _ _).alloc (Nat.le_refl _) _
  have E6 := hb5.trans (A6.mono hb5.size)
  have B6 := Lib.hid (B4.out.trans (E6.mono B4.out.size))
  have K6 := Lib.hid (kids_two (P := Any) (Blk.new w5 28 #[.int .i64 (bigT ns).tag, .slice A4 n4 c4, .slice K4 m4 d4, .int .i64 (intT e).tag, .slice A5 n5 c5, .slice K5 m5 d5]) trivial (T.InP.below E6 (fun _ h => h) _ I4.out) (T.InP.below A6 (Q := Any) (fun _ _ => trivial) _ hin5))
  clear hb5 hin5 B4 I4 E6
  refine ord_sole rfl (by rfl) (fun K1 hK1 => ?_)
  go_simp
  refine hK1 _ _ A6 ?_
  clear hK1 K1 A6
  generalize w5.alloc (.cells #[.int .i64 (bigT ns).tag, .slice A4 n4 c4, .slice K4 m4 d4, .int .i64 (intT e).tag, .slice A5 n5 c5, .slice K5 m5 d5] 28) = w6 at *
  generalize w5.heap.size = g9 at *
  repeat (refine ord_take _ rfl (by rfl) (fun W hW => by go_simp; first | done | rfl) ?_; simp only [Act.put, List.setIfInBounds_toArray, List.set_cons_zero, List.set_cons_succ])
  have CW := Lib.hid (rwrite_big (innerT ns e) _ w6 (T.InP.in _ (K6.out.node (z := 48) (by decide))) (by omega))
  rw [WI.out] at CW
  refine ord_sole rfl (by rfl) (fun K1 hK1 => ?_)
  go_simp
  refine CW.out.mono ?_
  rintro e1 w8 ⟨a8, c8, rfl, hr8, hn8, hb8⟩
  refine hK1 _ _ hb8 ?_
  have B8 := Lib.hid (B6.out.trans (hb8.mono B6.out.size))
  have R8 := Lib.hid hr8
  have N8 := Lib.hid hn8
  clear hK1 K1 CW B6 K6 hb8 hr8 hn8 WI
  generalize ownZ ns e = os at *
  repeat (refine ord_take _ rfl (by rfl) (fun W hW => by go_simp; first | done | rfl) ?_; simp only [Act.put, List.setIfInBounds_toArray, List.set_cons_zero, List.set_cons_succ])
  refine ord_end ?_
  go_wp2_with fail
  go_ret
  exact ⟨a8, c8, rfl, R8.out, N8.out, B8.out⟩
set_option maxHeartbeats 2000000 in
theorem rnode14_any (a : Option Addr) (n c : Nat) (e : Int) (ns : List Int) (w : World) (hk : KeyAt w a n c e ns) (hn : n ≤ 100000) : Calls Tryz.prog 8 #[.agg #[.slice a n c, .int .u32 e]] w (GivesNodeE (nodeK ns e) w) := by
  have b1 : Below w.heap.size w (w.alloc (.cells #[.slice a n c, .int .u32 e] 25)) := (Below.refl _ _).alloc (Nat.le_refl _) _
  have X1 := (key_box w a n c e).alloc (.cells #[.int .i64 0, .slice none 0 0, .slice none 0 0] 28)
  have b2 := b1.alloc b1.size (.cells #[.int .i64 0, .slice none 0 0, .slice none 0 0] 28)
  have S2 := Blk.new (w.alloc (.cells #[.slice a n c, .int .u32 e] 25)) 28 #[.int .i64 0, .slice none 0 0, .slice none 0 0]
  rw [show (w.alloc (.cells #[.slice a n c, .int .u32 e] 25)).heap.size = w.heap.size + 1 by simp] at S2
  have CI := Lib.hid (krright_any a n c e ns _ (hk.below b2) (by omega))
  have hln := hk.1.1
  have K2 := Lib.hid (hk.below b2)
  have B2 := Lib.hid b2
  have HS := Lib.hid S2
  have HX := Lib.hid X1
  have c0 := X1.cell 0
  have c1 := X1.cell 1
  simp only [List.getElem?_toArray, List.getElem?_cons_succ, List.getElem?_cons_zero] at c0 c1
  clear b1 b2 hk X1 S2
  go_enter Tryz.func8, Tryz.ntmps8
  go_wp2_with fail
  generalize hw2 : (w.alloc (.cells #[.slice a n c, .int .u32 e] 25)).alloc (.cells #[.int .i64 0, .slice none 0 0, .slice none 0 0] 28) = w2 at *
  refine CI.out.mono ?_
  rintro e1 w3 ⟨rfl, hb3⟩
  have S3 := Lib.hid (HS.out.below hb3 HS.out.lt)
  have X3 := Lib.hid (HX.out.below hb3 HX.out.lt)
  have K3 := Lib.hid (K2.out.below hb3)
  have B3 := Lib.hid (B2.out.trans (hb3.mono B2.out.size))
  obtain ⟨p0, p1, p2, f0, f1, f2⟩ := S3.out.facts
  have hs3 : Hid (w.heap.size + 1 < w3.heap.size) := S3.out.lt
  clear CI HS HX K2 B2 hb3 hw2 c0 c1
  cases hrt : rightZ ns e
  · have F : Hid (nodeK ns e = (zeroT, 1)) := by unfold nodeK; rw [hrt]; exact Lib.hid rfl
    clear hrt
    go_wp2_with fail
    have ZI : zeroT.InP (fun b => w.heap.size ≤ b ∧ b ≠ w.heap.size + 1) w3 (.agg #[.int .i64 0, .slice none 0 0, .slice none 0 0]) := leaf_inP (zs := []) rfl (Row.nil _ _) (by simp) ⟨fun _ => rfl, Nat.le_refl _⟩ (fun h => absurd h (by simp))
    exact gives_boxedE (x := (zeroT, 1)) (A := none) (n := 0) (c := 0) (K := none) (m := 0) (d := 0) F.out rfl rfl rfl S3.out (Nat.le_succ _) B3.out ZI
  have hl := (right_len hrt).2
  have F : Hid (nodeK ns e = (keyT ns e, 0)) := by unfold nodeK; rw [hrt]; exact Lib.hid rfl
  have ho := own_len (ns := ns) e (by omega)
  have CO := Lib.hid (rown_any a n c e ns w3 K3.out (by omega))
  have x0 := X3.out.cell 0
  have x1 := X3.out.cell 1
  simp only [List.getElem?_toArray, List.getElem?_cons_succ, List.getElem?_cons_zero] at x0 x1
  clear hrt p0 p1 p2 f0 f1 f2
  have OZ : Hid (keyT ns e = .node 48 [] [algT 1, bitsT (ownZ ns e)]) := rfl
  generalize ownZ ns e = os at *
  go_wp2_with fail
  refine CO.out.mono ?_
  rintro e1 w4 ⟨a4, c4, rfl, hr4, hn4, hb4⟩
  have S4 := Lib.hid (S3.out.below hb4 S3.out.lt)
  have B4 := Lib.hid (B3.out.trans (hb4.mono B3.out.size))
  have hs4 : Hid (w.heap.size + 1 < w4.heap.size) := S4.out.lt
  have CB := rbits_any a4 os.length c4 os (8 * (os.length : Int)) w4 hr4 (by omega) hn4
  rw [bits_whole] at CB
  have CI : Hid (Calls Tryz.prog 24 #[.slice a4 os.length c4, .int .i64 (8 * (os.length : Int))] w4 (GivesNodeE (bitsT os, 0) w4)) := CB
  clear CO S3 B3 X3 K3 hr4 hn4 hb4 hs3 CB x0 x1
  go_wp2_with fail
  refine CI.out.mono ?_
  rintro e1 w5 ⟨A5, n5, c5, K5, m5, d5, rfl, hin5, hb5⟩
  have A6 : Below w5.heap.size w5 (w5.alloc (.cells #[.int .i64 (bitsT os).tag, .slice A5 n5 c5, .slice K5 m5 d5] 28)) := (Below.refl _ _).alloc (Nat.le_refl _) _
  have E6 := hb5.trans (A6.mono hb5.size)
  have hs5 := Nat.lt_of_lt_of_le hs4.out hb5.size
  have S6 := Lib.hid (S4.out.below E6 S4.out.lt)
  have B6 := Lib.hid (B4.out.trans (E6.mono B4.out.size))
  have I6 := Lib.hid (T.InP.below A6 (Q := fun b => w.heap.size ≤ b ∧ b ≠ w.heap.size + 1) (fun b (hb : w4.heap.size ≤ b) => (by have := hs4.out; omega)) _ hin5)
  have Y6 := Lib.hid (Blk.new w5 28 #[.int .i64 (bitsT os).tag, .slice A5 n5 c5, .slice K5 m5 d5])
  have hne : Hid (w5.heap.size ≠ w.heap.size + 1) := by show w5.heap.size ≠ _; omega
  clear CI S4 B4 hin5 hb5 E6 A6 hs5 hs4
  go_wp2_with fail
  generalize w5.alloc (.cells #[.int .i64 (bitsT os).tag, .slice A5 n5 c5, .slice K5 m5 d5] 28) = w6 at *
  generalize w5.heap.size = g5 at *
  have l0 : ∀ W, GrowR (w.heap.size + 1) w6.drew W → W.cell? ⟨g5, 0, none⟩ = some (.int .i64 (bitsT os).tag) := fun W hW => GrowR.cell hW hne.out (Y6.out.cell 0)
  have l1 : ∀ W, GrowR (w.heap.size + 1) w6.drew W → W.cell? ⟨g5, 1, none⟩ = some (.slice A5 n5 c5) := fun W hW => GrowR.cell hW hne.out (Y6.out.cell 1)
  have l2 : ∀ W, GrowR (w.heap.size + 1) w6.drew W → W.cell? ⟨g5, 2, none⟩ = some (.slice K5 m5 d5) := fun W hW => GrowR.cell hW hne.out (Y6.out.cell 2)
  refine wp_region_ord (GrowR (w.heap.size + 1)) (GrowR.refl _) GrowR.trans ((1, false) :: (0, true) :: (2, true) :: (3, false) :: (4, true) :: (5, false) :: []) (by kernel_rfl) (by kernel_rfl) rfl (by kernel_rfl) (fun _ _ _ _ _ h => h) ?_
  repeat (refine ord_take _ rfl (by rfl) (fun W hW => by go_simp; first | done | rfl) ?_; simp only [Act.put, List.setIfInBounds_toArray, List.set_cons_zero, List.set_cons_succ])
  clear l0 l1 l2 Y6
  have S7 : Hid (Blk w6.drew (w.heap.size + 1) 28 #[.int .i64 0, .slice none 0 0, .slice none 0 0]) := S6.out
  have B7 : Hid (Below w.heap.size w w6.drew) := B6.out.drew
  have I7 := Lib.hid (T.InP.below (w := w6) (w' := w6.drew) (Below.refl _ _).drew (fun _ h => h) _ I6.out)
  clear S6 B6 I6
  generalize w6.drew = w7 at *
  have hs7 : Hid (w.heap.size + 1 < w7.heap.size) := S7.out.lt
  refine ord_sole rfl (by rfl) (fun K1 hK1 => ?_)
  go_simp
  refine (rmade_any 1 (by omega) (by omega) w7).mono ?_
  rintro e1 w8 ⟨A8, n8, c8, K8, m8, d8, rfl, hin8, hb8⟩
  refine hK1 _ _ (GrowR.below hb8) ?_
  have A9 : Below w8.heap.size w8 (w8.alloc (.cells #[.int .i64 (algT 1).tag, .slice A8 n8 c8, .slice K8 m8 d8, .int .i64 (bitsT os).tag, .slice A5 n5 c5, .slice K5 m5 d5] 28)) := (Below.refl _ _).alloc (Nat.le_refl _) _
  have E9 := hb8.trans (A9.mono hb8.size)
  have hs8 := Nat.lt_of_lt_of_le hs7.out hb8.size
  have S9 := Lib.hid (S7.out.below E9 S7.out.lt)
  have B9 := Lib.hid (B7.out.trans (E9.mono B7.out.size))
  have K9 := Lib.hid (kids_two (P := fun b => w.heap.size ≤ b ∧ b ≠ w.heap.size + 1) (Blk.new w8 28 #[.int .i64 (algT 1).tag, .slice A8 n8 c8, .slice K8 m8 d8, .int .i64 (bitsT os).tag, .slice A5 n5 c5, .slice K5 m5 d5]) ⟨by omega, by omega⟩ (T.InP.below A9 (Q := fun b => w.heap.size ≤ b ∧ b ≠ w.heap.size + 1) (fun b (hb : w7.heap.size ≤ b) => (by have := hs7.out; omega)) _ hin8) (T.InP.below E9 (fun _ h => h) _ I7.out))
  clear hK1 K1 S7 B7 I7 hs7 hin8 hb8 E9 hs8
  refine ord_sole rfl (by rfl) (fun K1 hK1 => ?_)
  go_simp
  refine hK1 _ _ (GrowR.below A9) ?_
  clear hK1 K1 A9
  generalize w8.alloc (.cells #[.int .i64 (algT 1).tag, .slice A8 n8 c8, .slice K8 m8 d8, .int .i64 (bitsT os).tag, .slice A5 n5 c5, .slice K5 m5 d5] 28) = w9 at *
  generalize w8.heap.size = g9 at *
  repeat (refine ord_take _ rfl (by rfl) (fun W hW => by go_simp; first | done | rfl) ?_; simp only [Act.put, List.setIfInBounds_toArray, List.set_cons_zero, List.set_cons_succ])
  obtain ⟨p0, p1, p2, f0, f1, f2⟩ := S9.out.facts
  refine ord_sole rfl (by rfl) (fun K1 hK1 => ?_)
  go_simp
  refine hK1 _ _ (three_grow _ _ _ _ _) ?_
  clear hK1 K1
  repeat (refine ord_take _ rfl (by rfl) (fun W hW => by go_simp; first | done | rfl) ?_; simp only [Act.put, List.setIfInBounds_toArray, List.set_cons_zero, List.set_cons_succ])
  refine ord_end ?_
  go_wp2_with fail
  exact gives_boxedE (x := (keyT ns e, 0)) F.out rfl rfl rfl S9.out (Nat.le_succ _) B9.out (by rw [OZ.out]; exact K9.out.node (by decide))
set_option maxHeartbeats 1000000 in
theorem rname14_any (a : Option Addr) (n c : Nat) (e : Int) (ns : List Int) (w : World) (hk : KeyAt w a n c e ns) (hn : n ≤ 100000) : Calls Tryz.prog 11 #[.agg #[.slice a n c, .int .u32 e]] w fun r w' => r = .returned (.tuple #[.string (strOfNums (nameK ns e).1), .int .i64 (nameK ns e).2]) ∧ Below w.heap.size w w' := by
  have b1 : Below w.heap.size w (w.alloc (.cells #[.slice a n c, .int .u32 e] 25)) := (Below.refl _ _).alloc (Nat.le_refl _) _
  have X1 := Lib.hid (key_box w a n c e)
  have CI := Lib.hid (krright_any a n c e ns _ (hk.below b1) (by omega))
  have K1 := Lib.hid (hk.below b1)
  have hln := hk.1.1
  have B1 := Lib.hid b1
  have c0 := X1.out.cell 0
  have c1 := X1.out.cell 1
  simp only [List.getElem?_toArray, List.getElem?_cons_succ, List.getElem?_cons_zero] at c0 c1
  clear b1 hk
  go_enter Tryz.func11, Tryz.ntmps11
  generalize hw1 : w.alloc (.cells #[.slice a n c, .int .u32 e] 25) = w1 at *
  go_wp2_with fail
  refine CI.out.mono ?_
  rintro e1 w3 ⟨rfl, hb3⟩
  have B3 := Lib.hid (B1.out.trans (hb3.mono B1.out.size))
  have K3 := Lib.hid (K1.out.below hb3)
  have X3 := X1.out.below hb3 X1.out.lt
  have x0 := X3.cell 0
  have x1 := X3.cell 1
  simp only [List.getElem?_toArray, List.getElem?_cons_succ, List.getElem?_cons_zero] at x0 x1
  clear CI B1 K1 X1 X3 hb3 hw1 c0 c1
  cases hrt : rightZ ns e
  · have F : Hid (nameK ns e = ([], 1)) := by unfold nameK; rw [hrt]; exact Lib.hid rfl
    clear hrt
    go_wp2_with fail
    go_ret2
    rw [F.out]
    exact ⟨rfl, B3.out⟩
  have hl := (right_len hrt).2
  have F : Hid (nameK ns e = (hexZ ((hashZ (ownZ ns e)).take 20), 0)) := by unfold nameK; rw [hrt]; exact Lib.hid rfl
  have ho := own_len (ns := ns) e (by omega)
  have CO := Lib.hid (rown_any a n c e ns w3 K3.out (by omega))
  clear hrt
  generalize ownZ ns e = os at *
  go_wp2_with fail
  refine CO.out.mono ?_
  rintro e1 w4 ⟨a4, c4, rfl, hr4, hn4, hb4⟩
  have B4 := Lib.hid (B3.out.trans (hb4.mono B3.out.size))
  have CN := Lib.hid (rname_any a4 os.length c4 os w4 hr4 (by omega) hn4)
  clear CO B3 K3 hr4 hn4 hb4 x0 x1
  go_wp2_with fail
  refine CN.out.mono ?_
  rintro e1 w5 ⟨rfl, hb5⟩
  have B5 := Lib.hid (B4.out.trans (hb5.mono B4.out.size))
  clear CN B4 hb5
  go_wp2_with fail
  go_ret2
  rw [F.out]
  exact ⟨rfl, B5.out⟩
end Go.Proofs.YtgmefdmeeihgoaaGreatDoor
namespace Go.Proofs.YtgmefdmeeihgoaaGreatDoor
open Go.RowKit
set_option linter.unusedVariables false
set_option linter.unusedSimpArgs false
theorem rreadK_few {t : T} (h : ¬ t.kids.length = 2) : rreadK t = none := by
  unfold rreadK
  split
  · rename_i a b hk
    rw [hk] at h
    exact absurd rfl h
  · rfl
theorem rreadK_two {t a b : T} (h : t.kids = [a, b]) : rreadK t = if (ofZ b).2.2 = 0 then rkeyWithin t (readZ (ofZ b).1) else none := by unfold rreadK; rw [h]
theorem rwithin_few {t y : T} (h : ¬ y.kids.length = 2) : rkeyWithin t (.ok y) = none := by
  unfold rkeyWithin
  simp only
  split
  · rename_i p q hk
    rw [hk] at h
    exact absurd rfl h
  · rfl
theorem rwithin_two {t y p q : T} (h : y.kids = [p, q]) : rkeyWithin t (.ok y) = keyIn t p q := by unfold rkeyWithin; simp only [h]
structure ZP (w W : World) (x : T) (A : Option Addr) (nb c : Nat) (K : Option Addr) (m d : Nat) : Prop where
  box : Blk W w.heap.size 28 #[.int .i64 x.tag, .slice A nb c, .slice K m d]
  res : Blk W (w.heap.size + 1) 25 #[.slice none 0 0, .int .u32 0]
  below : Below w.heap.size w W
  has : x.InP Any W (.agg #[.int .i64 x.tag, .slice A nb c, .slice K m d])
theorem ZP.go {w W W' : World} {x : T} {A : Option Addr} {nb c : Nat} {K : Option Addr} {m d : Nat} (h : ZP w W x A nb c K m d) (hb : Below W.heap.size W W') : ZP w W' x A nb c K m d :=
  ⟨h.box.below hb h.box.lt, h.res.below hb h.res.lt, h.below.trans (hb.mono h.below.size), T.InP.below hb (fun _ h => h) _ h.has⟩
theorem key_no {w W : World} {x : Option (List Int × Int)} {t : T} {A : Option Addr} {nb c : Nat} {K : Option Addr} {m d : Nat} {tmps : Array Value} {fn : Func} {p u : Tmp} (h : ZP w W t A nb c K m d) (hx : x = none) (hf : fn.results = #[.cell p 25, .tmp u]) (hp : tmps.getD p undef = .pointer (some ⟨w.heap.size + 1, 0, none⟩)) (hu : tmps.getD u undef = .int .i64 2) :
    bodyPost Tryz.prog fn (GivesKey x w) .ret { tmps := tmps, defers := [] } ((W.setCell ⟨w.heap.size + 1, 0, none⟩ (.slice none 0 0)).setCell ⟨w.heap.size + 1, 1, none⟩ (.int .u32 0)) := by
  have C := (h.res.set 0 (.slice none 0 0)).set 1 (.int .u32 0)
  have G := two_grow (w.heap.size + 1) W (.slice none 0 0) (.int .u32 0)
  have R := results_nodee (P := Tryz.prog) hf tmps _ (w.heap.size + 1) 25 _ (0, 0) _ hp C Tryz.underlying25 rfl Tryz.sizeKey
  rw [hu] at R
  exact bodyPost_ret R rfl ⟨h.below.trans (grown_below G _ (Nat.le_succ _) h.below.size), .inl ⟨hx, rfl⟩⟩
set_option maxRecDepth 100000 in
set_option maxHeartbeats 4000000 in
theorem rkread_any (t : T) (v : Value) (w : World) (hin : t.In w v) (hwt : wt t < 30000) : Calls Tryz.prog 13 #[v] w (GivesKey (rreadK t) w) := by
  obtain ⟨A, nb, c, K, m, d, rfl⟩ := (T.In.inP t hin).form
  have X0 := (Blk.new w 28 #[.int .i64 t.tag, .slice A nb c, .slice K m d]).alloc (.cells #[.slice none 0 0, .int .u32 0] 25)
  have S0 := Blk.new (w.alloc (.cells #[.int .i64 t.tag, .slice A nb c, .slice K m d] 28)) 25 #[.slice none 0 0, .int .u32 0]
  rw [show (w.alloc (.cells #[.int .i64 t.tag, .slice A nb c, .slice K m d] 28)).heap.size = w.heap.size + 1 by simp] at S0
  have b2 : Below w.heap.size w ((w.alloc (.cells #[.int .i64 t.tag, .slice A nb c, .slice K m d] 28)).alloc (.cells #[.slice none 0 0, .int .u32 0] 25)) := ((Below.refl _ _).alloc (Nat.le_refl _) _).alloc (by simp) _
  have P2 := Lib.hid (ZP.mk X0 S0 b2 (T.InP.below b2 (fun _ h => h) _ hin.any))
  have hml : t.kids.length = m := P2.out.has.kidsP.1
  obtain ⟨g0, g1, g2, _, _, _⟩ := X0.facts
  obtain ⟨p0, p1, f0, f1⟩ := S0.pair
  clear b2 S0 X0 hin
  go_enter Tryz.func13, Tryz.ntmps13
  generalize hw2 : (w.alloc (.cells #[.int .i64 t.tag, .slice A nb c, .slice K m d] 28)).alloc (.cells #[.slice none 0 0, .int .u32 0] 25) = w2 at *
  by_cases hm : m = 2
  rotate_left
  · have F := Lib.hid (rreadK_few (t := t) (by omega))
    have t1 : ((m : Int) != 2) = true := by simp; omega
    clear hm hwt hml
    go_wp2_with fail
    exact key_no P2.out F.out rfl rfl rfl
  subst hm
  obtain ⟨k0, k1, hks⟩ : ∃ k0 k1, t.kids = [k0, k1] := by
    rcases hk : t.kids with _ | ⟨k0, _ | ⟨k1, _ | ⟨k2, r⟩⟩⟩
    · rw [hk] at hml; simp at hml
    · rw [hk] at hml; simp at hml
    · exact ⟨k0, k1, rfl⟩
    · rw [hk] at hml; simp at hml
  have F0 := Lib.hid (rreadK_two hks)
  have hm1 : k1 ∈ t.kids := by rw [hks]; simp
  have hb1 : k1.body.length ≤ 30000 := by have h1 := wt_kid hm1; have h2 := wt_eq k1; have h3 := wtAll_pos k1.kids; omega
  have KK := Lib.hid P2.out.has.kidsP
  rw [hks] at KK
  obtain ⟨y, b, off, z, A2, n2, c2, K2, m2, d2, he, rfl, q0, q1, q2, hin2⟩ := KK.out.kid 1 (by omega)
  obtain rfl : k1 = y := by simpa using he
  have CO := Lib.hid (rof_any k1 _ _ (T.InP.in _ hin2) (T.InP.in _ hin2).cappedD (by omega))
  have hsl := Nat.le_trans (of_len k1) hb1
  clear he hin2 hm1 hml hb1 KK
  go_wp2_with fail
  refine CO.out.mono ?_
  rintro e w4 ⟨a4, c4, rfl, hr4, hn4, hc4, hb4⟩
  have P4 := Lib.hid (P2.out.go hb4)
  have HBy := Lib.hid hr4.2.1
  have CR := Lib.hid (rread_any a4 _ c4 _ w4 hr4 hc4 hsl)
  clear CO P2 hb4 hr4 hn4 q0 q1 q2 g0 g1 g2 p0 p1 f0 f1 hw2
  generalize (ofZ k1).1 = bs at *
  generalize (ofZ k1).2.1 = o1
  generalize (ofZ k1).2.2 = o2 at *
  go_wp2_with fail
  refine CR.out.mono ?_
  rintro e w5 ⟨hb5, hways⟩
  have P5 := Lib.hid (P4.out.go hb5)
  clear CR P4 hb5
  rcases hways with ⟨z5, hz, rfl⟩ | ⟨y5, v5, hy, rfl, hin5⟩
  · have P6 := Lib.hid (P5.out.go ((Below.refl _ _).alloc (Nat.le_refl _) (.cells #[.int .i64 0, .slice none 0 0, .slice none 0 0] 28)))
    have F : Hid (rreadK t = none) := by
      rw [F0.out, hz]
      show (if o2 = 0 then _ else _) = _
      split <;> rfl
    have hz0 := read_err hz
    have t0 : (z5 != 0) = true := by simpa using hz0
    obtain ⟨p0, p1, f0, f1⟩ := P6.out.res.pair
    clear hz hz0 F0
    by_cases ho : o2 = 0
    · have t1 : (o2 != 0) = false := by simpa using ho
      clear ho
      go_wp2_with fail
      exact key_no P6.out F.out rfl rfl rfl
    · have t1 : (o2 != 0) = true := by simpa using ho
      clear ho
      go_wp2_with fail
      exact key_no P6.out F.out rfl rfl rfl
  obtain ⟨Ay, ny, cy, Ky, my, dy, rfl⟩ := hin5.form
  have hwy := (read_fit HBy.out hy).1
  have A6 : Below w5.heap.size w5 (w5.alloc (.cells #[.int .i64 y5.tag, .slice Ay ny cy, .slice Ky my dy] 28)) := (Below.refl _ _).alloc (Nat.le_refl _) _
  have P6 := Lib.hid (P5.out.go A6)
  have Y6 := Lib.hid (Blk.new w5 28 #[.int .i64 y5.tag, .slice Ay ny cy, .slice Ky my dy])
  have I6 := Lib.hid (T.InP.below A6 (Q := Any) (fun _ _ => trivial) _ hin5)
  have hml : y5.kids.length = my := I6.out.kidsP.1
  have F1 : Hid (rreadK t = if o2 = 0 then rkeyWithin t (.ok y5) else none) := by rw [F0.out, hy]; exact Lib.hid rfl
  clear F0 HBy hy A6 P5 hin5
  obtain ⟨p0, p1, f0, f1⟩ := P6.out.res.pair
  obtain ⟨y0, y1, y2, _, _, _⟩ := Y6.out.facts
  by_cases ho : o2 = 0
  rotate_left
  · have F : Hid (rreadK t = none) := by rw [F1.out]; exact if_neg ho
    have t1 : (o2 != 0) = true := by simpa using ho
    clear ho F1 hml
    go_wp2_with fail
    exact key_no P6.out F.out rfl rfl rfl
  have F2 : Hid (rreadK t = rkeyWithin t (.ok y5)) := by rw [F1.out]; exact if_pos ho
  have t1 : (o2 != 0) = false := by simpa using ho
  clear ho F1
  by_cases hm : my = 2
  rotate_left
  · have F := Lib.hid (F2.out.trans (rwithin_few (t := t) (y := y5) (by omega)))
    have t2 : ((my : Int) != 2) = true := by simp; omega
    clear hm F2 hml
    go_wp2_with fail
    exact key_no P6.out F.out rfl rfl rfl
  subst hm
  obtain ⟨kp, kq, hys⟩ : ∃ k0 k1, y5.kids = [k0, k1] := by
    rcases hk : y5.kids with _ | ⟨k0, _ | ⟨k1, _ | ⟨k2, r⟩⟩⟩
    · rw [hk] at hml; simp at hml
    · rw [hk] at hml; simp at hml
    · exact ⟨k0, k1, rfl⟩
    · rw [hk] at hml; simp at hml
  have F3 := Lib.hid (F2.out.trans (rwithin_two hys))
  have hmp : kp ∈ y5.kids := by rw [hys]; simp
  have hmq : kq ∈ y5.kids := by rw [hys]; simp
  have hbp : kp.body.length ≤ 30000 := by have h1 := wt_kid hmp; have h2 := wt_eq kp; have h3 := wtAll_pos kp.kids; omega
  have hbq : kq.body.length ≤ 1000000 := by have h1 := wt_kid hmq; have h2 := wt_eq kq; have h3 := wtAll_pos kq.kids; omega
  have hgl := Nat.le_trans (great_len kp) hbp
  have KK := I6.out.kidsP
  rw [hys] at KK
  obtain ⟨y', b6, off6, z6, A7, n7, c7, K7, m7, d7, he, rfl, q0, q1, q2, hin7⟩ := KK.kid 0 (by omega)
  obtain rfl : kp = y' := by simpa using he
  rw [Nat.zero_mul, Nat.add_zero] at q0 q1 q2
  have CG := Lib.hid (rgreat_any kp _ _ (T.InP.in _ hin7) (T.InP.in _ hin7).cappedD hbp)
  clear he hin7 KK F2 hmp hmq hml hbp p0 p1 f0 f1
  go_wp2_with fail
  generalize w5.alloc (.cells #[.int .i64 y5.tag, .slice Ay ny cy, .slice (some ⟨b6, off6, none⟩) 2 dy] 28) = w6 at *
  generalize w5.heap.size = g7 at *
  refine CG.out.mono ?_
  rintro e w7 ⟨a7, c8, rfl, hr7, hn7, hc7, hb7⟩
  have P7 := Lib.hid (P6.out.go hb7)
  have Y7 := Lib.hid (Y6.out.below hb7 Y6.out.lt)
  have I7 := Lib.hid (T.InP.below hb7 (fun _ h => h) _ I6.out)
  have R7 := Lib.hid hr7
  have N7 := Lib.hid hn7
  clear CG P6 Y6 I6 hr7 hn7 hb7 q0 q1 q2 y0 y1 y2
  obtain ⟨y0, y1, y2, _, _, _⟩ := Y7.out.facts
  have KK := I7.out.kidsP
  rw [hys] at KK
  obtain ⟨y', b7, off7, z7, A8, n8, c9, K8, m8, d8, he, heq, q0, q1, q2, hin8⟩ := KK.kid 1 (by omega)
  obtain rfl : kq = y' := by simpa using he
  obtain ⟨rfl, rfl⟩ : b6 = b7 ∧ off6 = off7 := by simpa using heq
  have UB := uint_rangeK kq (T.InP.in _ hin8).bytes
  have CU := Lib.hid (ruint_any kq _ w7 (T.InP.in _ hin8) hbq)
  clear he heq hin8 KK hys hbq
  go_wp2_with fail
  refine CU.out.mono ?_
  rintro e w8 ⟨rfl, hb8⟩
  have P8 := Lib.hid (P7.out.go hb8)
  have R8 := Lib.hid (R7.out.below hb8)
  have HK : Hid (rreadK t = if (greatZ kp).2 = 0 ∧ (uintZ kq).2 = 0 ∧ rightZ (greatZ kp).1 ((uintZ kq).1 % 4294967296) = true ∧ sameT (keyT (greatZ kp).1 ((uintZ kq).1 % 4294967296)) t = true then some ((greatZ kp).1, (uintZ kq).1 % 4294967296) else none) := F3.out
  clear CU P7 Y7 I7 R7 hb8 q0 q1 q2 y0 y1 y2 F3 hwy
  generalize (greatZ kp).1 = ns at *
  generalize (greatZ kp).2 = ge at *
  generalize (uintZ kq).1 = u at *
  generalize (uintZ kq).2 = ue at *
  obtain ⟨ex, hex⟩ : ∃ ex, u % 4294967296 = ex := ⟨_, rfl⟩
  have hwr : IntKind.u32.wrap u = ex := by rw [IntKind.wrap_u32]; omega
  have hx0 : 0 ≤ ex ∧ ex ≤ 4294967295 := by omega
  rw [hex] at HK
  have A9 : Below w8.heap.size w8 (w8.alloc (.cells #[.slice a7 ns.length c8, .int .u32 ex] 25)) := (Below.refl _ _).alloc (Nat.le_refl _) _
  have P9 := Lib.hid (P8.out.go A9)
  have K9 : Hid (KeyAt (w8.alloc (.cells #[.slice a7 ns.length c8, .int .u32 ex] 25)) a7 ns.length c8 ex ns) := ⟨R8.out.below A9, hc7, N7.out, hx0.1, hx0.2⟩
  have X9 := Lib.hid (Blk.new w8 25 #[.slice a7 ns.length c8, .int .u32 ex])
  have hne : Hid (w8.heap.size ≠ w.heap.size + 1) := by have := P8.out.res.lt; show w8.heap.size ≠ _; omega
  obtain ⟨x0, x1, _, _⟩ := X9.out.pair
  have CN := Lib.hid (rnode14_any a7 ns.length c8 ex ns _ K9.out (by omega))
  clear hex UB A9 P8 R8 N7 hx0
  go_wp2_with fail
  clear hwr
  generalize w8.alloc (.cells #[.slice a7 ns.length c8, .int .u32 ex] 25) = w9 at *
  generalize w8.heap.size = g11 at *
  refine CN.out.mono ?_
  rintro e w10 ⟨A10, n10, c10, K10, m10, d10, rfl, hin10, hb10⟩
  have A11 : Below w10.heap.size w10 (w10.alloc (.cells #[.int .i64 (nodeK ns ex).1.tag, .slice A10 n10 c10, .slice K10 m10 d10] 28)) := (Below.refl _ _).alloc (Nat.le_refl _) _
  have E11 := hb10.trans (A11.mono hb10.size)
  have P11 := Lib.hid (P9.out.go E11)
  have K11 := Lib.hid (K9.out.below E11)
  have X11 := Lib.hid (X9.out.below E11 X9.out.lt)
  have I11 := Lib.hid (T.In.below A11 _ (T.InP.in _ hin10))
  have Z11 := Lib.hid (Blk.new w10 28 #[.int .i64 (nodeK ns ex).1.tag, .slice A10 n10 c10, .slice K10 m10 d10])
  clear CN P9 K9 X9 hin10 hb10 A11 E11 x0 x1
  obtain ⟨p0, p1, f0, f1⟩ := P11.out.res.pair
  obtain ⟨t0, t1', t2, _, _, _⟩ := P11.out.box.facts
  obtain ⟨x0, x1, _, _⟩ := X11.out.pair
  obtain ⟨z0, z1, z2, _, _, _⟩ := Z11.out.facts
  by_cases hge : ge = 0
  rotate_left
  · have F : Hid (rreadK t = none) := by rw [HK.out]; exact if_neg (fun h => hge h.1)
    have t3 : (ge != 0) = true := by simpa using hge
    clear hge HK
    go_wp2_with fail
    exact key_no P11.out F.out rfl rfl rfl
  have t3 : (ge != 0) = false := by simpa using hge
  by_cases hue : ue = 0
  rotate_left
  · have F : Hid (rreadK t = none) := by rw [HK.out]; exact if_neg (fun h => hue h.2.1)
    have t4 : (ue != 0) = true := by simpa using hue
    clear hge hue HK
    go_wp2_with fail
    exact key_no P11.out F.out rfl rfl rfl
  have t4 : (ue != 0) = false := by simpa using hue
  cases hrt : rightZ ns ex
  · have F : Hid (rreadK t = none) := by rw [HK.out]; exact if_neg (fun h => by have := h.2.2.1; rw [hrt] at this; cases this)
    have t5 : ((nodeK ns ex).2 != 0) = true := by unfold nodeK; rw [hrt]; rfl
    clear hge hue HK hrt
    go_wp2_with fail
    exact key_no P11.out F.out rfl rfl rfl
  have F5 : Hid (rreadK t = if sameT (keyT ns ex) t = true then some (ns, ex) else none) := by rw [HK.out, hrt]; simp [hge, hue, Hid]
  have t5 : ((nodeK ns ex).2 != 0) = false := by unfold nodeK; rw [hrt]; rfl
  have N0 : (nodeK ns ex).1 = keyT ns ex := by unfold nodeK; rw [hrt]; rfl
  have CM := Lib.hid (same_any (nodeK ns ex).1 t _ _ _ I11.out (T.InP.in _ P11.out.has))
  rw [← N0] at F5
  clear hge hue HK hrt N0
  go_wp2_with fail
  generalize w10.alloc (.cells #[.int .i64 (nodeK ns ex).1.tag, .slice A10 n10 c10, .slice K10 m10 d10] 28) = w11 at *
  generalize w10.heap.size = g12 at *
  refine CM.out.mono ?_
  rintro e w12 ⟨rfl, hb12⟩
  have P12 := Lib.hid (P11.out.go hb12)
  have K12 := Lib.hid (K11.out.below hb12)
  have X12 := Lib.hid (X11.out.below hb12 X11.out.lt)
  clear CM P11 K11 X11 I11 Z11 hb12 p0 p1 f0 f1 x0 x1 z0 z1 z2 t0 t1' t2
  obtain ⟨p0, p1, f0, f1⟩ := P12.out.res.pair
  obtain ⟨x0, x1, _, _⟩ := X12.out.pair
  cases hs : sameT (nodeK ns ex).1 t
  · have F : Hid (rreadK t = none) := by rw [F5.out, hs]; rfl
    clear hs F5
    go_wp2_with fail
    exact key_no P12.out F.out rfl rfl rfl
  · have F : Hid (rreadK t = some (ns, ex)) := by rw [F5.out, hs]; rfl
    clear hs F5
    go_wp2_with fail
    have G := two_grow (w.heap.size + 1) w12 (.slice a7 ns.length c8) (.int .u32 ex)
    have C := (P12.out.res.set 0 (.slice a7 ns.length c8)).set 1 (.int .u32 ex)
    exact bodyPost_ret (results_nodee rfl _ _ (w.heap.size + 1) 25 _ (0, 0) _ rfl C Tryz.underlying25 rfl Tryz.sizeKey) rfl ⟨P12.out.below.trans (grown_below G _ (Nat.le_succ _) P12.out.below.size), .inr ⟨ns, ex, a7, c8, F.out, rfl, row_grown K12.out.1 (row_off K12.out.1 P12.out.res key_zeros) G, K12.out.2⟩⟩
end Go.Proofs.YtgmefdmeeihgoaaGreatDoor
namespace Go.Proofs.YtgmefdmeeihgoaaGreatDoor
open Go.RowKit
set_option linter.unusedVariables false
set_option linter.unusedSimpArgs false
def kwN (x : Option (List Int × Int)) : List Int := match x with | some v => v.1 | none => []
def kwE (x : Option (List Int × Int)) : Int := match x with | some v => v.2 | none => 0
def kwZ (x : Option (List Int × Int)) : Int := match x with | some _ => 0 | none => 2
theorem key_word {x : Option (List Int × Int)} {w w' : World} {e : Ending} (h : GivesKey x w e w') : Below w.heap.size w w' ∧ ∃ a c, e = .returned (.tuple #[.agg #[.slice a (kwN x).length c, .int .u32 (kwE x)], .int .i64 (kwZ x)]) ∧ KeyAt w' a (kwN x).length c (kwE x) (kwN x) := by
  obtain ⟨hb, ⟨rfl, rfl⟩ | ⟨ns, ex, a, c, rfl, rfl, hk⟩⟩ := h
  · exact ⟨hb, none, 0, rfl, Row.nil _ _, Nat.le_refl _, fun _ => rfl, by decide, by decide⟩
  · exact ⟨hb, a, c, rfl, hk⟩
structure WB (w W : World) (a : Option Addr) (n c : Nat) (e : Int) (ns : List Int) (t : T) (A : Option Addr) (nb cb : Nat) (K : Option Addr) (m d : Nat) : Prop where
  box1 : Blk W w.heap.size 25 #[.slice a n c, .int .u32 e]
  box2 : Blk W (w.heap.size + 1) 28 #[.int .i64 t.tag, .slice A nb cb, .slice K m d]
  below : Below w.heap.size w W
  k1 : KeyAt W a n c e ns
  has : t.In W (.agg #[.int .i64 t.tag, .slice A nb cb, .slice K m d])
theorem WB.go {w W W' : World} {a : Option Addr} {n c : Nat} {e : Int} {ns : List Int} {t : T} {A : Option Addr} {nb cb : Nat} {K : Option Addr} {m d : Nat} (h : WB w W a n c e ns t A nb cb K m d) (hb : Below W.heap.size W W') : WB w W' a n c e ns t A nb cb K m d :=
  ⟨h.box1.below hb h.box1.lt, h.box2.below hb h.box2.lt, h.below.trans (hb.mono h.below.size), h.k1.below hb, T.In.below hb _ h.has⟩
theorem WB.cells {w W : World} {a : Option Addr} {n c : Nat} {e : Int} {ns : List Int} {t : T} {A : Option Addr} {nb cb : Nat} {K : Option Addr} {m d : Nat} (h : WB w W a n c e ns t A nb cb K m d) : W.cell? ⟨w.heap.size, 0, none⟩ = some (.slice a n c) ∧ W.cell? ⟨w.heap.size, 1, none⟩ = some (.int .u32 e) ∧ W.cell? ⟨w.heap.size + 1, 0, none⟩ = some (.int .i64 t.tag) ∧ W.cell? ⟨w.heap.size + 1, 1, none⟩ = some (.slice A nb cb) ∧ W.cell? ⟨w.heap.size + 1, 2, none⟩ = some (.slice K m d) :=
  ⟨h.box1.cell 0, h.box1.cell 1, h.box2.cell 0, h.box2.cell 1, h.box2.cell 2⟩
set_option maxRecDepth 100000 in
set_option maxHeartbeats 8000000 in
theorem keys_walk (a : Option Addr) (n c : Nat) (e : Int) (ns : List Int) (t : T) (v : Value) (w : World) (hT : Tab w) (h1 : KeyAt w a n c e ns) (hn : n ≤ maxLen) (hin : t.In w v) :
    Calls Tryz.prog 3 #[.agg #[.slice a n c, .int .u32 e], v] w fun r w' => r = .returned (.bool true) ∧ Below w.heap.size w w' := by
  obtain ⟨A, nb, cb, K, m, d, rfl⟩ := (T.In.inP t hin).form
  have b2 : Below w.heap.size w ((w.alloc (.cells #[.slice a n c, .int .u32 e] 25)).alloc (.cells #[.int .i64 t.tag, .slice A nb cb, .slice K m d] 28)) := ((Below.refl _ _).alloc (Nat.le_refl _) _).alloc (by simp) _
  have X1 := (key_box w a n c e).alloc (.cells #[.int .i64 t.tag, .slice A nb cb, .slice K m d] 28)
  have Y1 := Blk.new (w.alloc (.cells #[.slice a n c, .int .u32 e] 25)) 28 #[.int .i64 t.tag, .slice A nb cb, .slice K m d]
  rw [show (w.alloc (.cells #[.slice a n c, .int .u32 e] 25)).heap.size = w.heap.size + 1 by simp] at Y1
  have U2 := Lib.hid (WB.mk X1 Y1 b2 (h1.below b2) (T.In.below b2 t hin))
  have T2 := Lib.hid (hT.below b2)
  clear b2 X1 Y1 h1 hin hT
  go_enter Tryz.func3, Tryz.ntmps3
  generalize hw2 : (w.alloc (.cells #[.slice a n c, .int .u32 e] 25)).alloc (.cells #[.int .i64 t.tag, .slice A nb cb, .slice K m d] 28) = w2 at *
  go_wp2_with fail
  refine (awake14_any _).mono ?_
  rintro r w3 ⟨rfl, hb3⟩
  have U3 := Lib.hid (U2.out.go hb3)
  have T3 := Lib.hid (T2.out.below hb3)
  clear U2 T2 hb3 hw2
  obtain ⟨x0, x1, y0, y1, y2⟩ := U3.out.cells
  go_wp2_with fail
  refine (klight_any a n c e ns w3 U3.out.k1 hn).mono ?_
  rintro r w4 ⟨rfl, hb4⟩
  have U4 := Lib.hid (U3.out.go hb4)
  have T4 := Lib.hid (T3.out.below hb4)
  clear U3 T3 hb4 x0 x1 y0 y1 y2
  obtain ⟨x0, x1, y0, y1, y2⟩ := U4.out.cells
  go_wp2_with fail
  refine (light_any t _ w4 U4.out.has).mono ?_
  rintro r w5 ⟨rfl, hb5⟩
  have U5 := Lib.hid (U4.out.go hb5)
  have T5 := Lib.hid (T4.out.below hb5)
  clear U4 T4 hb5 x0 x1 y0 y1 y2
  obtain ⟨x0, x1, y0, y1, y2⟩ := U5.out.cells
  by_cases h1 : n ≤ 140
  rotate_left
  · have t1 : decide (n ≤ 140) = false := decide_eq_false h1
    rw [t1]
    clear x0 x1 y0 y1 y2 t1
    go_wp2_with fail
    go_ret
    exact ⟨rfl, U5.out.below⟩
  have t1 : decide (n ≤ 140) = true := decide_eq_true h1
  rw [t1]
  clear t1
  cases hlt : lightT t
  · clear x0 x1 y0 y1 y2
    go_wp2_with fail
    go_ret
    exact ⟨rfl, U5.out.below⟩
  obtain ⟨hwt, _⟩ := light_wt hlt
  clear hlt
  have CN := Lib.hid (node_any a n c e ns w5 U5.out.k1 (by omega))
  go_wp2_with fail
  refine CN.out.mono ?_
  rintro r w6 ⟨A6, n6, c6, K6, m6, d6, rfl, hin6, hb6⟩
  have A7 : Below w6.heap.size w6 (w6.alloc (.cells #[.int .i64 (nodeK ns e).1.tag, .slice A6 n6 c6, .slice K6 m6 d6] 28)) := (Below.refl _ _).alloc (Nat.le_refl _) _
  have E7 := hb6.trans (A7.mono hb6.size)
  have U7 := Lib.hid (U5.out.go E7)
  have T7 := Lib.hid (T5.out.below E7)
  have I7 := Lib.hid (T.In.below A7 _ (T.InP.in _ hin6))
  have Z7 := Lib.hid (Blk.new w6 28 #[.int .i64 (nodeK ns e).1.tag, .slice A6 n6 c6, .slice K6 m6 d6])
  clear CN U5 T5 hin6 hb6 A7 E7 x0 x1 y0 y1 y2
  obtain ⟨x0, x1, y0, y1, y2⟩ := U7.out.cells
  go_wp2_with fail
  generalize w6.alloc (.cells #[.int .i64 (nodeK ns e).1.tag, .slice A6 n6 c6, .slice K6 m6 d6] 28) = w7 at *
  generalize w6.heap.size = g8 at *
  refine (rnode14_any a n c e ns w7 U7.out.k1 (by omega)).mono ?_
  rintro r w8 ⟨A8, n8, c8, K8, m8, d8, rfl, hin8, hb8⟩
  have A9 : Below w8.heap.size w8 (w8.alloc (.cells #[.int .i64 (nodeK ns e).1.tag, .slice A8 n8 c8, .slice K8 m8 d8] 28)) := (Below.refl _ _).alloc (Nat.le_refl _) _
  have E9 := hb8.trans (A9.mono hb8.size)
  have U9 := Lib.hid (U7.out.go E9)
  have T9 := Lib.hid (T7.out.below E9)
  have I9 := Lib.hid (T.In.below E9 _ I7.out)
  have J9 := Lib.hid (T.In.below A9 _ (T.InP.in _ hin8))
  obtain ⟨z0, z1, z2, _, _, _⟩ := (Z7.out.below E9 Z7.out.lt).facts
  obtain ⟨q0, q1, q2, _, _, _⟩ := (Blk.new w8 28 #[.int .i64 (nodeK ns e).1.tag, .slice A8 n8 c8, .slice K8 m8 d8]).facts
  clear U7 T7 I7 Z7 hin8 hb8 A9 E9 x0 x1 y0 y1 y2
  obtain ⟨x0, x1, y0, y1, y2⟩ := U9.out.cells
  go_wp2_with fail
  generalize w8.alloc (.cells #[.int .i64 (nodeK ns e).1.tag, .slice A8 n8 c8, .slice K8 m8 d8] 28) = w9 at *
  generalize w8.heap.size = g10 at *
  have SR := same_refl (nodeK ns e).1
  refine (same_any (nodeK ns e).1 (nodeK ns e).1 _ _ w9 I9.out J9.out).mono ?_
  rintro r w10 ⟨rfl, hb10⟩
  rw [SR]
  have U10 := Lib.hid (U9.out.go hb10)
  have T10 := Lib.hid (T9.out.below hb10)
  clear U9 T9 I9 J9 SR hb10 x0 x1 y0 y1 y2 z0 z1 z2 q0 q1 q2
  obtain ⟨x0, x1, y0, y1, y2⟩ := U10.out.cells
  have CA := Lib.hid (kname_any a n c e ns w10 U10.out.k1 (by omega) T10.out)
  go_wp2_with fail
  refine CA.out.mono ?_
  rintro r w11 ⟨rfl, hb11⟩
  have U11 := Lib.hid (U10.out.go hb11)
  clear CA U10 T10 hb11 x0 x1 y0 y1 y2
  obtain ⟨x0, x1, y0, y1, y2⟩ := U11.out.cells
  have CB := Lib.hid (rname14_any a n c e ns w11 U11.out.k1 (by omega))
  go_wp2_with fail
  refine CB.out.mono ?_
  rintro r w12 ⟨rfl, hb12⟩
  have U12 := Lib.hid (U11.out.go hb12)
  clear CB U11 hb12 x0 x1 y0 y1 y2
  obtain ⟨x0, x1, y0, y1, y2⟩ := U12.out.cells
  have n1 : ((nodeK ns e).2 == (nodeK ns e).2) = true := by simp
  have n2 : ((nameK ns e).2 == (nameK ns e).2) = true := by simp
  have n3 : ((strOfNums (nameK ns e).1).toList == (strOfNums (nameK ns e).1).toList) = true := by simp
  generalize (nodeK ns e).2 = ne at *
  generalize (nameK ns e).2 = me at *
  generalize strOfNums (nameK ns e).1 = nm at *
  go_wp2_with fail
  refine (kread_any t _ w12 U12.out.has hwt).mono ?_
  intro r w13 h13
  obtain ⟨hb13, a13, c13, rfl, hk13⟩ := key_word h13
  have A14 : Below w13.heap.size w13 (w13.alloc (.cells #[.slice a13 (kwN (readK t)).length c13, .int .u32 (kwE (readK t))] 25)) := (Below.refl _ _).alloc (Nat.le_refl _) _
  have E14 := hb13.trans (A14.mono hb13.size)
  have U14 := Lib.hid (U12.out.go E14)
  have K14 := Lib.hid (hk13.below A14)
  have X14 := Lib.hid (key_box w13 a13 (kwN (readK t)).length c13 (kwE (readK t)))
  clear U12 h13 hb13 hk13 A14 E14 x0 x1 y0 y1 y2
  obtain ⟨x0, x1, y0, y1, y2⟩ := U14.out.cells
  go_wp2_with fail
  generalize w13.alloc (.cells #[.slice a13 (kwN (readK t)).length c13, .int .u32 (kwE (readK t))] 25) = w14 at *
  generalize w13.heap.size = g17 at *
  refine (rkread_any t _ w14 U14.out.has hwt).mono ?_
  rw [rread_same]
  intro r w15 h15
  obtain ⟨hb15, a15, c15, rfl, hk15⟩ := key_word h15
  have A16 : Below w15.heap.size w15 (w15.alloc (.cells #[.slice a15 (kwN (readK t)).length c15, .int .u32 (kwE (readK t))] 25)) := (Below.refl _ _).alloc (Nat.le_refl _) _
  have E16 := hb15.trans (A16.mono hb15.size)
  have B16 := Lib.hid (U14.out.go E16).below
  have K16 := Lib.hid (K14.out.below E16)
  have J16 := Lib.hid (hk15.below A16)
  obtain ⟨z0, z1, _, _⟩ := (X14.out.below E16 X14.out.lt).pair
  obtain ⟨q0, q1, _, _⟩ := (key_box w15 a15 (kwN (readK t)).length c15 (kwE (readK t))).pair
  clear U14 K14 X14 h15 hb15 hk15 A16 E16 x0 x1 y0 y1 y2
  generalize kwN (readK t) = ks at *
  generalize kwE (readK t) = kx at *
  generalize kwZ (readK t) = kz at *
  have n4 : (kz == kz) = true := by simp
  go_wp2_with fail
  generalize w15.alloc (.cells #[.slice a15 ks.length c15, .int .u32 kx] 25) = w16 at *
  generalize w15.heap.size = g19 at *
  refine (ksame_any a13 ks.length c13 kx ks a15 ks.length c15 kx ks w16 K16.out J16.out).mono ?_
  rintro r w17 ⟨rfl, hb17⟩
  have B17 := Lib.hid (B16.out.trans (hb17.mono B16.out.size))
  rw [sameK_refl]
  clear B16 K16 J16 hb17 z0 z1 q0 q1
  go_wp2_with fail
  go_ret
  exact ⟨rfl, B17.out⟩
end Go.Proofs.YtgmefdmeeihgoaaGreatDoor
namespace Go.Proofs.YtgmefdmeeihgoaaGreatDoor
open Go.ChangeShapes Go.WideShapes Go.ChangeAt Go.RowKit
set_option linter.unusedVariables false
theorem one_at {cs : Array Value} {i : Nat} {a : Value} (h : (cs.toList.drop i).take 1 = [a]) : cs[i]? = some a := by
  have : ((cs.toList.drop i).take 1)[0]? = some a := by rw [h]; rfl
  rw [List.getElem?_take, if_pos (by omega), List.getElem?_drop, Nat.add_zero] at this
  simpa using this
theorem two_cells {cs : Array Value} (hs : cs.size = 2) {a b : Value} (h0 : (cs.toList.drop 0).take 1 = [a]) (h1 : (cs.toList.drop 1).take 1 = [b]) : cs = #[a, b] := by
  have e0 := one_at h0
  have e1 := one_at h1
  apply Array.ext'
  apply List.ext_getElem?
  intro j
  rcases j with _ | _ | j
  · simpa using e0
  · simpa using e1
  · rw [List.getElem?_eq_none (by simp [hs]), List.getElem?_eq_none (by simp)]
section
variable {H : Type} {enc : TypeId × Value → H} {W : World} {base b0 : Nat} {held : Bool} {r : Reach} {v : Value} {d : DataW H} {ps : List MemPlace}
theorem Tryz.cellsK : Tryz.prog.cellsOf 25 = 2 := by kernel_rfl
theorem Tryz.cellsE : Tryz.prog.cellsOf 5 = 1 := by kernel_rfl
theorem Tryz.cellsS : Tryz.prog.cellsOf 22 = 1 := by kernel_rfl
theorem Tryz.cellsU : Tryz.prog.cellsOf 23 = 1 := by kernel_rfl
theorem slice_row {fuel : Nat} {cs : List Value} {x : DataW H × List MemPlace} (h : DataW.trod enc Tryz.prog W base (fun _ => true) held fuel 22 cs = some x) : ∃ a n c zs, cs = [.slice a n c] ∧ Row W a n zs ∧ n ≤ c ∧ (a = none → c = 0) ∧ n ≤ maxLen := by
  rcases open_ints Tryz.underlying22 Tryz.underlying5 Tryz.cellsE h with ⟨rfl, _⟩ | ⟨x, l, c, zs, rfl, _, hl, hm, hz, _, hcell, hwz⟩
  · exact ⟨none, 0, 0, [], rfl, Row.nil _ _, Nat.le_refl _, fun _ => rfl, Nat.zero_le _⟩
  · obtain ⟨h1, h2⟩ := row_of (w := W) (a := some x) (len := l) (cap := c) (zs := zs) (.inr ⟨x, rfl, hl, hm, by simpa using hz, hcell, hwz⟩)
    exact ⟨some x, l, c, zs.take l, rfl, h1, hl, (fun e => by cases e), h2⟩
set_option maxRecDepth 100000 in
theorem open_key (hok : Value.okWide Tryz.prog W r b0 25 v) (hd : DataW.Trod enc Tryz.prog W base (fun _ => true) held 25 v d ps) :
    ∃ a n c e ns, v = .agg #[.slice a n c, .int .u32 e] ∧ KeyAt W a n c e ns ∧ n ≤ maxLen := by
  obtain ⟨cs, rfl, _⟩ := okWide_struct Tryz.underlying25 hok
  obtain ⟨fuel, hf⟩ := hd
  obtain ⟨y0, y1, n, _, hl, h0, h1⟩ := trod_struct2 Tryz.underlying25 hf
  rw [Tryz.cellsS] at h0
  rw [Tryz.cellsU] at h1
  obtain ⟨a, m, c, zs, e0, hr, hc, hn, hm⟩ := slice_row h0
  obtain ⟨z, e1, _, hw⟩ := DataW.trod_int Tryz.underlying23 h1
  rw [Tryz.cellsK] at hl
  have := bounds_u32 hw
  have ee := two_cells (cs := cs) (by simpa [Value.cells] using hl) (by simpa [Value.cells] using e0) (by simpa [Value.cells] using e1)
  exact ⟨a, m, c, z, zs, by rw [ee], ⟨hr, hc, hn, by omega, by omega⟩, hm⟩
end
end Go.Proofs.YtgmefdmeeihgoaaGreatDoor
