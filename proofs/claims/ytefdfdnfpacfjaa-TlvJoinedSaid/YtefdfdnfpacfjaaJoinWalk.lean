/-
  The walk of the law TlvJoined.
-/
import Derived.Test.YtefdfdnfpacfjaaBackWalk
namespace Go.Proofs.Ytefdfdnfpacfjaa
open Go.RowKit
set_option linter.unusedVariables false

/-- The argument: a slice of elements. -/
def Args (w : World) (a : Option Addr) (len cap : Nat) (l : List T) : Prop := l.length = len ∧ len ≤ maxLen ∧ (a = none → cap = 0) ∧ (0 < len → ∃ b off, a = some ⟨b, off, none⟩ ∧ b < w.heap.size ∧ T.InAll w l b off)
theorem Args.at {w : World} {a : Option Addr} {len cap : Nat} {l : List T} (h : Args w a len cap l) (i : Nat) (hi : i < len) :
    ∃ (t : T) (b off : Nat) (A : Option Addr) (n c : Nat) (K : Option Addr) (m d : Nat), l[i]? = some t ∧ a = some ⟨b, off, none⟩ ∧ b < w.heap.size ∧
      w.cell? ⟨b, off + i * 3, none⟩ = some (.int .i64 t.tag) ∧ w.cell? ⟨b, off + i * 3 + 1, none⟩ = some (.slice A n c) ∧ w.cell? ⟨b, off + i * 3 + 2, none⟩ = some (.slice K m d) ∧ t.In w (.agg #[.int .i64 t.tag, .slice A n c, .slice K m d]) := by
  obtain ⟨h1, _, _, h4⟩ := h
  obtain ⟨b, off, rfl, hb, ha⟩ := h4 (by omega)
  have hi' : i < l.length := by omega
  obtain ⟨v0, v1, v2, c0, c1, c2, hin⟩ := ha.at i hi'
  obtain ⟨z, A, n, c, K, m, d, rfl, rfl, rfl⟩ := hin.form
  have hz := hin.parts.1
  rw [hz] at c0 hin
  exact ⟨l[i], b, off, A, n, c, K, m, d, List.getElem?_eq_getElem hi', rfl, hb, c0, c1, c2, hin⟩
/-- A set of them. -/
theorem Args.set {w : World} {a : Option Addr} {len cap : Nat} {l : List T} (h : Args w a len cap l) : (T.node 49 [] l).In w (.agg #[.int .i64 49, .slice none 0 0, .slice a len cap]) := by
  obtain ⟨h1, h2, h3, h4⟩ := h
  unfold T.In
  exact ⟨none, 0, 0, a, len, cap, rfl, rfl, Row.nil _ _, Nat.zero_le _, fun _ => rfl, h1, h2, h4⟩
theorem Args.below {w w' : World} {a : Option Addr} {len cap : Nat} {l : List T} (h : Args w a len cap l) (hb : Below w.heap.size w w') : Args w' a len cap l := by
  obtain ⟨h1, h2, h3, h4⟩ := h
  refine ⟨h1, h2, h3, fun h0 => ?_⟩
  obtain ⟨b, off, e, hlt, ha⟩ := h4 h0
  refine ⟨b, off, e, Nat.lt_of_lt_of_le hlt hb.size, T.InAll.of fun i hi => ?_⟩
  obtain ⟨v0, v1, v2, c0, c1, c2, hin⟩ := ha.at i hi
  exact ⟨v0, v1, v2, (hb.cell (p := ⟨b, off + i * 3, none⟩) hlt).trans c0, (hb.cell (p := ⟨b, off + i * 3 + 1, none⟩) hlt).trans c1, (hb.cell (p := ⟨b, off + i * 3 + 2, none⟩) hlt).trans c2, T.In.below hb _ hin⟩

/-- Where the loop stands. -/
structure JMid (w wr : World) (l : List T) (k : Nat) (V : Value) : Prop where
  out : Out w wr V (layAll (l.take k))
  bytes : ∀ x ∈ layAll (l.take k), 0 ≤ x ∧ x ≤ 255
  good : ∀ t ∈ l.take k, (writeZ t).2 = 0 ∧ deepT t ≤ 31
  len : (layAll (l.take k)).length ≤ 20000 * k
theorem JMid.start {w w2 : World} (l : List T) (hb : Below w.heap.size w w2) : JMid w w2 l 0 (.slice none 0 0) :=
  ⟨⟨World.ownsRow_nil _ _ _ _, hb⟩, by intro x hx; simp [layAll] at hx, by intro t ht; simp at ht, by simp [layAll]⟩
theorem JMid.below {w wr w' : World} {l : List T} {k : Nat} {V : Value} (h : JMid w wr l k V) (hb : Below wr.heap.size wr w') : JMid w w' l k V := ⟨h.out.below hb, h.bytes, h.good, h.len⟩
theorem JMid.next {w w' : World} {l : List T} {k : Nat} {V V' : Value} {wr : World} {t : T} (h : JMid w wr l k V) (ht : l[k]? = some t) (ho : Out w w' V' (layAll (l.take k) ++ layT t)) (hby : ∀ x ∈ layT t, 0 ≤ x ∧ x ≤ 255) (hw : (writeZ t).2 = 0) (hd : deepT t ≤ 31) (hl : (layT t).length ≤ 20000) : JMid w w' l (k + 1) V' := by
  have e := layAll_take ht
  have hi : k < l.length := (List.getElem?_eq_some_iff.1 ht).1
  have et : l[k] = t := (List.getElem?_eq_some_iff.1 ht).2
  refine ⟨by rw [e]; exact ho, ?_, ?_, ?_⟩
  · intro x hx
    rw [e] at hx
    rcases List.mem_append.1 hx with h' | h'
    · exact h.bytes x h'
    · exact hby x h'
  · intro y hy
    rw [List.take_succ_eq_append_getElem hi, et] at hy
    rcases List.mem_append.1 hy with h' | h'
    · exact h.good y h'
    · obtain rfl : y = t := by simpa using h'
      exact ⟨hw, hd⟩
  · rw [e, List.length_append]
    have := h.len
    omega

theorem wtAll_bound {l : List T} (h : ∀ t ∈ l, (writeZ t).2 = 0) : wtAll l ≤ 20000 * l.length := by
  induction l with
  | nil => simp [wtAll]
  | cons x r ih =>
    rw [wtAll, List.length_cons]
    have h1 := ih (fun t ht => h t (by simp [ht]))
    obtain ⟨h2, _, h3, _⟩ := write_sound (h x (by simp))
    have h4 := wt_le x h2
    omega

set_option maxHeartbeats 4000000 in
set_option maxRecDepth 100000 in
theorem join_walk (a0 : Option Addr) (len0 cap0 : Nat) (l : List T) (w : World) (h : Args w a0 len0 cap0 l) :
    Calls Try.prog 8 #[.slice a0 len0 cap0] w fun e w' => e = .returned (.bool true) ∧ Below w.heap.size w w' := by
  have hm := h.2.1
  unfold maxLen at hm
  have AR := Lib.hid h
  clear h
  by_cases h4 : 40 < len0
  · have t0 : decide (40 < (len0 : Int)) = true := by simp; omega
    go_enter Try.func8, Try.ntmps8
    go_wp2_with fail
    refine (awake_any _).mono ?_
    rintro e w2 ⟨rfl, hb2⟩
    have B2 := Lib.hid hb2
    clear hb2
    go_wp2
    go_ret
    exact ⟨rfl, B2.out⟩
  go_enter Try.func8, Try.ntmps8
  go_wp2_with fail
  refine (awake_any _).mono ?_
  rintro e w2 ⟨rfl, hb2⟩
  have M0 := Lib.hid (JMid.start l hb2)
  clear hb2
  go_wp2_with fail
  go_loopw [4, 5] (fun V i wr => ∃ k : Nat, k ≤ len0 ∧ i = .int .i64 (k : Int) ∧ JMid w wr l k V) (fun _ i _ => len0 - (intOf i).toNat)
  case atStart => exact ⟨0, by omega, rfl, M0.out⟩
  case round =>
    obtain ⟨k, hk, rfl, hmid⟩ := hrel
    have MD := Lib.hid hmid
    have hlen := hmid.len
    clear hmid M0
    by_cases hlt : k < len0
    · obtain ⟨t, b, off, A, n, c, K, m, d, ht, rfl, hbl, c0, c1, c2, hin⟩ := AR.out.at k hlt
      have HT := Lib.hid ht
      have C0 := Lib.hid c0
      have C1 := Lib.hid c1
      have C2 := Lib.hid c2
      have IN := Lib.hid hin
      have BR := Lib.hid MD.out.out.2
      have p0 := (BR.out.cell (p := ⟨b, off + k * 3, none⟩) hbl).trans c0
      have p1 := (BR.out.cell (p := ⟨b, off + k * 3 + 1, none⟩) hbl).trans c1
      have p2 := (BR.out.cell (p := ⟨b, off + k * 3 + 2, none⟩) hbl).trans c2
      have I1 := Lib.hid (T.In.below BR.out _ hin)
      clear ht c0 c1 c2 hin
      go_wp2_with fail
      refine (light_any t _ _ I1.out).mono ?_
      rintro e w3 ⟨rfl, hb3⟩
      have M3 := Lib.hid (MD.out.below hb3)
      have B3 := Lib.hid M3.out.out.2
      have I3 := Lib.hid (T.In.below hb3 _ I1.out)
      clear p0 p1 p2 hb3 I1 BR MD
      have p0 := (B3.out.cell (p := ⟨b, off + k * 3, none⟩) hbl).trans C0.out
      have p1 := (B3.out.cell (p := ⟨b, off + k * 3 + 1, none⟩) hbl).trans C1.out
      have p2 := (B3.out.cell (p := ⟨b, off + k * 3 + 2, none⟩) hbl).trans C2.out
      rcases Bool.eq_false_or_eq_true (lightT t) with hl | hl
      rotate_left
      · rw [hl]
        clear hl p0 p1 p2
        go_wp2
        go_ret
        exact ⟨rfl, B3.out⟩
      have hwt := (light_wt hl).1
      rw [hl]
      clear hl
      obtain ⟨xb, xe, hX⟩ : ∃ xb xe, writeZ t = (xb, xe) := ⟨_, _, rfl⟩
      have HX := Lib.hid hX
      clear hX
      go_wp2_with fail
      refine (twrite_any t _ _ I3.out hwt).mono ?_
      intro e w4 h4'
      rw [HX.out] at h4'
      obtain ⟨a4, c4, rfl, hr4, hn4, hb4, hlc4⟩ := h4'
      simp only at hr4 hb4 hlc4 ⊢
      have M4 := Lib.hid (M3.out.below hb4)
      have B4 := Lib.hid M4.out.out.2
      have I4 := Lib.hid (T.In.below hb4 _ I3.out)
      have R4 := Lib.hid hr4
      have N4 := Lib.hid hn4
      clear p0 p1 p2 hb4 hr4 hn4 hlc4 I3 B3 M3
      have p0 := (B4.out.cell (p := ⟨b, off + k * 3, none⟩) hbl).trans C0.out
      have p1 := (B4.out.cell (p := ⟨b, off + k * 3 + 1, none⟩) hbl).trans C1.out
      have p2 := (B4.out.cell (p := ⟨b, off + k * 3 + 2, none⟩) hbl).trans C2.out
      go_wp2_with fail
      refine (tsize_any t _ _ I4.out hwt).mono ?_
      rintro e w5 ⟨rfl, hb5⟩
      have M5 := Lib.hid (M4.out.below hb5)
      have B5 := Lib.hid M5.out.out.2
      have R5 := Lib.hid (R4.out.below hb5)
      clear p0 p1 p2 hb5 I4 B4 M4 R4
      by_cases h0 : xe = 0
      rotate_left
      · have t5 : (xe != 0) = true := by simpa using h0
        clear h0 HX
        go_wp2
        go_ret
        exact ⟨rfl, B5.out⟩
      subst h0
      by_cases hd : 31 < deepT t
      · clear HX
        go_wp2
        go_ret
        exact ⟨rfl, B5.out⟩
      have hX2 : (writeZ t).2 = 0 := by rw [HX.out]
      have WS := write_sound hX2
      have hxb : xb = layT t := congrArg Prod.fst (HX.out.symm.trans WS.2.2.2)
      have hll := lay_len t WS.1
      have HL : Hid ((layT t).length ≤ 20000) := by have h := WS.2.2.1; exact Lib.hid (by omega)
      have HBY := Lib.hid (lay_byte t IN.out WS.1)
      have HW := Lib.hid hX2
      have HD : Hid (deepT t ≤ 31) := Lib.hid (by omega)
      subst hxb
      have LL : Hid ((layAll (l.take k)).length + (layT t).length ≤ 1000000) := by have h := HL.out; exact Lib.hid (by omega)
      clear HX hX2 WS hll
      go_wp2_with (at_builtin; go_must (refine out_append (W0 := w) (L := layAll (l.take k)) (zs := layT t) rfl (.tmp 57) (.tmp 58) rfl rfl M5.out.out rfl R5.out N4.out LL.out ?_; intro V6 w6 ho6; have M6 := Lib.hid (M5.out.next HT.out ho6 HBY.out HW.out HD.out HL.out); clear ho6))
      go_roundw
      case rel => exact ⟨k + 1, by omega, by go_num, M6.out⟩
      case measure => simp [intOf]; omega
    · obtain rfl : k = len0 := by omega
      have hall : l.take k = l := List.take_of_length_le (by rw [AR.out.1]; exact Nat.le_refl _)
      have BW := Lib.hid MD.out.out.2
      have OU := Lib.hid MD.out.out
      have BY := Lib.hid MD.out.bytes
      have GD := Lib.hid MD.out.good
      rw [hall] at OU BY GD hlen
      have WT : Hid (wt (.node 49 [] l) < 1000000) := by
        have h1 := wtAll_bound (fun t ht => (GD.out t ht).1)
        have h2 := AR.out.1
        rw [wt_eq]
        simp only [T.body, T.kids, List.length_nil]
        exact Lib.hid (by omega)
      have SW := Lib.hid (set_write GD.out)
      have IS := Lib.hid (AR.out.below BW.out).set
      have hq : ∃ q, (layAll l).length = q := ⟨_, rfl⟩
      obtain ⟨q, hq⟩ := hq
      have HQ := Lib.hid hq
      obtain ⟨aV, cV, rfl, hrV⟩ := OU.out.row BY.out
      rw [hq] at hrV ⊢
      have RV := Lib.hid hrV
      rw [hq] at hlen
      clear MD hall GD BY OU hrV hq
      go_wp2_with fail
      refine (twrite_big (.node 49 [] l) _ _ IS.out WT.out).mono ?_
      intro e w6 h6
      rcases SW.out with hX | ⟨pre, hpre, hX⟩
      · rw [hX] at h6
        obtain ⟨a6, c6, rfl, hr6, hn6, hb6, hlc6⟩ := h6
        have B6 := Lib.hid (Below.step BW.out hb6)
        clear hr6 hn6 hb6 hlc6 hX
        go_wp2
        go_ret
        exact ⟨rfl, B6.out⟩
      · rw [hX] at h6
        obtain ⟨a6, c6, rfl, hr6, hn6, hb6, hlc6⟩ := h6
        have B6 := Lib.hid (Below.step BW.out hb6)
        obtain ⟨p, hp⟩ : ∃ p, pre.length = p := ⟨_, rfl⟩
        have hl6 : (pre ++ layAll l).length = p + q := by rw [List.length_append, hp, HQ.out]
        simp only at hr6 hlc6 ⊢
        rw [hl6] at hr6 hlc6 ⊢
        rw [hp] at hpre
        have hX2 : (writeZ (.node 49 [] l)).2 = 0 := by rw [hX]
        have hpq : p + q ≤ 30000 := by
          have WS := write_sound hX2
          have h1 := lay_len _ WS.1
          have h2 : pre ++ layAll l = layT (.node 49 [] l) := congrArg Prod.fst (hX.symm.trans WS.2.2.2)
          rw [← h2, hl6] at h1
          have h3 := WS.2.2.1
          omega
        have hdr : (pre ++ layAll l).drop p = layAll l := List.drop_left' hp
        have hRc : Row w6 (if c6 = p then a6 else a6.map (·.add p)) q (layAll l) := by
          have h := hr6.rest p c6 (by omega) hlc6
          rw [hdr, show p + q - p = q by omega] at h
          exact h
        have KC := Lib.hid (fun (W : World) (hW : Past w6.heap.size w6.drew W) => conv_at (c6 - p) (hRc.below (Past.real rfl hW)))
        have KD := Lib.hid (fun (W : World) (hW : Past w6.heap.size w6.drew W) => conv_at cV ((RV.out.below hb6).below (Past.real rfl hW)))
        obtain ⟨str, hstr⟩ : ∃ str, strOfNums (layAll l) = str := ⟨_, rfl⟩
        rw [hstr] at KC KD
        clear hr6 hn6 hb6 hX hX2 hdr hRc hl6 hstr SW
        have wp1 : IntKind.i64.wrap (p : Int) = (p : Int) := IntWalk.i64_in _ (by omega)
        have wp2 : IntKind.i64.wrap ((p : Int) + (q : Int) - (q : Int)) = (p : Int) := (congrArg _ (by omega)).trans wp1
        have lp1 : (p : Int) ≤ (p : Int) + (q : Int) := by omega
        have lp2 : p ≤ p + q := by omega
        have sp1 : p + q - p = q := by omega
        have tp0 : decide (q < p + q) = true := decide_eq_true (by omega)
        have tp1 : decide ((q : Int) < (p : Int) + (q : Int)) = true := decide_eq_true (by omega)
        have tp2 : decide (0 < (p : Int)) = true := decide_eq_true (by omega)
        have tp3 : decide (0 < p) = true := decide_eq_true hpre
        go_wp2_with fail
        have kc := KC.out
        have kd := KD.out
        clear KC KD
        by_cases hcp : c6 = p
        · rw [if_pos hcp] at kc
          subst hcp
          rw [Nat.sub_self] at kc
          refine wp_region_ord (Past w6.heap.size) (Past.refl _) (fun _ _ _ => Past.trans) [(0, false), (1, false), (2, false), (3, false), (4, false), (5, false), (6, false), (7, false), (8, false), (9, false), (10, false), (11, false), (12, false), (13, false), (14, false), (15, false), (16, false), (17, false), (18, false), (19, false), (20, false), (21, false)] (by kernel_rfl) (by kernel_rfl) rfl (by kernel_rfl) (fun _ _ _ _ _ h => h) ?_
          repeat (refine ord_take _ rfl (by rfl) (fun W hW => by go_simp; first | done | rfl) ?_; simp only [Act.put, List.setIfInBounds_toArray, List.set_cons_zero, List.set_cons_succ])
          refine ord_end ?_
          clear kc kd
          go_wp2
          go_ret
          exact ⟨by simp, Below.step B6.out (drewN_below w6 1)⟩
        · rw [if_neg hcp] at kc
          refine wp_region_ord (Past w6.heap.size) (Past.refl _) (fun _ _ _ => Past.trans) [(0, false), (1, false), (2, false), (3, false), (4, false), (5, false), (6, false), (7, false), (8, false), (9, false), (10, false), (11, false), (12, false), (13, false), (14, false), (15, false), (16, false), (17, false), (18, false), (19, false), (20, false), (21, false)] (by kernel_rfl) (by kernel_rfl) rfl (by kernel_rfl) (fun _ _ _ _ _ h => h) ?_
          repeat (refine ord_take _ rfl (by rfl) (fun W hW => by go_simp; first | done | rfl) ?_; simp only [Act.put, List.setIfInBounds_toArray, List.set_cons_zero, List.set_cons_succ])
          refine ord_end ?_
          clear kc kd
          go_wp2
          go_ret
          exact ⟨by simp, Below.step B6.out (drewN_below w6 1)⟩

end Go.Proofs.Ytefdfdnfpacfjaa
