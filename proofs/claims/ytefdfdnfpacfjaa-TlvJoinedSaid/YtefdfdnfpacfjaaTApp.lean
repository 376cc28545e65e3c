/-
  What the package's appendElement answers, for stage 4 (tlv).
-/
import Derived.Test.YtefdfdnfpacfjaaInsert
import Derived.Test.YtefdfdnfpacfjaaTreeP
import Derived.Test.YtefdfdnfpacfjaaTRight
namespace Go.Proofs.Ytefdfdnfpacfjaa
open Go.RowKit

theorem insert_any (B g cap b i : Nat) (L zs : List Int) (w : World) (hbuf : Buf B w g cap L) (hv : Blk w b 5 (zs.map (Value.int .u8)).toArray) (hbg : b ≠ g) (hz : 0 < zs.length) (hi : i ≤ L.length) (hroom : L.length + zs.length ≤ cap) :
    Calls Try.prog 33 #[.slice (some ⟨g, 0, none⟩) L.length cap, .int .i64 (i : Int), .slice (some ⟨b, 0, none⟩) zs.length zs.length] w (GivesIns B g cap (L.take i ++ (zs ++ L.drop i)) w) := by
  rcases Nat.lt_or_ge i L.length with h | h
  · exact insert_mid B g cap b i L zs w hbuf hv hbg hz h hroom
  · obtain rfl : i = L.length := by omega
    have := insert_end B g cap b L zs w hbuf hv hz hroom
    simpa using this

theorem tlength_is (z : Int) (w : World) (h0 : 0 ≤ z) (h1 : z ≤ 1000000) : Calls Try.prog 34 #[.int .i64 z] w fun e w' => e = .returned (.slice (some ⟨w.heap.size, 0, none⟩) (lenB z).length (lenB z).length) ∧ w' = w.alloc (.cells ((lenB z).map (Value.int .u8)).toArray 5) := by
  by_cases c1 : z < 128
  · have F : Hid (lenB z = [z]) := by simp [lenB, c1, Hid]
    rw [F.out]
    go_enter Try.func34, Try.ntmps34
    go_wp2_with fail
    go_ret
    exact ⟨rfl, rfl⟩
  by_cases c2 : z < 256
  · have F : Hid (lenB z = [129, z]) := by rw [lenB, if_neg (by omega), if_pos c2]; exact Lib.hid rfl
    rw [F.out]
    go_enter Try.func34, Try.ntmps34
    go_wp2_with fail
    go_ret
    exact ⟨rfl, rfl⟩
  · have F : Hid (lenB z = [130, z / 256 % 256, z % 256]) := by simp [lenB, c1, c2, Hid]
    rw [F.out]
    go_enter Try.func34, Try.ntmps34
    go_wp2_with fail
    go_ret
    exact ⟨rfl, rfl⟩

theorem grown_trans {w a b : World} {r : Option Nat} (h : w.grownBy a r) (k : a.grownBy b r) : w.grownBy b r :=
  ⟨k.os.trans h.os, k.tape.trans h.tape, k.output.trans h.output, Nat.le_trans h.size k.size, fun i hi hne => (k.block i (Nat.lt_of_lt_of_le hi h.size) hne).trans (h.block i hi hne)⟩
theorem grown_below {w a : World} {g : Nat} (h : w.grownBy a (some g)) (B : Nat) (hB : B ≤ g) (hs : B ≤ w.heap.size) : Below B w a :=
  (Below.refl B w).grown h hs (fun k hk => by injection hk with hk; omega)
theorem InP.grown {w w' : World} {g : Nat} (h : w.grownBy w' (some g)) (t : T) {v : Value} (k : t.InP (· ≠ g) w v) : t.InP (· ≠ g) w' v :=
  T.InP.keep (fun b hb hp => ⟨hp, h.block b hb (fun e => hp (by injection e))⟩) h.size t k
theorem Blk.grown {w w' : World} {g b : Nat} {ty : TypeId} {cs : Array Value} (h : Blk w b ty cs) (hg : w.grownBy w' (some g)) (hb : b ≠ g) : Blk w' b ty cs :=
  (hg.block b h.lt (fun e => hb (by injection e))).trans h
theorem T.In.inP {w : World} (t : T) : ∀ {v : Value}, t.In w v → t.InP (· < w.heap.size) w v := by
  refine T.all (p := fun t => ∀ {v : Value}, t.In w v → t.InP (· < w.heap.size) w v) ?_ t
  intro tag body kids ih v h
  unfold T.In at h
  unfold T.InP
  obtain ⟨A, n, c, K, m, d, rfl, hw, hr, hn, hc, hm, hm', hk⟩ := h
  refine ⟨A, n, c, K, m, d, rfl, hw, hr, hn, hc, hm, hm', fun h0 => ?_, fun h0 => ?_⟩
  · obtain ⟨b, off, e, hb, _⟩ := hr.2.2 h0
    exact ⟨b, off, e, hb⟩
  · obtain ⟨b, off, e, hlt, ha⟩ := hk h0
    refine ⟨b, off, e, hlt, hlt, T.InPAll.of fun i hi => ?_⟩
    obtain ⟨v0, v1, v2, h0, h1, h2, h3⟩ := ha.at i hi
    exact ⟨v0, v1, v2, h0, h1, h2, ih _ (List.getElem_mem hi) h3⟩
/-- One of the elements within, and where its cells lie. -/
theorem T.InP.kid {P : Nat → Prop} {w : World} {t : T} {A : Option Addr} {n c : Nat} {K : Option Addr} {m d : Nat} (h : t.InP P w (.agg #[.int .i64 t.tag, .slice A n c, .slice K m d])) (i : Nat) (hi : i < m) :
    ∃ (k : T) (b off : Nat) (z : Int) (A' : Option Addr) (n' c' : Nat) (K' : Option Addr) (m' d' : Nat), t.kids[i]? = some k ∧ K = some ⟨b, off, none⟩ ∧
    w.cell? ⟨b, off + i * 3, none⟩ = some (.int .i64 z) ∧ w.cell? ⟨b, off + i * 3 + 1, none⟩ = some (.slice A' n' c') ∧ w.cell? ⟨b, off + i * 3 + 2, none⟩ = some (.slice K' m' d') ∧ k.InP P w (.agg #[.int .i64 z, .slice A' n' c', .slice K' m' d']) := by
  obtain ⟨tag, body, kids⟩ := t
  unfold T.InP at h
  obtain ⟨A1, n1, c1, K1, m1, d1, e, _, _, _, _, hm, _, _, hk⟩ := h
  simp only [Value.agg.injEq] at e
  have e' := congrArg Array.toList e
  simp only [List.cons.injEq, and_true, Value.slice.injEq] at e'
  obtain ⟨_, ⟨rfl, rfl, rfl⟩, rfl, rfl, rfl⟩ := e'
  obtain ⟨b, off, rfl, hb, _, ha⟩ := hk (by omega)
  have hi' : i < kids.length := by omega
  obtain ⟨v0, v1, v2, h0, h1, h2, h3⟩ := ha.at i hi'
  obtain ⟨z, A', n', c', K', m', d', rfl, rfl, rfl⟩ := (T.InP.in _ h3).form
  exact ⟨kids[i], b, off, z, A', n', c', K', m', d', List.getElem?_eq_getElem hi', rfl, h0, h1, h2, h3⟩

/-- Bytes are appended where there is room. -/
theorem buf_append {ops : Array Oper} {rest : List Oper} {o : Oper} {a : Act} {Q : Exit → Act → World → Prop} {w : World} {B g cap : Nat} {L zs : List Int} {A : Option Addr} {m c : Nat} (hgd : o.guard = none) (s x : Operand)
    (hop : o.op = .call { callee := .builtin .append, args := #[s, x], argTypes := #[22, 22] }) (n : Nat) (hs : a.eval s = .slice (some ⟨g, 0, none⟩) n cap) (hln : L.length = n) (hbuf : Buf B w g cap L) (hx : a.eval x = .slice A m c) (hr : Row w A m zs) (hnil : A = none → c = 0) (hl : n + m ≤ cap)
    (h : ∀ w', Buf B w' g cap (L ++ zs) → w.grownBy w' (some g) → wpList Try.prog ops Q rest (a.put o.dst (.slice (some ⟨g, 0, none⟩) (n + m) cap)) w') : wpList Try.prog ops Q (o :: rest) a w := by
  subst hln
  obtain ⟨i0, hi5, hz0, hz1, hz2⟩ := info_parts Try.infoByte
  cases A with
  | none =>
    obtain rfl := hnil rfl
    have hm : m = 0 := by
      rcases Nat.eq_zero_or_pos m with h0 | h0
      · exact h0
      · obtain ⟨_, _, e, _⟩ := hr.2.2 h0
        cases e
    subst hm
    obtain rfl : zs = [] := List.eq_nil_of_length_eq_zero hr.1
    refine wpList_append_own_none hgd s x 22 hop B 5 i0 1 Try.underlying22 hi5 _ L.length _ hs hbuf hx ?_
    have := h w (by simpa using hbuf) (World.grownBy.refl _ _)
    exact this
  | some ad =>
    refine wpList_append_own_spare _ hgd s x 22 hop B 5 i0 1 Try.underlying22 hi5 hz1 g L.length cap (L.map (Value.int .u8)) hs hbuf ad m c (zs.map (Value.int .u8)) hx (by rw [List.length_map, hr.1, Nat.mul_one]) hr.cells ?_ hl ?_
    · intro u hu
      obtain ⟨_, _, rfl⟩ := List.mem_map.1 hu
      rfl
    · intro w' hown hg
      refine h w' ?_ hg
      unfold Buf
      rw [List.length_append, hr.1, List.map_append]
      exact hown

theorem T.In.row {w : World} {t : T} {z : Int} {A : Option Addr} {n c : Nat} {K : Option Addr} {m d : Nat} (h : t.In w (.agg #[.int .i64 z, .slice A n c, .slice K m d])) : Row w A n t.body := by
  obtain ⟨A1, n1, c1, K1, m1, d1, e, _, hr, _⟩ := h.open
  simp only [Value.agg.injEq] at e
  have e' := congrArg Array.toList e
  simp only [List.cons.injEq, and_true, Value.slice.injEq] at e'
  obtain ⟨_, ⟨rfl, rfl, rfl⟩, _⟩ := e'
  exact hr

theorem layAll_app (xs ys : List T) : layAll (xs ++ ys) = layAll xs ++ layAll ys := by
  induction xs with
  | nil => rw [layAll]; rfl
  | cons x r ih => rw [List.cons_append, layAll, layAll, ih, List.append_assoc]
theorem layAll_take_le (ks : List T) (k : Nat) : (layAll (ks.take k)).length ≤ (layAll ks).length := by
  conv => rhs; rw [← List.take_append_drop k ks, layAll_app, List.length_append]
  omega

/-- Where appendElement stands. -/
structure AppMid (w wr : World) (B g cap : Nat) (t : T) (A : Option Addr) (n c : Nat) (K : Option Addr) (m d : Nat) (LL : List Int) : Prop where
  buf : Buf B wr g cap LL
  grown : w.grownBy wr (some g)
  box : Blk wr w.heap.size 26 #[.int .i64 t.tag, .slice A n c, .slice K m d]
  has : t.InP (· ≠ g) wr (.agg #[.int .i64 t.tag, .slice A n c, .slice K m d])
theorem AppMid.start {w : World} {B g cap : Nat} {t : T} {A : Option Addr} {n c : Nat} {K : Option Addr} {m d : Nat} {L : List Int} (h : t.InP (· ≠ g) w (.agg #[.int .i64 t.tag, .slice A n c, .slice K m d])) (hb : Buf B w g cap L) : AppMid w (boxW w t.tag A n c K m d) B g cap t A n c K m d L :=
  ⟨hb.kept (Below.heap_alloc w _ g (by obtain ⟨cur, _, h2, _⟩ := hb.open; exact h2.lt)), World.grownBy_alloc _ _ _, Blk.new _ _ _, InP.grown (World.grownBy_alloc _ _ _) _ h⟩
theorem AppMid.alloc {w wr : World} {B g cap : Nat} {t : T} {A : Option Addr} {n c : Nat} {K : Option Addr} {m d : Nat} {L : List Int} (h : AppMid w wr B g cap t A n c K m d L) (o : Obj) : AppMid w (wr.alloc o) B g cap t A n c K m d L :=
  ⟨h.buf.kept (Below.heap_alloc wr o g (by obtain ⟨cur, _, h2, _⟩ := h.buf.open; exact h2.lt)), grown_trans h.grown (World.grownBy_alloc _ _ _), h.box.alloc o, InP.grown (World.grownBy_alloc _ _ _) _ h.has⟩
theorem AppMid.app {w wr w' : World} {B g cap : Nat} {t : T} {A : Option Addr} {n c : Nat} {K : Option Addr} {m d : Nat} {L L' : List Int} (h : AppMid w wr B g cap t A n c K m d L) (hw : w.heap.size ≠ g) (hb : Buf B w' g cap L') (hg : wr.grownBy w' (some g)) : AppMid w w' B g cap t A n c K m d L' :=
  ⟨hb, grown_trans h.grown hg, h.box.grown hg hw, InP.grown hg _ h.has⟩

set_option maxHeartbeats 4000000 in
theorem app_any (t : T) : ∀ (v : Value) (B g cap : Nat) (L : List Int) (w : World), t.InP (· ≠ g) w v → Buf B w g cap L → rightT t = true → wt t < 30000 → L.length + (layT t).length ≤ cap → cap ≤ 1000000 →
    Calls Try.prog 22 #[.slice (some ⟨g, 0, none⟩) L.length cap, v] w (GivesIns B g cap (L ++ layT t) w) := by
  refine T.each (p := fun t => ∀ (v : Value) (B g cap : Nat) (L : List Int) (w : World), t.InP (· ≠ g) w v → Buf B w g cap L → rightT t = true → wt t < 30000 → L.length + (layT t).length ≤ cap → cap ≤ 1000000 →
    Calls Try.prog 22 #[.slice (some ⟨g, 0, none⟩) L.length cap, v] w (GivesIns B g cap (L ++ layT t) w)) ?_ t
  clear t
  intro t ih v B g cap L w hin hbuf hrt hwt hroom hcap
  obtain ⟨A, n, c, K, m, d, rfl, hw, hr, hn, hc, hm, hm', _⟩ := (T.InP.in _ hin).open
  have hgw : w.heap.size ≠ g := by
    obtain ⟨cur, _, h2, _⟩ := hbuf.open
    have := h2.lt
    omega
  have M0 := Lib.hid (AppMid.start hin hbuf)
  unfold boxW at M0
  have IH := Lib.hid ih
  have HM := Lib.hid hm
  have HR := Lib.hid hr
  have HC := Lib.hid hc
  have RP := Lib.hid (right_parts hrt)
  have EL := Lib.hid (layT_eq t)
  have WE := Lib.hid (wt_eq t)
  have htb := tag_byte (right_parts hrt).1
  have wx : IntKind.u8.wrap t.tag = t.tag := IntWalk.u8_in _ (by omega)
  have hll : (layT t).length = 1 + ((lenB ((t.body.length + (layAll t.kids).length : Nat) : Int)).length + (n + (layAll t.kids).length)) := by
    rw [layT_eq, List.length_cons, List.length_append, List.length_append, hr.1]
    omega
  have M1 := Lib.hid (M0.out.alloc (.cells #[.int .u8 t.tag] 5))
  have R1 : Hid (Row ((w.alloc (.cells #[.int .i64 t.tag, .slice A n c, .slice K m d] 26)).alloc (.cells #[.int .u8 t.tag] 5)) (some ⟨w.heap.size + 1, 0, none⟩) 1 [t.tag]) := by
    have h := row_const (w.alloc (.cells #[.int .i64 t.tag, .slice A n c, .slice K m d] 26)) [t.tag] (0, 0) (by intro x hx; have : x = t.tag := (by simpa using hx); omega)
    simpa [Hid] using h
  clear hin ih hr hc hm hbuf hrt M0
  unfold maxLen at hn hm'
  go_enter Try.func22, Try.ntmps22
  go_wp2_with (at_builtin; first
    | (refine buf_append (B := B) (L := L) (zs := [t.tag]) rfl (.tmp 8) (.tmp 12) rfl L.length rfl rfl M1.out.buf rfl R1.out (fun e => by cases e) (by omega) ?_; intro w1 hb1 hg1; have M2 := Lib.hid (M1.out.app hgw hb1 hg1); obtain ⟨p0, p1, p2⟩ := (show _ ∧ _ ∧ _ from ⟨M2.out.box.cell 0, M2.out.box.cell 1, M2.out.box.cell 2⟩); clear hb1 hg1 M1 R1)
    | (go_must (refine buf_append (B := B) (L := L ++ [t.tag]) (zs := t.body) rfl (.tmp 16) (.tmp 18) rfl (L.length + 1) rfl (by simp) M2.out.buf rfl (T.InP.in _ M2.out.has).row (fun e => HC.out e) (by omega) ?_; intro w2 hb2 hg2; have M3 := Lib.hid (M2.out.app hgw hb2 hg2); clear hb2 hg2 M2 p0 p1 p2; obtain ⟨p0, p1, p2⟩ := (show _ ∧ _ ∧ _ from ⟨M3.out.box.cell 0, M3.out.box.cell 1, M3.out.box.cell 2⟩))))
  go_loopw [0, 23] (fun V i wr => ∃ (k q : Nat), k ≤ m ∧ i = .int .i64 (k : Int) ∧ V = .slice (some ⟨g, 0, none⟩) q cap ∧ (L ++ [t.tag] ++ t.body ++ layAll (t.kids.take k)).length = q ∧ AppMid w wr B g cap t A n c K m d (L ++ [t.tag] ++ t.body ++ layAll (t.kids.take k))) (fun _ i _ => m - (intOf i).toNat)
  case atStart => exact ⟨0, _, by omega, rfl, rfl, by simp [layAll, HR.out.1]; omega, by simpa [layAll] using M3.out⟩
  case round =>
    obtain ⟨k, q, hk, rfl, rfl, hq, hmid⟩ := hrel
    have MD := Lib.hid hmid
    have HQ := Lib.hid hq
    have hqv : q = L.length + 1 + n + (layAll (t.kids.take k)).length := by
      rw [← hq]
      simp only [List.length_append, HR.out.1, List.length_cons, List.length_nil]
    have hkl := layAll_take_le t.kids k
    clear hmid hq M3
    by_cases hlt : k < m
    · obtain ⟨x, bb, off, zz, A', n', c', K', m', d', hx, rfl, c0, c1, c2, hxin⟩ := MD.out.has.kid k hlt
      have hxm := List.mem_of_getElem? hx
      have hwx := wt_kid hxm
      have hxr := RP.out.2.2.2 x hxm
      have hk1 := layAll_take_le t.kids (k + 1)
      rw [layAll_take hx, List.length_append] at hk1
      have M4 := Lib.hid (MD.out.alloc (.cells #[.int .i64 zz, .slice A' n' c', .slice K' m' d'] 26))
      have CI := Lib.hid (IH.out x hxm _ B g cap _ (boxW wr zz A' n' c' K' m' d') (InP.grown (World.grownBy_alloc _ _ _) _ hxin) M4.out.buf hxr (by omega) (by rw [HQ.out]; omega) hcap)
      rw [HQ.out] at CI
      have LT : Hid (L ++ [t.tag] ++ t.body ++ layAll (t.kids.take k) ++ layT x = L ++ [t.tag] ++ t.body ++ layAll (t.kids.take (k + 1))) := by
        rw [layAll_take hx, ← List.append_assoc]
        exact Lib.hid rfl
      rw [LT.out] at CI
      unfold boxW at CI
      clear hx hxin hxm hxr LT hqv hkl hk1 HQ hll hwx WE
      go_wp2_with fail
      refine CI.out.mono ?_
      rintro e w5 ⟨rfl, hb5, hg5⟩
      have M5 := Lib.hid (M4.out.app hgw hb5 hg5)
      clear hb5 hg5 M4 CI
      go_wp2_with fail
      go_roundw
      case rel => exact ⟨k + 1, _, by omega, by go_num, rfl, by simp only [List.length_append, List.length_cons, List.length_nil]; omega, M5.out⟩
      case measure => simp [intOf]; omega
    · have hall : t.kids.take k = t.kids := List.take_of_length_le (by rw [HM.out]; omega)
      rw [hall] at MD HQ hqv
      have hz0 : L.length + 1 ≤ q := by omega
      have hq5 : q ≤ 1000000 := by omega
      have HQV := Lib.hid hqv
      have HLL := Lib.hid hll
      have HRM := Lib.hid hroom
      clear hall hqv hkl hll WE hroom
      go_wp2_with fail
      refine (tlength_is _ _ (by omega) (by omega)).mono ?_
      rintro e w5 ⟨rfl, rfl⟩
      have EZ : ((q : Int) - ((L.length : Int) + 1)) = ((t.body.length + (layAll t.kids).length : Nat) : Int) := by
        have h1 := HQV.out
        have h2 := HR.out.1
        omega
      have EL2 : Hid (layT t = [t.tag] ++ (lenB ((q : Int) - ((L.length : Int) + 1)) ++ (t.body ++ layAll t.kids))) := by
        have h := EL.out
        rw [← EZ] at h
        rw [List.singleton_append]
        exact h
      have HRO : Hid (q + (lenB ((q : Int) - ((L.length : Int) + 1))).length ≤ cap) := by
        have h1 := HRM.out
        have h2 := HLL.out
        have h3 := HQV.out
        have h4 : (lenB ((q : Int) - ((L.length : Int) + 1))).length = (lenB ((t.body.length + (layAll t.kids).length : Nat) : Int)).length := by rw [EZ]
        generalize (lenB ((q : Int) - ((L.length : Int) + 1))).length = x4 at h4 ⊢
        generalize (lenB ((t.body.length + (layAll t.kids).length : Nat) : Int)).length = y4 at h2 h4
        show q + x4 ≤ cap
        omega
      have hlp : 0 < (lenB ((q : Int) - ((L.length : Int) + 1))).length := by
        have h1 := lenB_length ((q : Int) - ((L.length : Int) + 1))
        have h2 := lenLen_range ((q : Int) - ((L.length : Int) + 1))
        omega
      clear EZ EL HRM HLL HQV
      generalize lenB ((q : Int) - ((L.length : Int) + 1)) = ln at EL2 HRO hlp
      have hgr : wr.heap.size ≠ g := by
        obtain ⟨cur, _, h2, _⟩ := MD.out.buf.open
        have := h2.lt
        omega
      have EQ : Hid ((L ++ [t.tag] ++ t.body ++ layAll t.kids).take (L.length + 1) ++ (ln ++ (L ++ [t.tag] ++ t.body ++ layAll t.kids).drop (L.length + 1)) = L ++ layT t) := by
        rw [EL2.out, List.append_assoc (L ++ [t.tag]), List.take_left' (by simp), List.drop_left' (by simp), List.append_assoc]
        exact Lib.hid rfl
      have CI : Hid (∀ ii : Int, ii = ((L.length + 1 : Nat) : Int) → Calls Try.prog 33 #[.slice (some ⟨g, 0, none⟩) q cap, .int .i64 ii, .slice (some ⟨wr.heap.size, 0, none⟩) ln.length ln.length] (wr.alloc (.cells (ln.map (Value.int .u8)).toArray 5)) (GivesIns B g cap (L ++ layT t) (wr.alloc (.cells (ln.map (Value.int .u8)).toArray 5)))) := by
        intro ii hii
        subst hii
        have h := insert_any B g cap wr.heap.size (L.length + 1) (L ++ [t.tag] ++ t.body ++ layAll t.kids) ln _ (MD.out.alloc (.cells (ln.map (Value.int .u8)).toArray 5)).buf (Blk.new _ _ _) hgr hlp (by rw [HQ.out]; omega) (by rw [HQ.out]; exact HRO.out)
        rw [HQ.out, EQ.out] at h
        exact h
      have GW := Lib.hid (grown_trans MD.out.grown (World.grownBy_alloc wr (.cells (ln.map (Value.int .u8)).toArray 5) (some g)))
      clear EQ EL2 HRO HQ MD hgr hlp
      go_wp2_with fail
      refine (CI.out _ (by omega)).mono ?_
      rintro e w6 ⟨rfl, hb6, hg6⟩
      have G6 := Lib.hid (grown_trans GW.out hg6)
      have B6 := Lib.hid hb6
      clear hb6 hg6 GW CI
      go_wp2_with fail
      go_ret
      exact ⟨by rw [List.length_append]; rfl, B6.out, G6.out⟩

end Go.Proofs.Ytefdfdnfpacfjaa
