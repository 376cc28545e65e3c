/-
  Merged texts: TApp, TTake, Head, TLen, Elem, ElemIn.
-/
import Derived.Test.YtgmefdmeeihgoaaGreatDoorGrF
import Derived.Test.YtgmefdmeeihgoaaGreatDoorGrB
import Derived.Test.YtgmefdmeeihgoaaGreatDoorGrD
import Derived.Test.YtgmefdmeeihgoaaGreatDoorGrA
import Derived.Deep.QuietTactic
import Derived.BigQuiet
import Derived.Laws.ResultCell
import Derived.Deep.LoopGhost
namespace Go.Proofs.YtgmefdmeeihgoaaGreatDoor
open Go.RowKit
theorem insert_any (B g cap b i : Nat) (L zs : List Int) (w : World) (hbuf : Buf B w g cap L) (hv : Blk w b 5 (zs.map (Value.int .u8)).toArray) (hbg : b ≠ g) (hz : 0 < zs.length) (hi : i ≤ L.length) (hroom : L.length + zs.length ≤ cap) :
    Calls Tryz.prog 103 #[.slice (some ⟨g, 0, none⟩) L.length cap, .int .i64 (i : Int), .slice (some ⟨b, 0, none⟩) zs.length zs.length] w (GivesIns B g cap (L.take i ++ (zs ++ L.drop i)) w) := by
  rcases Nat.lt_or_ge i L.length with h | h
  · exact insert_mid B g cap b i L zs w hbuf hv hbg hz h hroom
  · obtain rfl : i = L.length := by omega
    have := insert_end B g cap b L zs w hbuf hv hz hroom
    simpa using this
theorem tlength_is (z : Int) (w : World) (h0 : 0 ≤ z) (h1 : z ≤ 1000000) : Calls Tryz.prog 104 #[.int .i64 z] w fun e w' => e = .returned (.slice (some ⟨w.heap.size, 0, none⟩) (lenB z).length (lenB z).length) ∧ w' = w.alloc (.cells ((lenB z).map (Value.int .u8)).toArray 5) := by
  by_cases c1 : z < 128
  · have F : Hid (lenB z = [z]) := by simp [lenB, c1, Hid]
    rw [F.out]
    go_enter Tryz.func104, Tryz.ntmps104
    go_wp2_with fail
    go_ret
    exact ⟨rfl, rfl⟩
  by_cases c2 : z < 256
  · have F : Hid (lenB z = [129, z]) := by rw [lenB, if_neg (by omega), if_pos c2]; exact Lib.hid rfl
    rw [F.out]
    go_enter Tryz.func104, Tryz.ntmps104
    go_wp2_with fail
    go_ret
    exact ⟨rfl, rfl⟩
  · have F : Hid (lenB z = [130, z / 256 % 256, z % 256]) := by simp [lenB, c1, c2, Hid]
    rw [F.out]
    go_enter Tryz.func104, Tryz.ntmps104
    go_wp2_with fail
    go_ret
    exact ⟨rfl, rfl⟩
theorem grown_trans {w a b : World} {r : Option Nat} (h : w.grownBy a r) (k : a.grownBy b r) : w.grownBy b r :=
  ⟨k.os.trans h.os, k.tape.trans h.tape, k.output.trans h.output, Nat.le_trans h.size k.size, fun i hi hne => (k.block i (Nat.lt_of_lt_of_le hi h.size) hne).trans (h.block i hi hne)⟩
theorem grown_below {w a : World} {g : Nat} (h : w.grownBy a (some g)) (B : Nat) (hB : B ≤ g) (hs : B ≤ w.heap.size) : Below B w a :=
  (Below.refl B w).grown h hs (fun k hk => by injection hk with hk; omega)
theorem InP.grown {w w' : World} {g : Nat} (h : w.grownBy w' (some g)) (t : T) {v : Value} (k : t.InP (· ≠ g) w v) : t.InP (· ≠ g) w' v :=
  T.InP.keep (fun b hb hp => ⟨hp, h.block b hb (fun e => hp (by injection e))⟩) h.size t k
theorem Blk.grown {w w' : World} {g b : Nat} {ty : TypeId} {cs : Array Value} (h : Blk w b ty cs) (hg : w.grownBy w' (some g)) (hb : b ≠ g) : Blk w' b ty cs :=
  (hg.block b h.lt (fun e => hb (by injection e))).trans h
theorem T.In.inP {w : World} (t : T) : ∀ {v : Value}, t.In w v → t.InP (· < w.heap.size) w v := by
  refine T.all (p := fun t => ∀ {v : Value}, t.In w v → t.InP (· < w.heap.size) w v) ?_ t
  intro tag body kids ih v h
  unfold T.In at h
  unfold T.InP
  obtain ⟨A, n, c, K, m, d, rfl, hw, hr, hn, hc, hm, hm', hk⟩ := h
  refine ⟨A, n, c, K, m, d, rfl, hw, hr, hn, hc, hm, hm', fun h0 => ?_, fun h0 => ?_⟩
  · obtain ⟨b, off, e, hb, _⟩ := hr.2.2 h0
    exact ⟨b, off, e, hb⟩
  · obtain ⟨b, off, e, hlt, ha⟩ := hk h0
    refine ⟨b, off, e, hlt, hlt, T.InPAll.of fun i hi => ?_⟩
    obtain ⟨v0, v1, v2, h0, h1, h2, h3⟩ := ha.at i hi
    exact ⟨v0, v1, v2, h0, h1, h2, ih _ (List.getElem_mem hi) h3⟩
theorem T.InP.kid {P : Nat → Prop} {w : World} {t : T} {A : Option Addr} {n c : Nat} {K : Option Addr} {m d : Nat} (h : t.InP P w (.agg #[.int .i64 t.tag, .slice A n c, .slice K m d])) (i : Nat) (hi : i < m) :
    ∃ (k : T) (b off : Nat) (z : Int) (A' : Option Addr) (n' c' : Nat) (K' : Option Addr) (m' d' : Nat), t.kids[i]? = some k ∧ K = some ⟨b, off, none⟩ ∧
    w.cell? ⟨b, off + i * 3, none⟩ = some (.int .i64 z) ∧ w.cell? ⟨b, off + i * 3 + 1, none⟩ = some (.slice A' n' c') ∧ w.cell? ⟨b, off + i * 3 + 2, none⟩ = some (.slice K' m' d') ∧ k.InP P w (.agg #[.int .i64 z, .slice A' n' c', .slice K' m' d']) := by
  obtain ⟨tag, body, kids⟩ := t
  unfold T.InP at h
  obtain ⟨A1, n1, c1, K1, m1, d1, e, _, _, _, _, hm, _, _, hk⟩ := h
  simp only [Value.agg.injEq] at e
  have e' := congrArg Array.toList e
  simp only [List.cons.injEq, and_true, Value.slice.injEq] at e'
  obtain ⟨_, ⟨rfl, rfl, rfl⟩, rfl, rfl, rfl⟩ := e'
  obtain ⟨b, off, rfl, hb, _, ha⟩ := hk (by omega)
  have hi' : i < kids.length := by omega
  obtain ⟨v0, v1, v2, h0, h1, h2, h3⟩ := ha.at i hi'
  obtain ⟨z, A', n', c', K', m', d', rfl, rfl, rfl⟩ := (T.InP.in _ h3).form
  exact ⟨kids[i], b, off, z, A', n', c', K', m', d', List.getElem?_eq_getElem hi', rfl, h0, h1, h2, h3⟩
theorem buf_append {ops : Array Oper} {rest : List Oper} {o : Oper} {a : Act} {Q : Exit → Act → World → Prop} {w : World} {B g cap : Nat} {L zs : List Int} {A : Option Addr} {m c : Nat} (hgd : o.guard = none) (s x : Operand)
    (hop : o.op = .call { callee := .builtin .append, args := #[s, x], argTypes := #[22, 22] }) (n : Nat) (hs : a.eval s = .slice (some ⟨g, 0, none⟩) n cap) (hln : L.length = n) (hbuf : Buf B w g cap L) (hx : a.eval x = .slice A m c) (hr : Row w A m zs) (hnil : A = none → c = 0) (hl : n + m ≤ cap)
    (h : ∀ w', Buf B w' g cap (L ++ zs) → w.grownBy w' (some g) → wpList Tryz.prog ops Q rest (a.put o.dst (.slice (some ⟨g, 0, none⟩) (n + m) cap)) w') : wpList Tryz.prog ops Q (o :: rest) a w := by
  subst hln
  obtain ⟨i0, hi5, hz0, hz1, hz2⟩ := info_parts Tryz.infoByte
  cases A with
  | none =>
    obtain rfl := hnil rfl
    have hm : m = 0 := by
      rcases Nat.eq_zero_or_pos m with h0 | h0
      · exact h0
      · obtain ⟨_, _, e, _⟩ := hr.2.2 h0
        cases e
    subst hm
    obtain rfl : zs = [] := List.eq_nil_of_length_eq_zero hr.1
    refine wpList_append_own_none hgd s x 22 hop B 5 i0 1 Tryz.underlying22 hi5 _ L.length _ hs hbuf hx ?_
    have := h w (by simpa using hbuf) (World.grownBy.refl _ _)
    exact this
  | some ad =>
    refine wpList_append_own_spare _ hgd s x 22 hop B 5 i0 1 Tryz.underlying22 hi5 hz1 g L.length cap (L.map (Value.int .u8)) hs hbuf ad m c (zs.map (Value.int .u8)) hx (by rw [List.length_map, hr.1, Nat.mul_one]) hr.cells ?_ hl ?_
    · intro u hu
      obtain ⟨_, _, rfl⟩ := List.mem_map.1 hu
      rfl
    · intro w' hown hg
      refine h w' ?_ hg
      unfold Buf
      rw [List.length_append, hr.1, List.map_append]
      exact hown
theorem T.In.row {w : World} {t : T} {z : Int} {A : Option Addr} {n c : Nat} {K : Option Addr} {m d : Nat} (h : t.In w (.agg #[.int .i64 z, .slice A n c, .slice K m d])) : Row w A n t.body := by
  obtain ⟨A1, n1, c1, K1, m1, d1, e, _, hr, _⟩ := h.open
  simp only [Value.agg.injEq] at e
  have e' := congrArg Array.toList e
  simp only [List.cons.injEq, and_true, Value.slice.injEq] at e'
  obtain ⟨_, ⟨rfl, rfl, rfl⟩, _⟩ := e'
  exact hr
theorem layAll_app (xs ys : List T) : layAll (xs ++ ys) = layAll xs ++ layAll ys := by
  induction xs with
  | nil => rw [layAll]; rfl
  | cons x r ih => rw [List.cons_append, layAll, layAll, ih, List.append_assoc]
theorem layAll_take_le (ks : List T) (k : Nat) : (layAll (ks.take k)).length ≤ (layAll ks).length := by
  conv => rhs; rw [← List.take_append_drop k ks, layAll_app, List.length_append]
  omega
structure AppMid (w wr : World) (B g cap : Nat) (t : T) (A : Option Addr) (n c : Nat) (K : Option Addr) (m d : Nat) (LL : List Int) : Prop where
  buf : Buf B wr g cap LL
  grown : w.grownBy wr (some g)
  box : Blk wr w.heap.size 28 #[.int .i64 t.tag, .slice A n c, .slice K m d]
  has : t.InP (· ≠ g) wr (.agg #[.int .i64 t.tag, .slice A n c, .slice K m d])
theorem AppMid.start {w : World} {B g cap : Nat} {t : T} {A : Option Addr} {n c : Nat} {K : Option Addr} {m d : Nat} {L : List Int} (h : t.InP (· ≠ g) w (.agg #[.int .i64 t.tag, .slice A n c, .slice K m d])) (hb : Buf B w g cap L) : AppMid w (boxW w t.tag A n c K m d) B g cap t A n c K m d L :=
  ⟨hb.kept (Below.heap_alloc w _ g (by obtain ⟨cur, _, h2, _⟩ := hb.open; exact h2.lt)), World.grownBy_alloc _ _ _, Blk.new _ _ _, InP.grown (World.grownBy_alloc _ _ _) _ h⟩
theorem AppMid.alloc {w wr : World} {B g cap : Nat} {t : T} {A : Option Addr} {n c : Nat} {K : Option Addr} {m d : Nat} {L : List Int} (h : AppMid w wr B g cap t A n c K m d L) (o : Obj) : AppMid w (wr.alloc o) B g cap t A n c K m d L :=
  ⟨h.buf.kept (Below.heap_alloc wr o g (by obtain ⟨cur, _, h2, _⟩ := h.buf.open; exact h2.lt)), grown_trans h.grown (World.grownBy_alloc _ _ _), h.box.alloc o, InP.grown (World.grownBy_alloc _ _ _) _ h.has⟩
theorem AppMid.app {w wr w' : World} {B g cap : Nat} {t : T} {A : Option Addr} {n c : Nat} {K : Option Addr} {m d : Nat} {L L' : List Int} (h : AppMid w wr B g cap t A n c K m d L) (hw : w.heap.size ≠ g) (hb : Buf B w' g cap L') (hg : wr.grownBy w' (some g)) : AppMid w w' B g cap t A n c K m d L' :=
  ⟨hb, grown_trans h.grown hg, h.box.grown hg hw, InP.grown hg _ h.has⟩
set_option maxHeartbeats 4000000 in
theorem app_any (t : T) : ∀ (v : Value) (B g cap : Nat) (L : List Int) (w : World), t.InP (· ≠ g) w v → Buf B w g cap L → rightT t = true → wt t < 30000 → L.length + (layT t).length ≤ cap → cap ≤ 1000000 →
    Calls Tryz.prog 67 #[.slice (some ⟨g, 0, none⟩) L.length cap, v] w (GivesIns B g cap (L ++ layT t) w) := by
  refine T.each (p := fun t => ∀ (v : Value) (B g cap : Nat) (L : List Int) (w : World), t.InP (· ≠ g) w v → Buf B w g cap L → rightT t = true → wt t < 30000 → L.length + (layT t).length ≤ cap → cap ≤ 1000000 →
    Calls Tryz.prog 67 #[.slice (some ⟨g, 0, none⟩) L.length cap, v] w (GivesIns B g cap (L ++ layT t) w)) ?_ t
  clear t
  intro t ih v B g cap L w hin hbuf hrt hwt hroom hcap
  obtain ⟨A, n, c, K, m, d, rfl, hw, hr, hn, hc, hm, hm', _⟩ := (T.InP.in _ hin).open
  have hgw : w.heap.size ≠ g := by
    obtain ⟨cur, _, h2, _⟩ := hbuf.open
    have := h2.lt
    omega
  have M0 := Lib.hid (AppMid.start hin hbuf)
  unfold boxW at M0
  have IH := Lib.hid ih
  have HM := Lib.hid hm
  have HR := Lib.hid hr
  have HC := Lib.hid hc
  have RP := Lib.hid (right_parts hrt)
  have EL := Lib.hid (layT_eq t)
  have WE := Lib.hid (wt_eq t)
  have htb := tag_byte (right_parts hrt).1
  have wx : IntKind.u8.wrap t.tag = t.tag := IntWalk.u8_in _ (by omega)
  have hll : (layT t).length = 1 + ((lenB ((t.body.length + (layAll t.kids).length : Nat) : Int)).length + (n + (layAll t.kids).length)) := by
    rw [layT_eq, List.length_cons, List.length_append, List.length_append, hr.1]
    omega
  have M1 := Lib.hid (M0.out.alloc (.cells #[.int .u8 t.tag] 5))
  have R1 : Hid (Row ((w.alloc (.cells #[.int .i64 t.tag, .slice A n c, .slice K m d] 28)).alloc (.cells #[.int .u8 t.tag] 5)) (some ⟨w.heap.size + 1, 0, none⟩) 1 [t.tag]) := by
    have h := row_const (w.alloc (.cells #[.int .i64 t.tag, .slice A n c, .slice K m d] 28)) [t.tag] (0, 0) (by intro x hx; have : x = t.tag := (by simpa using hx); omega)
    simpa [Hid] using h
  clear hin ih hr hc hm hbuf hrt M0
  unfold maxLen at hn hm'
  go_enter Tryz.func67, Tryz.ntmps67
  go_wp2_with (at_builtin; first
    | (refine buf_append (B := B) (L := L) (zs := [t.tag]) rfl (.tmp 8) (.tmp 12) rfl L.length rfl rfl M1.out.buf rfl R1.out (fun e => by cases e) (by omega) ?_; intro w1 hb1 hg1; have M2 := Lib.hid (M1.out.app hgw hb1 hg1); obtain ⟨p0, p1, p2⟩ := (show _ ∧ _ ∧ _ from ⟨M2.out.box.cell 0, M2.out.box.cell 1, M2.out.box.cell 2⟩); clear hb1 hg1 M1 R1)
    | (go_must (refine buf_append (B := B) (L := L ++ [t.tag]) (zs := t.body) rfl (.tmp 16) (.tmp 18) rfl (L.length + 1) rfl (by simp) M2.out.buf rfl (T.InP.in _ M2.out.has).row (fun e => HC.out e) (by omega) ?_; intro w2 hb2 hg2; have M3 := Lib.hid (M2.out.app hgw hb2 hg2); clear hb2 hg2 M2 p0 p1 p2; obtain ⟨p0, p1, p2⟩ := (show _ ∧ _ ∧ _ from ⟨M3.out.box.cell 0, M3.out.box.cell 1, M3.out.box.cell 2⟩))))
  go_loopw [0, 23] (fun V i wr => ∃ (k q : Nat), k ≤ m ∧ i = .int .i64 (k : Int) ∧ V = .slice (some ⟨g, 0, none⟩) q cap ∧ (L ++ [t.tag] ++ t.body ++ layAll (t.kids.take k)).length = q ∧ AppMid w wr B g cap t A n c K m d (L ++ [t.tag] ++ t.body ++ layAll (t.kids.take k))) (fun _ i _ => m - (intOf i).toNat)
  case atStart => exact ⟨0, _, by omega, rfl, rfl, by simp [layAll, HR.out.1]; omega, by simpa [layAll] using M3.out⟩
  case round =>
    obtain ⟨k, q, hk, rfl, rfl, hq, hmid⟩ := hrel
    have MD := Lib.hid hmid
    have HQ := Lib.hid hq
    have hqv : q = L.length + 1 + n + (layAll (t.kids.take k)).length := by
      rw [← hq]
      simp only [List.length_append, HR.out.1, List.length_cons, List.length_nil]
    have hkl := layAll_take_le t.kids k
    clear hmid hq M3
    by_cases hlt : k < m
    · obtain ⟨x, bb, off, zz, A', n', c', K', m', d', hx, rfl, c0, c1, c2, hxin⟩ := MD.out.has.kid k hlt
      have hxm := List.mem_of_getElem? hx
      have hwx := wt_kid hxm
      have hxr := RP.out.2.2.2 x hxm
      have hk1 := layAll_take_le t.kids (k + 1)
      rw [layAll_take hx, List.length_append] at hk1
      have M4 := Lib.hid (MD.out.alloc (.cells #[.int .i64 zz, .slice A' n' c', .slice K' m' d'] 28))
      have CI := Lib.hid (IH.out x hxm _ B g cap _ (boxW wr zz A' n' c' K' m' d') (InP.grown (World.grownBy_alloc _ _ _) _ hxin) M4.out.buf hxr (by omega) (by rw [HQ.out]; omega) hcap)
      rw [HQ.out] at CI
      have LT : Hid (L ++ [t.tag] ++ t.body ++ layAll (t.kids.take k) ++ layT x = L ++ [t.tag] ++ t.body ++ layAll (t.kids.take (k + 1))) := by
        rw [layAll_take hx, ← List.append_assoc]
        exact Lib.hid rfl
      rw [LT.out] at CI
      unfold boxW at CI
      clear hx hxin hxm hxr LT hqv hkl hk1 HQ hll hwx WE
      go_wp2_with fail
      refine CI.out.mono ?_
      rintro e w5 ⟨rfl, hb5, hg5⟩
      have M5 := Lib.hid (M4.out.app hgw hb5 hg5)
      clear hb5 hg5 M4 CI
      go_wp2_with fail
      go_roundw
      case rel => exact ⟨k + 1, _, by omega, by go_num, rfl, by simp only [List.length_append, List.length_cons, List.length_nil]; omega, M5.out⟩
      case measure => simp [intOf]; omega
    · have hall : t.kids.take k = t.kids := List.take_of_length_le (by rw [HM.out]; omega)
      rw [hall] at MD HQ hqv
      have hz0 : L.length + 1 ≤ q := by omega
      have hq5 : q ≤ 1000000 := by omega
      have HQV := Lib.hid hqv
      have HLL := Lib.hid hll
      have HRM := Lib.hid hroom
      clear hall hqv hkl hll WE hroom
      go_wp2_with fail
      refine (tlength_is _ _ (by omega) (by omega)).mono ?_
      rintro e w5 ⟨rfl, rfl⟩
      have EZ : ((q : Int) - ((L.length : Int) + 1)) = ((t.body.length + (layAll t.kids).length : Nat) : Int) := by
        have h1 := HQV.out
        have h2 := HR.out.1
        omega
      have EL2 : Hid (layT t = [t.tag] ++ (lenB ((q : Int) - ((L.length : Int) + 1)) ++ (t.body ++ layAll t.kids))) := by
        have h := EL.out
        rw [← EZ] at h
        rw [List.singleton_append]
        exact h
      have HRO : Hid (q + (lenB ((q : Int) - ((L.length : Int) + 1))).length ≤ cap) := by
        have h1 := HRM.out
        have h2 := HLL.out
        have h3 := HQV.out
        have h4 : (lenB ((q : Int) - ((L.length : Int) + 1))).length = (lenB ((t.body.length + (layAll t.kids).length : Nat) : Int)).length := by rw [EZ]
        generalize (lenB ((q : Int) - ((L.length : Int) + 1))).length = x4 at h4 ⊢
        generalize (lenB ((t.body.length + (layAll t.kids).length : Nat) : Int)).length = y4 at h2 h4
        show q + x4 ≤ cap
        omega
      have hlp : 0 < (lenB ((q : Int) - ((L.length : Int) + 1))).length := by
        have h1 := lenB_length ((q : Int) - ((L.length : Int) + 1))
        have h2 := lenLen_range ((q : Int) - ((L.length : Int) + 1))
        omega
      clear EZ EL HRM HLL HQV
      generalize lenB ((q : Int) - ((L.length : Int) + 1)) = ln at EL2 HRO hlp
      have hgr : wr.heap.size ≠ g := by
        obtain ⟨cur, _, h2, _⟩ := MD.out.buf.open
        have := h2.lt
        omega
      have EQ : Hid ((L ++ [t.tag] ++ t.body ++ layAll t.kids).take (L.length + 1) ++ (ln ++ (L ++ [t.tag] ++ t.body ++ layAll t.kids).drop (L.length + 1)) = L ++ layT t) := by
        rw [EL2.out, List.append_assoc (L ++ [t.tag]), List.take_left' (by simp), List.drop_left' (by simp), List.append_assoc]
        exact Lib.hid rfl
      have CI : Hid (∀ ii : Int, ii = ((L.length + 1 : Nat) : Int) → Calls Tryz.prog 103 #[.slice (some ⟨g, 0, none⟩) q cap, .int .i64 ii, .slice (some ⟨wr.heap.size, 0, none⟩) ln.length ln.length] (wr.alloc (.cells (ln.map (Value.int .u8)).toArray 5)) (GivesIns B g cap (L ++ layT t) (wr.alloc (.cells (ln.map (Value.int .u8)).toArray 5)))) := by
        intro ii hii
        subst hii
        have h := insert_any B g cap wr.heap.size (L.length + 1) (L ++ [t.tag] ++ t.body ++ layAll t.kids) ln _ (MD.out.alloc (.cells (ln.map (Value.int .u8)).toArray 5)).buf (Blk.new _ _ _) hgr hlp (by rw [HQ.out]; omega) (by rw [HQ.out]; exact HRO.out)
        rw [HQ.out, EQ.out] at h
        exact h
      have GW := Lib.hid (grown_trans MD.out.grown (World.grownBy_alloc wr (.cells (ln.map (Value.int .u8)).toArray 5) (some g)))
      clear EQ EL2 HRO HQ MD hgr hlp
      go_wp2_with fail
      refine (CI.out _ (by omega)).mono ?_
      rintro e w6 ⟨rfl, hb6, hg6⟩
      have G6 := Lib.hid (grown_trans GW.out hg6)
      have B6 := Lib.hid hb6
      clear hb6 hg6 GW CI
      go_wp2_with fail
      go_ret
      exact ⟨by rw [List.length_append]; rfl, B6.out, G6.out⟩
end Go.Proofs.YtgmefdmeeihgoaaGreatDoor
namespace Go.Proofs.YtgmefdmeeihgoaaGreatDoor
open Go.RowKit
set_option linter.unusedVariables false
def errP (z : Int) : List PanicEntry := [{ v := .iface 32 (.int .i64 z), recovered := false }]
def norm (lvl : Nat) (z : Int) : Int := if 0 < lvl ∧ z = 3 then 2 else z
def Rest (w : World) (gs lvl Bd : Nat) (zs : List Int) : Prop :=
  ∃ (A : Option Addr) (c : Nat), Blk w gs 112 #[.slice A zs.length c, .int .i64 (lvl : Int)] ∧ Row w A zs.length zs ∧ zs.length ≤ c ∧ (0 < zs.length → ∃ b off, A = some ⟨b, off, none⟩ ∧ b < Bd) ∧ Bd ≤ gs ∧ (A = none → c = 0)
theorem Rest.below {w w' : World} {gs lvl Bd : Nat} {zs : List Int} (h : Rest w gs lvl Bd zs) (hb : Below w.heap.size w w') : Rest w' gs lvl Bd zs := by
  obtain ⟨A, c, h1, h2, h3, h4, h5⟩ := h
  exact ⟨A, c, h1.below hb h1.lt, h2.below hb, h3, h4, h5⟩
theorem Rest.keep {w w' : World} {gs lvl Bd : Nat} {zs : List Int} (h : Rest w gs lvl Bd zs) (hs : w.heap.size ≤ w'.heap.size) (hk : ∀ b, b < w.heap.size → (b = gs ∨ b < Bd) → w'.heap[b]? = w.heap[b]?) : Rest w' gs lvl Bd zs := by
  obtain ⟨A, c, h1, h2, h3, h4, h5⟩ := h
  refine ⟨A, c, (hk gs h1.lt (.inl rfl)).trans h1, ⟨h2.1, h2.2.1, fun h0 => ?_⟩, h3, h4, h5⟩
  obtain ⟨b, off, e, hb, hcell⟩ := h2.2.2 h0
  obtain ⟨b', off', e', hb'⟩ := h4 h0
  rw [e] at e'
  obtain ⟨rfl, rfl⟩ : b = b' ∧ off = off' := by simpa using e'
  refine ⟨b, off, e, by omega, fun i hi => ?_⟩
  rw [← hcell i hi]
  simp only [World.cell?, hk b hb (.inr hb')]
theorem grown_set (w : World) (g j : Nat) (v : Value) : w.grownBy (w.setCell ⟨g, j, none⟩ v) (some g) :=
  ⟨rfl, rfl, rfl, by simp, fun k _ hk => heap_setCell_other w ⟨g, j, none⟩ k v (fun e => hk (by rw [e]))⟩
set_option maxHeartbeats 400000 in
theorem tooShort_any (gs lvl : Nat) (v : Value) (w : World) (hl : lvl ≤ 100) (hb : Blk w gs 112 #[v, .int .i64 (lvl : Int)]) : Calls Tryz.prog 131 #[.pointer (some ⟨gs, 0, none⟩)] w fun e w' => e = .returned (.int .i64 (norm lvl 3)) ∧ w = w' := by
  have c1 := hb.cell 1
  simp only [List.getElem?_toArray, List.getElem?_cons_succ, List.getElem?_cons_zero] at c1
  clear hb
  by_cases h0 : 0 < lvl
  · have F : Hid (norm lvl 3 = 2) := by simp [norm, h0, Hid]
    go_enter Tryz.func131, Tryz.ntmps131
    go_wp2_with fail
    go_ret
    exact ⟨ret_int F.out.symm, rfl⟩
  · have F : Hid (norm lvl 3 = 3) := by simp [norm, h0, Hid]
    go_enter Tryz.func131, Tryz.ntmps131
    go_wp2_with fail
    go_ret
    exact ⟨ret_int F.out.symm, rfl⟩
def GivesTake (gs lvl Bd k : Nat) (zs : List Int) (w : World) (e : Ending) (w' : World) : Prop :=
  ∃ (A : Option Addr) (c : Nat), e = .returned (.slice A k c) ∧ Row w' A k (zs.take k) ∧ k ≤ c ∧ (0 < k → ∃ b off, A = some ⟨b, off, none⟩ ∧ b < Bd) ∧ (A = none → c = 0) ∧ Rest w' gs lvl Bd (zs.drop k) ∧ w.grownBy w' (some gs)
set_option maxHeartbeats 400000 in
theorem take_short (gs lvl Bd k : Nat) (zs : List Int) (w : World) (hl : lvl ≤ 100) (hr : Rest w gs lvl Bd zs) (hn : zs.length ≤ 30000) (hk : zs.length < k) (hk2 : k ≤ 100000) :
    Calls Tryz.prog 121 #[.pointer (some ⟨gs, 0, none⟩), .int .i64 (k : Int)] w fun e w' => e = .panicked (errP (norm lvl 3)) ∧ w = w' := by
  obtain ⟨A, c, hb, hrow, hc, _⟩ := hr
  have c0 := hb.cell 0
  simp only [List.getElem?_toArray, List.getElem?_cons_zero] at c0
  have HB := Lib.hid hb
  clear hb hrow
  go_enter Tryz.func121, Tryz.ntmps121
  go_wp2_with fail
  refine (tooShort_any gs lvl _ w hl HB.out).mono ?_
  rintro e w2 ⟨rfl, rfl⟩
  go_wp2_with fail
  exact ⟨rfl, rfl, rfl⟩
theorem gives_take {gs lvl Bd k c : Nat} {zs : List Int} {w : World} {A : Option Addr} (hb : Blk w gs 112 #[.slice A zs.length c, .int .i64 (lvl : Int)]) (hrow : Row w A zs.length zs) (hc : zs.length ≤ c) (hne : 0 < zs.length → ∃ b off, A = some ⟨b, off, none⟩ ∧ b < Bd) (hB : Bd ≤ gs) (hA : A = none → c = 0) (hk : k ≤ zs.length) :
    GivesTake gs lvl Bd k zs w (.returned (.slice A k c)) (w.setCell ⟨gs, 0, none⟩ (.slice (if c = k then A else A.map (·.add k)) (zs.length - k) (c - k))) := by
  have hne' : 0 < zs.length → ∃ b off, A = some ⟨b, off, none⟩ ∧ b ≠ gs := fun h => by
    obtain ⟨b, off, e, hb⟩ := hne h
    exact ⟨b, off, e, by omega⟩
  refine ⟨A, c, rfl, (hrow.first k hk).set gs 0 _ (fun h => hne' (by omega)), by omega, fun h => hne (by omega), hA, ⟨_, c - k, by rw [List.length_drop]; exact hb.set 0 _, ?_, by rw [List.length_drop]; omega, ?_, hB, ?_⟩, grown_set _ _ _ _⟩
  · rw [List.length_drop]
    refine (hrow.rest k c hk hc).set gs 0 _ (fun h => ?_)
    obtain ⟨b, off, e, hb⟩ := hne' (by omega)
    rw [if_neg (by omega), e]
    exact ⟨b, off + k, by rw [Option.map_some, Addr.add_lit], hb⟩
  · intro h
    rw [List.length_drop] at h
    obtain ⟨b, off, e, hb⟩ := hne (by omega)
    rw [if_neg (by omega), e]
    exact ⟨b, off + k, by rw [Option.map_some, Addr.add_lit], hb⟩
  · intro h
    have : A = none := by
      split at h
      · exact h
      · cases A with
        | none => rfl
        | some x => cases h
    rw [hA this]
    omega
set_option maxHeartbeats 800000 in
theorem take_ok (gs lvl Bd k : Nat) (zs : List Int) (w : World) (hr : Rest w gs lvl Bd zs) (hn : zs.length ≤ 30000) (hk : k ≤ zs.length) :
    Calls Tryz.prog 121 #[.pointer (some ⟨gs, 0, none⟩), .int .i64 (k : Int)] w (GivesTake gs lvl Bd k zs w) := by
  obtain ⟨A, c, hb, hrow, hc, hne, hB, hA⟩ := hr
  have c0 := hb.cell 0
  simp only [List.getElem?_toArray, List.getElem?_cons_zero] at c0
  have f0 := hb.free 0
  have HB := Lib.hid hb
  have HR := Lib.hid hrow
  have HN := Lib.hid hne
  have HA := Lib.hid hA
  clear hb hrow hne hA
  by_cases hck : c = k
  · have G := Lib.hid (gives_take (k := k) HB.out HR.out hc HN.out hB HA.out hk)
    rw [if_pos hck] at G
    subst hck
    rw [show zs.length - c = 0 by omega, Nat.sub_self] at G
    go_enter Tryz.func121, Tryz.ntmps121
    go_wp2_with fail
    go_ret
    exact G.out
  · have G := Lib.hid (gives_take (k := k) HB.out HR.out hc HN.out hB HA.out hk)
    rw [if_neg hck] at G
    go_enter Tryz.func121, Tryz.ntmps121
    go_wp2_with fail
    go_ret
    exact G.out
end Go.Proofs.YtgmefdmeeihgoaaGreatDoor
namespace Go.Proofs.YtgmefdmeeihgoaaGreatDoor
open Go.RowKit
def GivesHead (x : Except Int (Nat × Nat)) (k : Nat) (w : World) (e : Ending) (w' : World) : Prop :=
  match x with
  | .error z => e = .returned (.tuple #[.int .i64 0, .int .i64 0, .int .i64 z]) ∧ ∃ q, w' = w.drewN q
  | .ok (h, m) => e = .returned (.tuple #[.int .i64 ((k + h : Nat) : Int), .int .i64 (m : Int), .int .i64 0]) ∧ ∃ q, w' = w.drewN q
theorem gh_bad {x : Except Int (Nat × Nat)} {k q : Nat} {w : World} {z : Int} (h : x = .error z) : GivesHead x k w (.returned (.tuple #[.int .i64 0, .int .i64 0, .int .i64 z])) (w.drewN q) := by
  subst h
  exact ⟨rfl, q, rfl⟩
theorem gh_ok {x : Except Int (Nat × Nat)} {k q h m : Nat} {w : World} {a b : Int} (e : x = .ok (h, m)) (ha : a = ((k + h : Nat) : Int)) (hb : b = m) : GivesHead x k w (.returned (.tuple #[.int .i64 a, .int .i64 b, .int .i64 0])) (w.drewN q) := by
  subst e
  subst ha
  subst hb
  exact ⟨rfl, q, rfl⟩
set_option maxHeartbeats 4000000 in
set_option maxRecDepth 100000 in
theorem head_any (a : Option Addr) (n ca k : Nat) (zs : List Int) (w : World) (hr : Row w a n zs) (hn : n ≤ 30000) (hk : k ≤ n) :
    Calls Tryz.prog 98 #[.slice a n ca, .int .i64 (k : Int), .int .i64 (n : Int)] w (GivesHead (headL (zs.drop k)) k w) := by
  have hlen : (zs.drop k).length = n - k := by rw [List.length_drop, hr.1]
  by_cases h1 : k = n
  · have F : Hid (headL (zs.drop k) = .error 3) := by rw [headL, if_pos (by omega)]; exact Lib.hid rfl
    subst h1
    clear hlen
    go_enter Tryz.func98, Tryz.ntmps98
    go_wp2_with fail
    go_ret3
    exact gh_bad (q := 0) F.out
  obtain ⟨b, off, rfl, hb, hc⟩ := hr.2.2 (by omega)
  have c0 := hc k (by omega)
  have z0 := hr.byte k
  have e0 := at0_drop zs k 0
  rw [Nat.add_zero] at e0
  by_cases h2 : at0 zs k % 32 = 31
  · have F : Hid (headL (zs.drop k) = .error 2) := by rw [headL, if_neg (by omega), if_pos (by rw [e0]; exact h2)]; exact Lib.hid rfl
    clear hlen e0
    unfold at0 at h2
    generalize zs[k]?.getD 0 = x0 at c0 z0 h2
    have t2 : (x0 % 32 == 31) = true := by simpa using h2
    clear h2 hc
    go_enter Tryz.func98, Tryz.ntmps98
    go_wp2_with fail
    go_ret3
    exact gh_bad (q := 0) F.out
  have t2 : (zs[k]?.getD 0 % 32 == 31) = false := by unfold at0 at h2; simpa using h2
  by_cases h3 : k + 1 = n
  · have F : Hid (headL (zs.drop k) = .error 3) := by rw [headL, if_neg (by omega), if_neg (by rw [e0]; exact h2), if_pos (by omega)]; exact Lib.hid rfl
    clear hlen e0 h2
    generalize zs[k]?.getD 0 = x0 at c0 z0 t2
    subst h3
    clear hc
    go_enter Tryz.func98, Tryz.ntmps98
    go_wp2_with fail
    go_ret3
    exact gh_bad (q := 0) F.out
  have c1 := hc (k + 1) (by omega)
  have z1 := hr.byte (k + 1)
  have e1 := at0_drop zs k 1
  have H3 : ∀ r, headL (zs.drop k) = r ↔ (if at0 zs (k + 1) < 128 then .ok (2, (at0 zs (k + 1)).toNat)
    else if at0 zs (k + 1) = 129 then (if n - k < 3 then .error 3 else if at0 zs (k + 2) < 128 then .error 2 else .ok (3, (at0 zs (k + 2)).toNat))
    else if at0 zs (k + 1) = 130 then (if n - k < 4 then .error 3 else if at0 zs (k + 2) = 0 then .error 2 else .ok (4, (at0 zs (k + 2) * 256 + at0 zs (k + 3)).toNat))
    else .error 2) = r := by
    intro r
    rw [headL, if_neg (by omega), if_neg (by rw [e0]; exact h2), if_neg (by omega), e1, at0_drop, at0_drop, hlen]
  have HH := Lib.hid H3
  clear H3 e0 e1 h2 hlen
  by_cases h4 : at0 zs (k + 1) < 128
  · have F : Hid (headL (zs.drop k) = .ok (2, (at0 zs (k + 1)).toNat)) := (HH.out _).2 (if_pos h4)
    unfold at0 at F h4
    generalize zs[k]?.getD 0 = x0 at c0 z0 t2
    generalize zs[k + 1]?.getD 0 = x1 at c1 z1 h4 F
    clear hc
    go_enter Tryz.func98, Tryz.ntmps98
    go_wp2_with fail
    go_ret3
    exact gh_ok (q := 0) F.out (by omega) (by omega)
  have HH1 := Lib.hid (fun r => (HH.out r).trans (by rw [if_neg h4]))
  clear HH
  unfold at0 at HH1 h4
  generalize zs[k]?.getD 0 = x0 at c0 z0 t2
  generalize zs[k + 1]?.getD 0 = x1 at c1 z1 h4 HH1
  by_cases h5 : x1 = 129
  · subst h5
    have H5 := Lib.hid (fun r => (HH1.out r).trans (by rw [if_pos rfl]))
    clear HH1
    by_cases h6 : k + 2 = n
    · have F : Hid (headL (zs.drop k) = .error 3) := (H5.out _).2 (if_pos (by omega))
      subst h6
      clear hc H5
      go_enter Tryz.func98, Tryz.ntmps98
      go_wp2_with fail
      go_ret3
      exact gh_bad (q := 0) F.out
    have c2 := hc (k + 2) (by omega)
    have z2 := hr.byte (k + 2)
    have H6 := Lib.hid (fun r => (H5.out r).trans (by rw [if_neg (by omega)]))
    clear H5 hc
    generalize zs[k + 2]?.getD 0 = x2 at c2 z2 H6
    by_cases h7 : x2 < 128
    · have F : Hid (headL (zs.drop k) = .error 2) := (H6.out _).2 (if_pos h7)
      clear H6
      go_enter Tryz.func98, Tryz.ntmps98
      go_wp2_with fail
      go_ret3
      exact gh_bad (q := 0) F.out
    · have F : Hid (headL (zs.drop k) = .ok (3, x2.toNat)) := (H6.out _).2 (if_neg h7)
      have t7 : decide (x2 < 128) = false := by simpa using h7
      clear H6
      go_enter Tryz.func98, Tryz.ntmps98
      go_wp2_with fail
      have s2 : IntKind.i64.wrap ((k : Int) + 2) = (k : Int) + 2 := IntWalk.i64_in _ (by omega)
      have s3 : IntKind.i64.wrap ((k : Int) + 3) = (k : Int) + 3 := IntWalk.i64_in _ (by omega)
      have n2 : ((k : Int) + 2).toNat = k + 2 := by omega
      have p2 : 0 ≤ (k : Int) + 2 := by omega
      have q2 : (k : Int) + 2 < (n : Int) := by omega
      go_quiet (fail)
      clear s2 s3 n2
      go_wp2_with fail
      go_ret3
      exact gh_ok F.out (by omega) (by omega)
  by_cases h8 : x1 = 130
  · subst h8
    have H5 := Lib.hid (fun r => (HH1.out r).trans (by rw [if_neg h5, if_pos rfl]))
    clear HH1
    by_cases h6 : n - k < 4
    · have F : Hid (headL (zs.drop k) = .error 3) := (H5.out _).2 (if_pos h6)
      have h6' : n ≤ k + 3 := by omega
      clear hc H5 h6
      go_enter Tryz.func98, Tryz.ntmps98
      go_wp2_with fail
      go_ret3
      exact gh_bad (q := 0) F.out
    have c2 := hc (k + 2) (by omega)
    have z2 := hr.byte (k + 2)
    have c3 := hc (k + 3) (by omega)
    have z3 := hr.byte (k + 3)
    have H6 := Lib.hid (fun r => (H5.out r).trans (by rw [if_neg h6]))
    clear H5 hc
    generalize zs[k + 2]?.getD 0 = x2 at c2 z2 H6
    generalize zs[k + 3]?.getD 0 = x3 at c3 z3 H6
    by_cases h7 : x2 = 0
    · have F : Hid (headL (zs.drop k) = .error 2) := (H6.out _).2 (if_pos h7)
      have t7 : (x2 == 0) = true := by simpa using h7
      clear H6 h7
      go_enter Tryz.func98, Tryz.ntmps98
      go_wp2_with fail
      go_ret3
      exact gh_bad (q := 0) F.out
    · have F : Hid (headL (zs.drop k) = .ok (4, (x2 * 256 + x3).toNat)) := (H6.out _).2 (if_neg h7)
      have t7 : (x2 == 0) = false := by simpa using h7
      clear H6 h7
      go_enter Tryz.func98, Tryz.ntmps98
      go_wp2_with fail
      have s2 : IntKind.i64.wrap ((k : Int) + 2) = (k : Int) + 2 := IntWalk.i64_in _ (by omega)
      have s3 : IntKind.i64.wrap ((k : Int) + 3) = (k : Int) + 3 := IntWalk.i64_in _ (by omega)
      have s4 : IntKind.i64.wrap ((k : Int) + 4) = (k : Int) + 4 := IntWalk.i64_in _ (by omega)
      have s5 : IntKind.i64.wrap (x2 * 256) = x2 * 256 := IntWalk.i64_in _ (by omega)
      have s6 : IntKind.i64.wrap (x2 * 256 + x3) = x2 * 256 + x3 := IntWalk.i64_in _ (by omega)
      have n2 : ((k : Int) + 2).toNat = k + 2 := by omega
      have n3 : ((k : Int) + 3).toNat = k + 3 := by omega
      have p2 : 0 ≤ (k : Int) + 2 := by omega
      have q2 : (k : Int) + 2 < (n : Int) := by omega
      have p3 : 0 ≤ (k : Int) + 3 := by omega
      have q3 : (k : Int) + 3 < (n : Int) := by omega
      go_quiet (fail)
      clear s2 s3 s4 s5 s6 n2 n3
      go_wp2_with fail
      go_ret3
      exact gh_ok F.out (by omega) (by omega)
  · have F : Hid (headL (zs.drop k) = .error 2) := (HH1.out _).2 (by rw [if_neg h5, if_neg h8])
    have t5 : (x1 != 129) = true := by simpa using h5
    have t8 : (x1 != 130) = true := by simpa using h8
    clear HH1 h5 h8 hc
    go_enter Tryz.func98, Tryz.ntmps98
    go_wp2_with fail
    go_ret3
    exact gh_bad (q := 0) F.out
end Go.Proofs.YtgmefdmeeihgoaaGreatDoor
namespace Go.Proofs.YtgmefdmeeihgoaaGreatDoor
open Go.RowKit
set_option linter.unusedVariables false
def lenL (l : List Int) : Except Int (Nat × Nat) :=
  if l.length < 1 then .error 3
  else if at0 l 0 < 128 then .ok (1, (at0 l 0).toNat)
  else if at0 l 0 = 129 then (if l.length < 2 then .error 3 else if at0 l 1 < 128 then .error 2 else .ok (2, (at0 l 1).toNat))
  else if at0 l 0 = 130 then (if l.length < 3 then .error 3 else if at0 l 1 = 0 then .error 2 else .ok (3, (at0 l 1 * 256 + at0 l 2).toNat))
  else .error 2
theorem head_len (l : List Int) : headL l = if l.length < 1 then .error 3 else if at0 l 0 % 32 = 31 then .error 2 else (match lenL (l.drop 1) with | .error z => .error z | .ok (h, m) => .ok (h + 1, m)) := by
  have e0 : at0 (l.drop 1) 0 = at0 l 1 := at0_drop l 1 0
  have e1 : at0 (l.drop 1) 1 = at0 l 2 := at0_drop l 1 1
  have e2 : at0 (l.drop 1) 2 = at0 l 3 := at0_drop l 1 2
  have el : (l.drop 1).length = l.length - 1 := List.length_drop
  unfold headL lenL
  rw [e0, e1, e2, el]
  by_cases h1 : l.length < 1
  · rw [if_pos h1, if_pos h1]
  rw [if_neg h1, if_neg h1]
  by_cases h2 : at0 l 0 % 32 = 31
  · rw [if_pos h2, if_pos h2]
  rw [if_neg h2, if_neg h2]
  by_cases h3 : l.length < 2
  · have h3' : l.length - 1 < 1 := by omega
    rw [if_pos h3, if_pos h3']
  have h3' : ¬ l.length - 1 < 1 := by omega
  rw [if_neg h3, if_neg h3']
  by_cases h4 : at0 l 1 < 128
  · rw [if_pos h4, if_pos h4]
  rw [if_neg h4, if_neg h4]
  by_cases h5 : at0 l 1 = 129
  · rw [if_pos h5, if_pos h5]
    by_cases h6 : l.length < 3
    · have h6' : l.length - 1 < 2 := by omega
      rw [if_pos h6, if_pos h6']
    have h6' : ¬ l.length - 1 < 2 := by omega
    rw [if_neg h6, if_neg h6']
    by_cases h7 : at0 l 2 < 128
    · rw [if_pos h7, if_pos h7]
    · rw [if_neg h7, if_neg h7]
  rw [if_neg h5, if_neg h5]
  by_cases h8 : at0 l 1 = 130
  · rw [if_pos h8, if_pos h8]
    by_cases h6 : l.length < 4
    · have h6' : l.length - 1 < 3 := by omega
      rw [if_pos h6, if_pos h6']
    have h6' : ¬ l.length - 1 < 3 := by omega
    rw [if_neg h6, if_neg h6']
    by_cases h7 : at0 l 2 = 0
    · rw [if_pos h7, if_pos h7]
    · rw [if_neg h7, if_neg h7]
  · rw [if_neg h8, if_neg h8]
theorem grown_of {w w' : World} {r : Option Nat} (h : Below w.heap.size w w') : w.grownBy w' r := ⟨h.os, h.tape, h.output, h.size, fun k hk _ => h.block k hk⟩
def firstB (z : Int) : Int := if z < 128 then z else if z < 256 then 129 else 130
theorem tlength_first (z : Int) (w : World) (h0 : 0 ≤ z) (h1 : z ≤ 1000000) : Calls Tryz.prog 104 #[.int .i64 z] w fun e w' => ∃ b n, e = .returned (.slice (some ⟨b, 0, none⟩) (n + 1) (n + 1)) ∧ w'.cell? ⟨b, 0, none⟩ = some (.int .u8 (firstB z)) ∧ Below w.heap.size w w' := by
  refine (tlength_is z w h0 h1).mono ?_
  rintro e w2 ⟨rfl, rfl⟩
  have hb : Below w.heap.size w (w.alloc (.cells ((lenB z).map (Value.int .u8)).toArray 5)) := (Below.refl _ _).alloc (Nat.le_refl _) _
  have hc := (Blk.new w 5 ((lenB z).map (Value.int .u8)).toArray).cell 0
  have key : ∃ r, lenB z = firstB z :: r := by
    unfold lenB firstB
    split
    · exact ⟨_, rfl⟩
    · split
      · exact ⟨_, rfl⟩
      · exact ⟨_, rfl⟩
  obtain ⟨r, hr⟩ := key
  rw [hr] at hc hb ⊢
  exact ⟨w.heap.size, r.length, rfl, by rw [hc]; simp, hb⟩
theorem take_one {gs lvl Bd : Nat} {zs : List Int} {w w' : World} {e : Ending} (h : GivesTake gs lvl Bd 1 zs w e w') (hl : 0 < zs.length) :
    ∃ b off c, e = .returned (.slice (some ⟨b, off, none⟩) 1 c) ∧ w'.cell? ⟨b, off, none⟩ = some (.int .u8 (at0 zs 0)) ∧ Rest w' gs lvl Bd (zs.drop 1) ∧ w.grownBy w' (some gs) := by
  obtain ⟨A, c, rfl, hr, _, hne, _, hrest, hg⟩ := h
  obtain ⟨b, off, rfl, _, hc⟩ := hr.2.2 (by omega)
  have := hc 0 (by omega)
  rw [List.getElem?_take, if_pos (by omega)] at this
  exact ⟨b, off, c, rfl, this, hrest, hg⟩
theorem take_two {gs lvl Bd : Nat} {zs : List Int} {w w' : World} {e : Ending} (h : GivesTake gs lvl Bd 2 zs w e w') (hl : 1 < zs.length) :
    ∃ b off c, e = .returned (.slice (some ⟨b, off, none⟩) 2 c) ∧ w'.cell? ⟨b, off, none⟩ = some (.int .u8 (at0 zs 0)) ∧ w'.cell? ⟨b, off + 1, none⟩ = some (.int .u8 (at0 zs 1)) ∧ Rest w' gs lvl Bd (zs.drop 2) ∧ w.grownBy w' (some gs) := by
  obtain ⟨A, c, rfl, hr, _, hne, _, hrest, hg⟩ := h
  obtain ⟨b, off, rfl, _, hc⟩ := hr.2.2 (by omega)
  have h0 := hc 0 (by omega)
  have h1 := hc 1 (by omega)
  rw [List.getElem?_take, if_pos (by omega)] at h0
  rw [List.getElem?_take, if_pos (by omega)] at h1
  exact ⟨b, off, c, rfl, h0, h1, hrest, hg⟩
def GivesLenS (gs lvl Bd : Nat) (zs : List Int) (w : World) (e : Ending) (w' : World) : Prop :=
  w.grownBy w' (some gs) ∧ ((∃ z : Int, lenL zs = .error z ∧ e = .panicked (errP (norm lvl z))) ∨ (∃ h m : Nat, lenL zs = .ok (h, m) ∧ e = .returned (.int .i64 (m : Int)) ∧ Rest w' gs lvl Bd (zs.drop h)))
theorem norm2 (lvl : Nat) : norm lvl 2 = 2 := by simp [norm]
theorem or_two {x y : Int} (x0 : 0 ≤ x) (x1 : x ≤ 255) (y0 : 0 ≤ y) (y1 : y ≤ 255) : bits .or .i64 (x * 256) y = x * 256 + y :=
  bits_join .i64 63 (by decide) wraps_i64' 8 _ _ (by omega) (by omega) (by omega) (by omega) (by omega) (by omega)
set_option maxHeartbeats 4000000 in
set_option maxRecDepth 100000 in
theorem len_any (gs lvl Bd : Nat) (zs : List Int) (w : World) (hl : lvl ≤ 100) (hr : Rest w gs lvl Bd zs) (hn : zs.length ≤ 30000) :
    Calls Tryz.prog 122 #[.pointer (some ⟨gs, 0, none⟩)] w (GivesLenS gs lvl Bd zs w) := by
  have hby : ∀ z ∈ zs, 0 ≤ z ∧ z ≤ 255 := by
    obtain ⟨A, c, _, h, _⟩ := hr
    exact h.2.1
  have z0 := at0_byte hby 0
  have z1 := at0_byte hby 1
  have z2 := at0_byte hby 2
  by_cases h1 : zs.length < 1
  · have F : Hid (lenL zs = .error 3) := if_pos h1
    have CI := Lib.hid (show Calls Tryz.prog 121 #[.pointer (some ⟨gs, 0, none⟩), .int .i64 1] w _ from take_short gs lvl Bd 1 zs w hl hr hn h1 (by omega))
    clear hr
    go_enter Tryz.func122, Tryz.ntmps122
    go_wp2_with fail
    refine CI.out.mono ?_
    rintro e w2 ⟨rfl, rfl⟩
    exact ⟨rfl, World.grownBy.refl _ _, .inl ⟨3, F.out, rfl⟩⟩
  have CI := Lib.hid (show Calls Tryz.prog 121 #[.pointer (some ⟨gs, 0, none⟩), .int .i64 1] w _ from take_ok gs lvl Bd 1 zs w hr hn (by omega))
  clear hr
  have e1 : at0 (zs.drop 1) 0 = at0 zs 1 := at0_drop zs 1 0
  have e2 : at0 (zs.drop 1) 1 = at0 zs 2 := at0_drop zs 1 1
  have el : (zs.drop 1).length = zs.length - 1 := List.length_drop
  have DL : Hid (lenL zs = if at0 zs 0 < 128 then .ok (1, (at0 zs 0).toNat)
      else if at0 zs 0 = 129 then (if zs.length < 2 then .error 3 else if at0 zs 1 < 128 then .error 2 else .ok (2, (at0 zs 1).toNat))
      else if at0 zs 0 = 130 then (if zs.length < 3 then .error 3 else if at0 zs 1 = 0 then .error 2 else .ok (3, (at0 zs 1 * 256 + at0 zs 2).toNat))
      else .error 2) := if_neg h1
  by_cases c1 : at0 zs 0 < 128
  · have F : Hid (lenL zs = .ok (1, (at0 zs 0).toNat)) := DL.out.trans (if_pos c1)
    clear DL e1 e2 el
    go_enter Tryz.func122, Tryz.ntmps122
    go_wp2_with fail
    refine CI.out.mono ?_
    intro e w2 h2
    obtain ⟨b, off, c, rfl, hcell, hrest, hg⟩ := take_one h2 (by omega)
    have HG := Lib.hid hg
    have HS := Lib.hid hrest
    clear h2 hg hrest CI
    generalize at0 zs 0 = x0 at hcell F z0 c1
    go_wp2_with fail
    go_ret
    exact ⟨HG.out, .inr ⟨1, x0.toNat, F.out, by rw [Int.toNat_of_nonneg z0.1]; rfl, HS.out⟩⟩
  have DL2 : Hid (lenL zs = if at0 zs 0 = 129 then (if zs.length < 2 then .error 3 else if at0 zs 1 < 128 then .error 2 else .ok (2, (at0 zs 1).toNat))
      else if at0 zs 0 = 130 then (if zs.length < 3 then .error 3 else if at0 zs 1 = 0 then .error 2 else .ok (3, (at0 zs 1 * 256 + at0 zs 2).toNat))
      else .error 2) := DL.out.trans (if_neg c1)
  clear DL
  by_cases c2 : at0 zs 0 = 129
  · have DL3 : Hid (lenL zs = if zs.length < 2 then .error 3 else if at0 zs 1 < 128 then .error 2 else .ok (2, (at0 zs 1).toNat)) := DL2.out.trans (if_pos c2)
    clear DL2
    by_cases h2 : zs.length < 2
    · have F : Hid (lenL zs = .error 3) := DL3.out.trans (if_pos h2)
      clear DL3 e1 e2
      go_enter Tryz.func122, Tryz.ntmps122
      go_wp2_with fail
      refine CI.out.mono ?_
      intro e w2 hh2
      obtain ⟨b, off, c, rfl, hcell, hrest, hg⟩ := take_one hh2 (by omega)
      have HG := Lib.hid hg
      have C2 := Lib.hid (show Calls Tryz.prog 121 #[.pointer (some ⟨gs, 0, none⟩), .int .i64 1] w2 _ from take_short gs lvl Bd 1 (zs.drop 1) w2 hl hrest (by omega) (by omega) (by omega))
      clear hh2 hg hrest CI el
      rw [c2] at hcell
      clear c1 c2 z0
      go_wp2_with fail
      refine C2.out.mono ?_
      rintro e w3 ⟨rfl, rfl⟩
      exact ⟨rfl, HG.out, .inl ⟨3, F.out, rfl⟩⟩
    have DL4 : Hid (lenL zs = if at0 zs 1 < 128 then .error 2 else .ok (2, (at0 zs 1).toNat)) := DL3.out.trans (if_neg h2)
    clear DL3 e2
    go_enter Tryz.func122, Tryz.ntmps122
    go_wp2_with fail
    refine CI.out.mono ?_
    intro e w2 hh2
    obtain ⟨b, off, c, rfl, hcell, hrest, hg⟩ := take_one hh2 (by omega)
    have HG := Lib.hid hg
    have C2 := Lib.hid (show Calls Tryz.prog 121 #[.pointer (some ⟨gs, 0, none⟩), .int .i64 1] w2 _ from take_ok gs lvl Bd 1 (zs.drop 1) w2 hrest (by omega) (by omega))
    have EL := Lib.hid el
    have E1 := Lib.hid e1
    clear hh2 hg hrest CI el e1
    rw [c2] at hcell
    clear c1 c2 z0
    go_wp2_with fail
    refine C2.out.mono ?_
    intro e w3 hh3
    obtain ⟨b2, off2, c3, rfl, hcell2, hrest2, hg2⟩ := take_one hh3 (by rw [EL.out]; omega)
    rw [E1.out] at hcell2
    rw [List.drop_drop] at hrest2
    have HG3 := Lib.hid (grown_trans HG.out hg2)
    have HS3 := Lib.hid hrest2
    clear hh3 hg2 hrest2 HG C2 E1 EL hcell
    generalize at0 zs 1 = x1 at hcell2 z1 DL4
    go_wp2_with fail
    refine (tlength_first _ _ (by omega) (by omega)).mono ?_
    rintro e w4 ⟨b4, n4, rfl, hc4, hb4⟩
    have HG4 := Lib.hid (grown_trans HG3.out (grown_of hb4))
    have HS4 := Lib.hid (HS3.out.below hb4)
    clear hb4 HG3 HS3
    by_cases c5 : x1 < 128
    · have F : Hid (lenL zs = .error 2) := DL4.out.trans (if_pos c5)
      have t5 : (firstB x1 == 129) = false := by simp [firstB, c5]; omega
      clear DL4
      go_wp2_with fail
      exact ⟨rfl, HG4.out, .inl ⟨2, F.out, by rw [norm2]; rfl⟩⟩
    · have F : Hid (lenL zs = .ok (2, x1.toNat)) := DL4.out.trans (if_neg c5)
      have t5 : firstB x1 = 129 := by rw [firstB, if_neg c5, if_pos (by omega)]
      rw [t5] at hc4
      clear DL4 t5
      go_wp2_with fail
      go_ret
      exact ⟨HG4.out, .inr ⟨2, x1.toNat, F.out, by rw [Int.toNat_of_nonneg z1.1]; rfl, HS4.out⟩⟩
  have DL3 : Hid (lenL zs = if at0 zs 0 = 130 then (if zs.length < 3 then .error 3 else if at0 zs 1 = 0 then .error 2 else .ok (3, (at0 zs 1 * 256 + at0 zs 2).toNat)) else .error 2) := DL2.out.trans (if_neg c2)
  clear DL2
  by_cases c3 : at0 zs 0 = 130
  · have DL4 : Hid (lenL zs = if zs.length < 3 then .error 3 else if at0 zs 1 = 0 then .error 2 else .ok (3, (at0 zs 1 * 256 + at0 zs 2).toNat)) := DL3.out.trans (if_pos c3)
    clear DL3
    by_cases h2 : zs.length < 3
    · have F : Hid (lenL zs = .error 3) := DL4.out.trans (if_pos h2)
      clear DL4 e1 e2
      go_enter Tryz.func122, Tryz.ntmps122
      go_wp2_with fail
      refine CI.out.mono ?_
      intro e w2 hh2
      obtain ⟨b, off, c, rfl, hcell, hrest, hg⟩ := take_one hh2 (by omega)
      have HG := Lib.hid hg
      have C2 := Lib.hid (show Calls Tryz.prog 121 #[.pointer (some ⟨gs, 0, none⟩), .int .i64 2] w2 _ from take_short gs lvl Bd 2 (zs.drop 1) w2 hl hrest (by omega) (by omega) (by omega))
      clear hh2 hg hrest CI el
      rw [c3] at hcell
      clear c1 c2 c3 z0
      go_wp2_with fail
      refine C2.out.mono ?_
      rintro e w3 ⟨rfl, rfl⟩
      exact ⟨rfl, HG.out, .inl ⟨3, F.out, rfl⟩⟩
    have DL5 : Hid (lenL zs = if at0 zs 1 = 0 then .error 2 else .ok (3, (at0 zs 1 * 256 + at0 zs 2).toNat)) := DL4.out.trans (if_neg h2)
    clear DL4
    go_enter Tryz.func122, Tryz.ntmps122
    go_wp2_with fail
    refine CI.out.mono ?_
    intro e w2 hh2
    obtain ⟨b, off, c, rfl, hcell, hrest, hg⟩ := take_one hh2 (by omega)
    have HG := Lib.hid hg
    have C2 := Lib.hid (show Calls Tryz.prog 121 #[.pointer (some ⟨gs, 0, none⟩), .int .i64 2] w2 _ from take_ok gs lvl Bd 2 (zs.drop 1) w2 hrest (by omega) (by omega))
    have EL := Lib.hid el
    have E1 := Lib.hid e1
    have E2 := Lib.hid e2
    clear hh2 hg hrest CI el e1 e2
    rw [c3] at hcell
    clear c1 c2 c3 z0
    go_wp2_with fail
    refine C2.out.mono ?_
    intro e w3 hh3
    obtain ⟨b2, off2, c3, rfl, hcell2, hcell3, hrest2, hg2⟩ := take_two hh3 (by rw [EL.out]; omega)
    rw [E1.out] at hcell2
    rw [E2.out] at hcell3
    rw [List.drop_drop] at hrest2
    have HG3 := Lib.hid (grown_trans HG.out hg2)
    have HS3 := Lib.hid hrest2
    clear hh3 hg2 hrest2 HG C2 E1 E2 EL hcell
    generalize at0 zs 1 = x1 at hcell2 z1 DL5
    generalize at0 zs 2 = x2 at hcell3 z2 DL5
    have OR := or_two z1.1 z1.2 z2.1 z2.2
    go_wp2_with fail
    go_quiet (fail)
    have HG3' := Lib.hid (grown_trans HG3.out (grown_of (r := some gs) (drewN_below w3 nq)))
    have HS3' := Lib.hid (HS3.out.below (drewN_below w3 nq))
    clear HG3 HS3 hcell2 hcell3 OR
    go_wp2_with fail
    refine (tlength_first _ _ (by omega) (by omega)).mono ?_
    rintro e w4 ⟨b4, n4, rfl, hc4, hb4⟩
    have HG4 := Lib.hid (grown_trans HG3'.out (grown_of hb4))
    have HS4 := Lib.hid (HS3'.out.below hb4)
    clear hb4 HG3' HS3'
    by_cases c5 : x1 = 0
    · have F : Hid (lenL zs = .error 2) := DL5.out.trans (if_pos c5)
      have t5 : (firstB (x1 * 256 + x2) == 130) = false := by
        unfold firstB
        simp
        split
        · omega
        · split <;> omega
      clear DL5 c5
      go_wp2_with fail
      exact ⟨rfl, HG4.out, .inl ⟨2, F.out, by rw [norm2]; rfl⟩⟩
    · have F : Hid (lenL zs = .ok (3, (x1 * 256 + x2).toNat)) := DL5.out.trans (if_neg c5)
      have t5 : firstB (x1 * 256 + x2) = 130 := by rw [firstB, if_neg (by omega), if_neg (by omega)]
      rw [t5] at hc4
      have E : Hid (((x1 * 256 + x2).toNat : Int) = x1 * 256 + x2) := Int.toNat_of_nonneg (by omega)
      clear DL5 t5 c5
      go_wp2_with fail
      go_ret
      exact ⟨HG4.out, .inr ⟨3, (x1 * 256 + x2).toNat, F.out, by rw [E.out]; rfl, HS4.out⟩⟩
  · have F : Hid (lenL zs = .error 2) := DL3.out.trans (if_neg c3)
    clear DL3 e1 e2 el
    go_enter Tryz.func122, Tryz.ntmps122
    go_wp2_with fail
    refine CI.out.mono ?_
    intro e w2 h2
    obtain ⟨b, off, c, rfl, hcell, hrest, hg⟩ := take_one h2 (by omega)
    have HG := Lib.hid hg
    clear h2 hg hrest CI
    generalize at0 zs 0 = x0 at hcell z0 c1 c2 c3
    have t2 : (x0 == 129) = false := by simpa using c2
    have t3 : (x0 == 130) = false := by simpa using c3
    go_wp2_with fail
    exact ⟨rfl, HG.out, .inl ⟨2, F.out, by rw [norm2]; rfl⟩⟩
end Go.Proofs.YtgmefdmeeihgoaaGreatDoor
namespace Go.Proofs.YtgmefdmeeihgoaaGreatDoor
open Go.RowKit
set_option linter.unusedVariables false
theorem head_err {l : List Int} {z : Int} (e : headL l = .error z) : z = 2 ∨ z = 3 := by
  unfold headL at e
  repeat (first | (split at e) | (cases e; omega) | (cases e))
theorem elemC_bad {deep : Nat} {l : List Int} {z : Int} (e : headL l = .error z) : elemC deep l = .error z := by
  unfold elemC elemW
  rw [e]
theorem elemC_short {deep h m : Nat} {l : List Int} (e : headL l = .ok (h, m)) (hs : (l.drop h).length < m) : elemC deep l = .error 3 := by
  unfold elemC elemW
  rw [e]
  simp only
  rw [if_pos hs]
theorem elemC_deep {deep h m : Nat} {l : List Int} (e : headL l = .ok (h, m)) (hs : ¬ (l.drop h).length < m) (hd : 32 ≤ deep) : elemC deep l = .error 4 := by
  unfold elemC elemW
  rw [e]
  simp only
  rw [if_neg hs, if_pos hd]
theorem elemC_leaf {deep h m : Nat} {l : List Int} (e : headL l = .ok (h, m)) (hs : ¬ (l.drop h).length < m) (hd : ¬ 32 ≤ deep) (hw : withinB (at0 l 0) = false) : elemC deep l = .ok (.node (at0 l 0) ((l.drop h).take m) [], (l.drop h).drop m) := by
  unfold elemC elemW
  rw [e]
  simp only
  rw [if_neg hs, if_neg hd, if_neg (by rw [hw]; simp)]
theorem elemC_in_bad {deep h m : Nat} {l : List Int} {z : Int} (e : headL l = .ok (h, m)) (hs : ¬ (l.drop h).length < m) (hd : ¬ 32 ≤ deep) (hw : withinB (at0 l 0) = true) (hk : kidsC (deep + 1) ((l.drop h).take m) = .error z) : elemC deep l = .error (if z = 3 then 2 else z) := by
  unfold elemC elemW
  rw [e]
  simp only
  rw [if_neg hs, if_neg hd, if_pos hw, hk]
theorem elemC_in_ok {deep h m : Nat} {l : List Int} {ks : List T} (e : headL l = .ok (h, m)) (hs : ¬ (l.drop h).length < m) (hd : ¬ 32 ≤ deep) (hw : withinB (at0 l 0) = true) (hk : kidsC (deep + 1) ((l.drop h).take m) = .ok ks) : elemC deep l = .ok (.node (at0 l 0) [] ks, (l.drop h).drop m) := by
  unfold elemC elemW
  rw [e]
  simp only
  rw [if_neg hs, if_neg hd, if_pos hw, hk]
theorem elemW_err {rec : Nat → List Int → Except Int (List T)} (hrec : ∀ d l z, rec d l = .error z → z = 2 ∨ z = 3 ∨ z = 4) {deep : Nat} {l : List Int} {z : Int} (e : elemW rec deep l = .error z) : z = 2 ∨ z = 3 ∨ z = 4 := by
  unfold elemW at e
  split at e
  · rename_i hh
    cases e
    have := head_err hh
    omega
  split at e
  · cases e
    omega
  split at e
  · cases e
    omega
  split at e
  · split at e
    · rename_i hk
      cases e
      have := hrec _ _ _ hk
      split <;> omega
    · cases e
  · cases e
theorem kidsZ_err : ∀ (f d : Nat) (l : List Int) (z : Int), kidsZ f d l = .error z → z = 2 ∨ z = 3 ∨ z = 4 := by
  intro f
  induction f with
  | zero => intro d l z e; rw [kidsZ] at e; cases e
  | succ f ih =>
    intro d l z e
    rw [kidsZ] at e
    split at e
    · cases e
    split at e
    · rename_i he
      cases e
      exact elemW_err ih he
    split at e
    · rename_i he
      cases e
      exact ih _ _ _ he
    · cases e
theorem elemC_err {deep : Nat} {l : List Int} {z : Int} (e : elemC deep l = .error z) : z = 2 ∨ z = 3 ∨ z = 4 := elemW_err (fun d l z h => kidsZ_err _ d l z h) e
theorem head_m {l : List Int} {h m : Nat} (hb : ∀ z ∈ l, 0 ≤ z ∧ z ≤ 255) (e : headL l = .ok (h, m)) : m ≤ 65535 := by
  have h1 := at0_byte hb 1
  have h2 := at0_byte hb 2
  have h3 := at0_byte hb 3
  unfold headL at e
  split at e
  · cases e
  split at e
  · cases e
  split at e
  · cases e
  split at e
  · cases e; omega
  split at e
  · split at e
    · cases e
    split at e
    · cases e
    · cases e; omega
  split at e
  · split at e
    · cases e
    split at e
    · cases e
    · cases e; omega
  · cases e
theorem below_start (w : World) (q : Nat) : Below w.heap.size w ((w.alloc (.cells #[.int .i64 0, .slice none 0 0, .slice none 0 0] 28)).drewN q) :=
  Below.step ((Below.refl _ _).alloc (Nat.le_refl _) _) (drewN_below _ q)/-- The two boxes that a call lays, in a world of its own. -/
def bare (w : World) (q : Nat) (x : Int) : World := ((w.alloc (.cells #[.int .i64 0, .slice none 0 0, .slice none 0 0] 28)).drewN q).alloc (.cells #[.int .i64 x, .slice none 0 0, .slice none 0 0] 28)
theorem bare_size (w : World) (q : Nat) (x : Int) : (bare w q x).heap.size = w.heap.size + 2 := by simp [bare]
theorem bare_below (w : World) (q : Nat) (x : Int) : Below w.heap.size w (bare w q x) := Below.step (below_start w q) ((Below.refl _ _).alloc (Nat.le_refl _) _)
theorem bare_res (w : World) (q : Nat) (x : Int) : Blk (bare w q x) w.heap.size 28 #[.int .i64 0, .slice none 0 0, .slice none 0 0] :=
  Blk.alloc (Blk.drewN (Blk.new w _ _) q) _
theorem bare_box (w : World) (q : Nat) (x : Int) : Blk (bare w q x) (w.heap.size + 1) 28 #[.int .i64 x, .slice none 0 0, .slice none 0 0] := by
  have h := Blk.new ((w.alloc (.cells #[.int .i64 0, .slice none 0 0, .slice none 0 0] 28)).drewN q) 28 #[.int .i64 x, .slice none 0 0, .slice none 0 0]
  rw [show ((w.alloc (.cells #[.int .i64 0, .slice none 0 0, .slice none 0 0] 28)).drewN q).heap.size = w.heap.size + 1 by simp] at h
  exact h
theorem bare_out (w : World) (q : Nat) (x : Int) : Out (bare w q x) ((bare w q x).alloc (.cells #[] 5)) (.slice (some ⟨w.heap.size + 1 + 1, 0, none⟩) 0 0) [] := by
  have h := Out.made (W0 := bare w q x) 0 (by omega)
  rw [bare_size, show madeCells #[.int .u8 0] 0 = #[] by simp [madeCells]] at h
  exact h
theorem results_cell_two {fn : Func} {p u v : Tmp} {ty : TypeId} (h : fn.results = #[.cell p ty, .tmp u, .tmp v]) (tmps : Array Value) (P : Program) (w : World) :
    (results fn tmps).run P w =
      ((asAddr (tmps.getD p undef)).run P w).andThen fun a w₁ => ((loadVar ty a).run P w₁).andThen fun x w₂ => .ok (.tuple #[x, tmps.getD u undef, tmps.getD v undef]) w₂ := by
  simp only [results, h]
  simp [Sem.run_bind, Result.andThen]
theorem results_three {P : Program} {fn : Func} {p u v : Tmp} {ty : TypeId} (h : fn.results = #[.cell p ty, .tmp u, .tmp v]) (tmps : Array Value) (w : World) (g : Nat) (t : TypeId) (cs : Array Value) (fr : Nat × Nat) (d : TypeDesc)
    (hp : tmps.getD p undef = .pointer (some ⟨g, 0, none⟩)) (hg : w.heap[g]? = some (.cells cs t fr))
    (hu : P.underlying ty = some d) (hd : (match d with | .struct _ | .array _ _ => true | _ => false) = true) (hi : (P.info? ty).map (·.size) = some cs.size) :
    (results fn tmps).run P w = .ok (.tuple #[.agg cs, tmps.getD u undef, tmps.getD v undef]) w := by
  rw [results_cell_two h, hp]
  simp [asAddr, run_loadVar_row w g t ty cs fr d hg hu hd hi, Result.andThen]
theorem Row.far {w : World} {a : Option Addr} {n : Nat} {zs : List Int} (h : Row w a n zs) {g : Nat} (hb : 0 < n → ∃ b off, a = some ⟨b, off, none⟩ ∧ g < b) (j : Nat) (v : Value) : Row (w.setCell ⟨g, j, none⟩ v) a n zs := by
  refine ⟨h.1, h.2.1, fun h0 => ?_⟩
  obtain ⟨b, off, e, hlt, hc⟩ := h.2.2 h0
  obtain ⟨b', off', e', hg⟩ := hb h0
  rw [e] at e'
  obtain ⟨rfl, rfl⟩ : b = b' ∧ off = off' := by simpa using e'
  refine ⟨b, off, e, by simpa using hlt, fun i hi => ?_⟩
  rw [World.cell?_setCell_other _ _ _ _ (fun e => by
    have he : g = b := congrArg Addr.block e
    omega)]
  exact hc i hi
def leafW (w w1 : World) (x0 : Int) (V : Value) : World := (((w1.setCell ⟨w.heap.size + 1, 1, none⟩ V).setCell ⟨w.heap.size, 0, none⟩ (.int .i64 x0)).setCell ⟨w.heap.size, 1, none⟩ V).setCell ⟨w.heap.size, 2, none⟩ (.slice none 0 0)
theorem leaf_blk {w w1 : World} (h : Blk w1 w.heap.size 28 #[.int .i64 0, .slice none 0 0, .slice none 0 0]) (x0 : Int) (V : Value) : Blk (leafW w w1 x0 V) w.heap.size 28 #[.int .i64 x0, V, .slice none 0 0] :=
  (((h.far (by omega) 1 V).set 0 (.int .i64 x0)).set 1 V).set 2 (.slice none 0 0)
theorem leaf_below {w w1 : World} (h : Below w.heap.size w w1) (x0 : Int) (V : Value) : Below w.heap.size w (leafW w w1 x0 V) :=
  (((h.setCell (by show w.heap.size ≤ w.heap.size + 1; omega) _).setCell (Nat.le_refl _) _).setCell (Nat.le_refl _) _).setCell (Nat.le_refl _) _
theorem leaf_in {w w1 : World} {x0 : Int} {body : List Int} {a1 : Option Addr} {cc1 : Nat} (hx : (Lit.int .i64 x0).wf = true) (hr : Row w1 a1 body.length body) (hl : body.length ≤ maxLen) (hn : a1 = none → cc1 = 0) (hcc : body.length ≤ cc1) (hb : 0 < body.length → ∃ b off, a1 = some ⟨b, off, none⟩ ∧ w.heap.size + 1 < b) :
    (T.node x0 body []).InP (w.heap.size ≤ ·) (leafW w w1 x0 (.slice a1 body.length cc1)) (.agg #[.int .i64 x0, .slice a1 body.length cc1, .slice none 0 0]) := by
  unfold T.InP
  have hb0 : 0 < body.length → ∃ b off, a1 = some ⟨b, off, none⟩ ∧ w.heap.size < b := fun h => by
    obtain ⟨b, off, e, hg⟩ := hb h
    exact ⟨b, off, e, by omega⟩
  refine ⟨a1, body.length, cc1, none, 0, 0, rfl, hx, (((hr.far hb _ _).far hb0 _ _).far hb0 _ _).far hb0 _ _, hl, hn, rfl, ⟨Nat.zero_le _, hcc, Nat.le_refl _⟩, fun h0 => ?_, fun h => absurd h (by omega)⟩
  obtain ⟨b, off, e, hg⟩ := hb h0
  exact ⟨b, off, e, by omega⟩
theorem Tryz.sizeNode : (Tryz.prog.info? 28).map (·.size) = some 3 := by kernel_rfl
theorem Blk.facts {w : World} {g : Nat} {t : TypeId} {a b c : Value} (h : Blk w g t #[a, b, c]) : w.cell? ⟨g, 0, none⟩ = some a ∧ w.cell? ⟨g, 1, none⟩ = some b ∧ w.cell? ⟨g, 2, none⟩ = some c ∧ w.frozen? ⟨g, 0, none⟩ = false ∧ w.frozen? ⟨g, 1, none⟩ = false ∧ w.frozen? ⟨g, 2, none⟩ = false :=
  ⟨h.cell 0, h.cell 1, h.cell 2, h.free 0, h.free 1, h.free 2⟩
theorem out_far {w wr : World} {q : Nat} {x : Int} {a : Option Addr} {n c : Nat} {L : List Int} (h : Out (bare w q x) wr (.slice a n c) L) : 0 < L.length → ∃ b off, a = some ⟨b, off, none⟩ ∧ w.heap.size + 1 < b := by
  intro h0
  obtain ⟨g, cap, e, hg⟩ := h.form h0
  rw [bare_size] at hg
  injection e with e1
  exact ⟨g, 0, e1, by omega⟩
theorem row_piece {w : World} {b off n : Nat} {zs : List Int} (h : Row w (some ⟨b, off, none⟩) n zs) (k m : Nat) (hk : k + m ≤ n) : Row w (some ⟨b, off + k, none⟩) m ((zs.drop k).take m) := by
  have hl := h.1
  refine ⟨by rw [List.length_take, List.length_drop]; omega, fun x hx => h.2.1 x (List.mem_of_mem_drop (List.mem_of_mem_take hx)), fun h0 => ?_⟩
  obtain ⟨b', off', e, hb, hc⟩ := h.2.2 (by omega)
  obtain ⟨rfl, rfl⟩ : b = b' ∧ off = off' := by simpa using e
  refine ⟨b, off + k, rfl, hb, fun i hi => ?_⟩
  have := hc (k + i) (by omega)
  rw [List.getElem?_take, if_pos hi, List.getElem?_drop, Nat.add_assoc, this]
theorem below_zero (w : World) (q : Nat) : Below w.heap.size w (((((w.alloc (.cells #[.int .i64 0, .slice none 0 0, .slice none 0 0] 28)).drewN q).setCell ⟨w.heap.size, 0, none⟩ (.int .i64 0)).setCell ⟨w.heap.size, 1, none⟩ (.slice none 0 0)).setCell ⟨w.heap.size, 2, none⟩ (.slice none 0 0)) :=
  (((below_start w q).setCell (Nat.le_refl _) _).setCell (Nat.le_refl _) _).setCell (Nat.le_refl _) _
def GivesElem (deep : Nat) (zs : List Int) (k n : Nat) (w : World) (e : Ending) (w' : World) : Prop :=
  Below w.heap.size w w' ∧
  ((∃ z : Int, elemC deep (zs.drop k) = .error z ∧ e = .returned (.tuple #[.agg #[.int .i64 0, .slice none 0 0, .slice none 0 0], .int .i64 0, .int .i64 z])) ∨
   (∃ (t : T) (nx : Nat) (v : Value), elemC deep (zs.drop k) = .ok (t, zs.drop nx) ∧ k < nx ∧ nx ≤ n ∧ e = .returned (.tuple #[v, .int .i64 (nx : Int), .int .i64 0]) ∧ t.InP (w.heap.size ≤ ·) w' v))
set_option maxRecDepth 100000 in
set_option maxHeartbeats 1000000 in
theorem elem_err (a : Option Addr) (n ca k deep : Nat) (zs : List Int) (w : World) (hr : Row w a n zs) (hnc : n ≤ ca) (hn : n ≤ 30000) (hk : k ≤ n) (hd : deep ≤ 32) {z : Int} (hh : headL (zs.drop k) = .error z) :
    Calls Tryz.prog 62 #[.slice a n ca, .int .i64 (k : Int), .int .i64 (n : Int), .int .i64 (deep : Int)] w (GivesElem deep zs k n w) := by
  have R0 := Lib.hid (hr.below (w' := w.alloc (.cells #[.int .i64 0, .slice none 0 0, .slice none 0 0] 28)) ((Below.refl _ _).alloc (Nat.le_refl _) _))
  have HE := Lib.hid hh
  have hz := head_err hh
  have F := Lib.hid (elemC_bad (deep := deep) hh)
  have hz0 : (z != 0) = true := by simp; omega
  clear hh
  go_enter Tryz.func62, Tryz.ntmps62
  go_wp2_with fail
  refine (head_any _ n ca k zs _ R0.out hn hk).mono ?_
  rw [HE.out]
  rintro e w2 ⟨rfl, q, rfl⟩
  go_wp2_with fail
  exact bodyPost_ret (v := .tuple #[.agg #[.int .i64 0, .slice none 0 0, .slice none 0 0], .int .i64 0, .int .i64 z]) (by simp [results, Tryz.results62, go_sem]) rfl ⟨below_zero w q, .inl ⟨z, F.out, rfl⟩⟩
set_option maxRecDepth 100000 in
set_option maxHeartbeats 1000000 in
theorem elem_short (a : Option Addr) (n ca k deep : Nat) (zs : List Int) (w : World) (hr : Row w a n zs) (hnc : n ≤ ca) (hn : n ≤ 30000) (hk : k ≤ n) (hd : deep ≤ 32) {h m : Nat} (hh : headL (zs.drop k) = .ok (h, m)) (hs : n < k + h + m) :
    Calls Tryz.prog 62 #[.slice a n ca, .int .i64 (k : Int), .int .i64 (n : Int), .int .i64 (deep : Int)] w (GivesElem deep zs k n w) := by
  have R0 := Lib.hid (hr.below (w' := w.alloc (.cells #[.int .i64 0, .slice none 0 0, .slice none 0 0] 28)) ((Below.refl _ _).alloc (Nat.le_refl _) _))
  have HE := Lib.hid hh
  have hhk := head_ok hh
  have hlen : (zs.drop k).length = n - k := by rw [List.length_drop, hr.1]
  rw [hlen] at hhk
  have hm := head_m (fun z hz => hr.2.1 z (List.mem_of_mem_drop hz)) hh
  have hl2 : ((zs.drop k).drop h).length = n - (k + h) := by rw [List.length_drop, hlen]; omega
  have F := Lib.hid (elemC_short (deep := deep) hh (by rw [hl2]; omega))
  clear hh hlen hl2
  go_enter Tryz.func62, Tryz.ntmps62
  go_wp2_with fail
  refine (head_any _ n ca k zs _ R0.out hn hk).mono ?_
  rw [HE.out]
  rintro e w2 ⟨rfl, q, rfl⟩
  go_wp2_with fail
  exact bodyPost_ret (v := .tuple #[.agg #[.int .i64 0, .slice none 0 0, .slice none 0 0], .int .i64 0, .int .i64 3]) (by simp [results, Tryz.results62, go_sem]) rfl ⟨below_zero w q, .inl ⟨3, F.out, rfl⟩⟩
set_option maxRecDepth 100000 in
set_option maxHeartbeats 1000000 in
theorem elem_deep (a : Option Addr) (n ca k deep : Nat) (zs : List Int) (w : World) (hr : Row w a n zs) (hnc : n ≤ ca) (hn : n ≤ 30000) (hk : k ≤ n) (hd : deep ≤ 32) {h m : Nat} (hh : headL (zs.drop k) = .ok (h, m)) (hs : ¬ n < k + h + m) (hdp : 32 ≤ deep) :
    Calls Tryz.prog 62 #[.slice a n ca, .int .i64 (k : Int), .int .i64 (n : Int), .int .i64 (deep : Int)] w (GivesElem deep zs k n w) := by
  have R0 := Lib.hid (hr.below (w' := w.alloc (.cells #[.int .i64 0, .slice none 0 0, .slice none 0 0] 28)) ((Below.refl _ _).alloc (Nat.le_refl _) _))
  have HE := Lib.hid hh
  have hhk := head_ok hh
  have hlen : (zs.drop k).length = n - k := by rw [List.length_drop, hr.1]
  rw [hlen] at hhk
  have hm := head_m (fun z hz => hr.2.1 z (List.mem_of_mem_drop hz)) hh
  have hl2 : ((zs.drop k).drop h).length = n - (k + h) := by rw [List.length_drop, hlen]; omega
  have hs' : ¬ ((zs.drop k).drop h).length < m := by rw [hl2]; omega
  have F := Lib.hid (elemC_deep (deep := deep) hh hs' hdp)
  clear hh hlen hl2 hs'
  go_enter Tryz.func62, Tryz.ntmps62
  go_wp2_with fail
  refine (head_any _ n ca k zs _ R0.out hn hk).mono ?_
  rw [HE.out]
  rintro e w2 ⟨rfl, q, rfl⟩
  go_wp2_with fail
  exact bodyPost_ret (v := .tuple #[.agg #[.int .i64 0, .slice none 0 0, .slice none 0 0], .int .i64 0, .int .i64 4]) (by simp [results, Tryz.results62, go_sem]) rfl ⟨below_zero w q, .inl ⟨4, F.out, rfl⟩⟩
set_option maxRecDepth 100000 in
set_option maxHeartbeats 1000000 in
theorem elem_leaf (a : Option Addr) (n ca k deep : Nat) (zs : List Int) (w : World) (hr : Row w a n zs) (hnc : n ≤ ca) (hn : n ≤ 30000) (hk : k ≤ n) (hd : deep ≤ 32) {h m : Nat} (hh : headL (zs.drop k) = .ok (h, m)) (hs : ¬ n < k + h + m) (hdp : ¬ 32 ≤ deep) (hw : withinB (zs[k]?.getD 0) = false) :
    Calls Tryz.prog 62 #[.slice a n ca, .int .i64 (k : Int), .int .i64 (n : Int), .int .i64 (deep : Int)] w (GivesElem deep zs k n w) := by
  have R0 := Lib.hid (hr.below (w' := w.alloc (.cells #[.int .i64 0, .slice none 0 0, .slice none 0 0] 28)) ((Below.refl _ _).alloc (Nat.le_refl _) _))
  have HE := Lib.hid hh
  have hhk := head_ok hh
  have hlen : (zs.drop k).length = n - k := by rw [List.length_drop, hr.1]
  rw [hlen] at hhk
  have hm := head_m (fun z hz => hr.2.1 z (List.mem_of_mem_drop hz)) hh
  have hl2 : ((zs.drop k).drop h).length = n - (k + h) := by rw [List.length_drop, hlen]; omega
  have hs' : ¬ ((zs.drop k).drop h).length < m := by rw [hl2]; omega
  obtain ⟨b, off, rfl, hb, hcell⟩ := R0.out.2.2 (by omega)
  have c0 := hcell k (by omega)
  have z0 := hr.byte k
  have e0 : at0 (zs.drop k) 0 = zs[k]?.getD 0 := by rw [at0_drop]; rfl
  have F := Lib.hid (elemC_leaf (deep := deep) hh hs' hdp (by rw [e0]; exact hw))
  rw [e0] at F
  have WI := Lib.hid hw
  clear hh hlen hl2 hs' e0 hw hcell
  generalize zs[k]?.getD 0 = x0 at c0 z0 F WI
  go_enter Tryz.func62, Tryz.ntmps62
  go_wp2_with fail
  refine (head_any _ n ca k zs _ R0.out hn hk).mono ?_
  rw [HE.out]
  rintro e w2 ⟨rfl, q, rfl⟩
  go_wp2_with fail
  refine (within_any x0 _ (WalkArith.wf_i64 (by omega))).mono ?_
  rintro e w3 ⟨rfl, rfl⟩
  rw [WI.out]
  by_cases hca : k + h = ca
  · obtain rfl : m = 0 := by omega
    subst hca
    have F2 : Hid (elemC deep (zs.drop k) = .ok (.node x0 [] [], zs.drop (k + h))) := by
      rw [F.out, List.take_zero, List.drop_zero, List.drop_drop]
      exact Lib.hid rfl
    clear F
    go_wp2_with (at_builtin; refine out_append (W0 := bare w q x0) (L := []) (zs := []) rfl _ _ rfl rfl (bare_out w q x0) rfl (Row.nil _ _) (fun e => by cases e) (by simp only [List.length_nil]; omega) ?_; intro V1 w1 ho1; simp only [List.nil_append] at ho1; obtain ⟨a1, cc1, rfl, hr1⟩ := ho1.row (fun z hz => by simp at hz); have N1 := Lib.hid ho1.nilc; have C1 := Lib.hid (own_cap ho1.1); have Q1 := Lib.hid (out_far ho1); have R1 := Lib.hid hr1; have K0 := Lib.hid ((bare_res w q x0).below ho1.2 (bare_res w q x0).lt); have K1 := Lib.hid ((bare_box w q x0).below ho1.2 (bare_box w q x0).lt); have B1 := Lib.hid (Below.step (bare_below w q x0) ho1.2); clear ho1 hr1; obtain ⟨p0, p1, p2, f0, f1, f2⟩ := K0.out.facts; obtain ⟨s0, s1, s2, g0, g1, g2⟩ := K1.out.facts)
    have ML0 : ([] : List Int).length ≤ maxLen := by simp
    have LI := Lib.hid (leaf_in (w := w) (w1 := w1) (x0 := x0) (body := []) (WalkArith.wf_i64 (by omega)) R1.out ML0 N1.out C1.out Q1.out)
    exact bodyPost_ret (results_three rfl _ _ w.heap.size 28 #[.int .i64 x0, .slice a1 0 cc1, .slice none 0 0] (0, 0) _ rfl (leaf_blk K0.out x0 (.slice a1 0 cc1)) Tryz.underlying28 rfl Tryz.sizeNode) rfl ⟨leaf_below B1.out x0 (.slice a1 0 cc1), .inr ⟨.node x0 [] [], k + h, .agg #[.int .i64 x0, .slice a1 0 cc1, .slice none 0 0], F2.out, by omega, by omega, rfl, LI.out⟩⟩
  have RP : Hid (Row ((bare w q x0).alloc (.cells #[] 5)) (some ⟨b, off + (k + h), none⟩) (k + h + m - (k + h)) ((zs.drop (k + h)).take m)) := by
    rw [show k + h + m - (k + h) = m by omega]
    exact ((row_piece R0.out (k + h) m (by omega)).below (w' := bare w q x0) (show Below _ _ _ from (drewN_below _ q).trans ((Below.refl _ _).alloc (by simp) _))).below (w' := (bare w q x0).alloc (.cells #[] 5)) ((Below.refl _ _).alloc (Nat.le_refl _) _)
  have zl : ((zs.drop (k + h)).take m).length = m := by rw [List.length_take, List.length_drop, hr.1]; omega
  have ZL := Lib.hid zl
  have zb : ∀ z ∈ (zs.drop (k + h)).take m, 0 ≤ z ∧ z ≤ 255 := fun z hz => hr.2.1 z (List.mem_of_mem_drop (List.mem_of_mem_take hz))
  have ZB := Lib.hid zb
  have F2 : Hid (elemC deep (zs.drop k) = .ok (.node x0 ((zs.drop (k + h)).take m) [], zs.drop (k + h + m))) := by
    rw [F.out, List.drop_drop, List.drop_drop]
    exact Lib.hid rfl
  clear zl zb F
  generalize (zs.drop (k + h)).take m = body at RP ZL ZB F2
  go_wp2_with (at_builtin; refine out_append (W0 := bare w q x0) (L := []) (zs := body) rfl _ _ rfl rfl (bare_out w q x0) rfl RP.out (fun e => by cases e) (by simp only [List.length_nil]; omega) ?_; intro V1 w1 ho1; simp only [List.nil_append] at ho1; obtain ⟨a1, cc1, rfl, hr1⟩ := ho1.row ZB.out; have N1 := Lib.hid ho1.nilc; have C1 := Lib.hid (own_cap ho1.1); have Q1 := Lib.hid (out_far ho1); have R1 := Lib.hid hr1; have K0 := Lib.hid ((bare_res w q x0).below ho1.2 (bare_res w q x0).lt); have K1 := Lib.hid ((bare_box w q x0).below ho1.2 (bare_box w q x0).lt); have B1 := Lib.hid (Below.step (bare_below w q x0) ho1.2); clear ho1 hr1; obtain ⟨p0, p1, p2, f0, f1, f2⟩ := K0.out.facts; obtain ⟨s0, s1, s2, g0, g1, g2⟩ := K1.out.facts)
  have ML : body.length ≤ maxLen := by rw [ZL.out]; unfold maxLen; omega
  exact bodyPost_ret (results_three rfl _ _ w.heap.size 28 #[.int .i64 x0, .slice a1 body.length cc1, .slice none 0 0] (0, 0) _ rfl (leaf_blk K0.out x0 _) Tryz.underlying28 rfl Tryz.sizeNode) rfl ⟨leaf_below B1.out x0 _, .inr ⟨_, k + h + m, _, F2.out, by omega, by omega, rfl, leaf_in (WalkArith.wf_i64 (by omega)) R1.out ML N1.out C1.out Q1.out⟩⟩
end Go.Proofs.YtgmefdmeeihgoaaGreatDoor
namespace Go.Proofs.YtgmefdmeeihgoaaGreatDoor
open Go.RowKit
set_option linter.unusedVariables false
def app (ks : List T) : Except Int (List T) → Except Int (List T)
  | .error e => .error e
  | .ok l => .ok (ks ++ l)
theorem app_nil (r : Except Int (List T)) : app [] r = r := by cases r <;> rfl
theorem kids_bad {deep : Nat} {l : List Int} {z : Int} (h0 : l ≠ []) (e : elemC deep l = .error z) : kidsC deep l = .error z := by
  rw [kidsC_eq h0, e]
theorem kids_one {deep : Nat} {l r : List Int} {t : T} {ks : List T} (h0 : l ≠ []) (e : elemC deep l = .ok (t, r)) : app ks (kidsC deep l) = app (ks ++ [t]) (kidsC deep r) := by
  rw [kidsC_eq h0, e]
  simp only
  cases kidsC deep r with
  | error z => rfl
  | ok x => simp [app]
theorem drop_ne {zs : List Int} {j n : Nat} (hl : zs.length = n) (hj : j < n) : zs.drop j ≠ [] := by
  intro e
  have := congrArg List.length e
  rw [List.length_drop] at this
  simp at this
  omega
structure Mid (w wr : World) (x0 : Int) (deep s e : Nat) (zs' : List Int) (j : Nat) (V : Value) (ks : List T) : Prop where
  lo : s ≤ j
  hi : j ≤ e
  few : ks.length ≤ j - s
  kids : kidsC (deep + 1) (zs'.drop s) = app ks (kidsC (deep + 1) (zs'.drop j))
  res : Blk wr w.heap.size 28 #[.int .i64 0, .slice none 0 0, .slice none 0 0]
  box : Blk wr (w.heap.size + 1) 28 #[.int .i64 x0, .slice none 0 0, V]
  out : NOut w wr (w.heap.size + 1) V ks
  offA : V.ownBlock ≠ some w.heap.size
  offB : V.ownBlock ≠ some (w.heap.size + 1)
theorem Mid.start (w : World) (q : Nat) (x0 : Int) (deep s e : Nat) (zs' : List Int) (h : s ≤ e) : Mid w (bare w q x0) x0 deep s e zs' s (.slice none 0 0) [] :=
  ⟨Nat.le_refl _, h, by simp, (app_nil _).symm, bare_res w q x0, bare_box w q x0, NOut.start (bare_below w q x0) _, by simp [Value.ownBlock], by simp [Value.ownBlock]⟩
theorem Mid.go {w wr w2 : World} {x0 : Int} {deep s e : Nat} {zs' : List Int} {j : Nat} {V : Value} {ks : List T} (h : Mid w wr x0 deep s e zs' j V ks) (hb : Below wr.heap.size wr w2) : Mid w w2 x0 deep s e zs' j V ks :=
  ⟨h.lo, h.hi, h.few, h.kids, h.res.below hb h.res.lt, h.box.below hb h.box.lt, h.out.below hb, h.offA, h.offB⟩
theorem Mid.next {w w2 w3 : World} {x0 : Int} {deep s e : Nat} {zs' : List Int} {j nx : Nat} {V V' : Value} {ks : List T} {t : T} (h : Mid w w2 x0 deep s e zs' j V ks) (h0 : zs'.drop j ≠ []) (he : elemC (deep + 1) (zs'.drop j) = .ok (t, zs'.drop nx)) (h1 : j < nx) (h2 : nx ≤ e)
    (ho : NOut w w3 (w.heap.size + 1) V' (ks ++ [t])) (hat : V'.ownBlock = V.ownBlock ∨ V'.ownBlock = some (w2.heap.size + 1)) (hk : ∀ b, b < w2.heap.size → V.ownBlock ≠ some b → w3.heap[b]? = w2.heap[b]?) : Mid w (w3.setCell ⟨w.heap.size + 1, 2, none⟩ V') x0 deep s e zs' nx V' (ks ++ [t]) := by
  have b1 : Blk w3 (w.heap.size + 1) 28 #[.int .i64 x0, .slice none 0 0, V] := (hk _ h.box.lt h.offB).trans h.box
  have b0 : Blk w3 w.heap.size 28 #[.int .i64 0, .slice none 0 0, .slice none 0 0] := (hk _ h.res.lt h.offA).trans h.res
  have hlt := h.box.lt
  have oA : V'.ownBlock ≠ some w.heap.size := by
    rcases hat with e | e
    · rw [e]; exact h.offA
    · rw [e]; intro e'; injection e' with e'; omega
  have oB : V'.ownBlock ≠ some (w.heap.size + 1) := by
    rcases hat with e | e
    · rw [e]; exact h.offB
    · rw [e]; intro e'; injection e' with e'; omega
  refine ⟨by have := h.lo; omega, h2, ?_, (h.kids).trans (kids_one h0 he), b0.far (by omega) _ _, b1.set 2 V', ho.store (by omega) oB 2 V', oA, oB⟩
  rw [List.length_append]
  have := h.few
  have := h.lo
  simp
  omega
theorem nown_lt {W0 wr : World} {g : Nat} {V : Value} {ks : List T} (h : NOut W0 wr g V ks) : ∀ b, V.ownBlock = some b → b < wr.heap.size := by
  obtain ⟨_, xs, h2, _⟩ := h
  intro b e
  exact (h2.lt b e).2
theorem content_eq (zs : List Int) (k h m : Nat) : ((zs.drop k).drop h).take m = (zs.take (k + h + m)).drop (k + h) := by
  rw [List.drop_drop, List.drop_take]
  congr 1
  omega
def zeroed (w W : World) : World := ((W.setCell ⟨w.heap.size, 0, none⟩ (.int .i64 0)).setCell ⟨w.heap.size, 1, none⟩ (.slice none 0 0)).setCell ⟨w.heap.size, 2, none⟩ (.slice none 0 0)
theorem zeroed_blk {w W : World} (h : Blk W w.heap.size 28 #[.int .i64 0, .slice none 0 0, .slice none 0 0]) : Blk (zeroed w W) w.heap.size 28 #[.int .i64 0, .slice none 0 0, .slice none 0 0] :=
  ((h.set 0 (.int .i64 0)).set 1 (.slice none 0 0)).set 2 (.slice none 0 0)
theorem zeroed_below {w W : World} (h : Below w.heap.size w W) : Below w.heap.size w (zeroed w W) := ((h.setCell (Nat.le_refl _) _).setCell (Nat.le_refl _) _).setCell (Nat.le_refl _) _
def given (w W : World) (x0 : Int) (V : Value) : World := ((W.setCell ⟨w.heap.size, 0, none⟩ (.int .i64 x0)).setCell ⟨w.heap.size, 1, none⟩ (.slice none 0 0)).setCell ⟨w.heap.size, 2, none⟩ V
theorem given_blk {w W : World} (h : Blk W w.heap.size 28 #[.int .i64 0, .slice none 0 0, .slice none 0 0]) (x0 : Int) (V : Value) : Blk (given w W x0 V) w.heap.size 28 #[.int .i64 x0, .slice none 0 0, V] :=
  ((h.set 0 (.int .i64 x0)).set 1 (.slice none 0 0)).set 2 V
theorem given_below {w W : World} (h : Below w.heap.size w W) (x0 : Int) (V : Value) : Below w.heap.size w (given w W x0 V) := ((h.setCell (Nat.le_refl _) _).setCell (Nat.le_refl _) _).setCell (Nat.le_refl _) _
theorem given_in {w W : World} {x0 : Int} {V : Value} {ks : List T} (h : NOut w W (w.heap.size + 1) V ks) (hA : V.ownBlock ≠ some w.heap.size) (hx : (Lit.int .i64 x0).wf = true) : (T.node x0 [] ks).InP (w.heap.size ≤ ·) (given w W x0 V) (.agg #[.int .i64 x0, .slice none 0 0, V]) := by
  have h' : NOut w (given w W x0 V) (w.heap.size + 1) V ks := by
    obtain ⟨hb, xs, hown, hks⟩ := h
    have hne : ∀ b, b ≠ w.heap.size → (given w W x0 V).heap[b]? = W.heap[b]? := fun b hb => by
      unfold given
      rw [heap_setCell_other _ ⟨w.heap.size, 2, none⟩ b V hb, heap_setCell_other _ ⟨w.heap.size, 1, none⟩ b _ hb, heap_setCell_other _ ⟨w.heap.size, 0, none⟩ b _ hb]
    refine ⟨given_below hb x0 V, xs, ⟨hown.1, ?_⟩, fun i hi => ?_⟩
    · rcases hown.2 with h' | ⟨g', cap, cur, e, h1, h2, h3⟩
      · exact .inl h'
      · refine .inr ⟨g', cap, cur, e, h1, ?_, h3⟩
        rw [← h2]
        exact hne g' (fun he => hA (by rw [e, he]; rfl))
    · obtain ⟨v0, v1, v2, e0, e1, e2, hin⟩ := hks i hi
      refine ⟨v0, v1, v2, e0, e1, e2, T.InP.keep (fun b _ hp => ⟨hp, hne b (fun he => ?_)⟩) (by simp [given]) _ hin⟩
      have := hp.1
      omega
  exact h'.done (by omega) hx
set_option maxRecDepth 100000 in
set_option maxHeartbeats 4000000 in
theorem elem_in (N : Nat) (ih : ∀ (a : Option Addr) (n ca k deep : Nat) (zs : List Int) (w : World), Row w a n zs → n ≤ ca → n ≤ 30000 → k ≤ n → deep ≤ 32 → n - k < N →
      Calls Tryz.prog 62 #[.slice a n ca, .int .i64 (k : Int), .int .i64 (n : Int), .int .i64 (deep : Int)] w (GivesElem deep zs k n w))
    (a : Option Addr) (n ca k deep : Nat) (zs : List Int) (w : World) (hr : Row w a n zs) (hnc : n ≤ ca) (hn : n ≤ 30000) (hk : k ≤ n) (hd : deep ≤ 32) (hN : n - k < N + 1) {h m : Nat} (hh : headL (zs.drop k) = .ok (h, m)) (hs : ¬ n < k + h + m) (hdp : ¬ 32 ≤ deep) (hw : withinB (zs[k]?.getD 0) = true) :
    Calls Tryz.prog 62 #[.slice a n ca, .int .i64 (k : Int), .int .i64 (n : Int), .int .i64 (deep : Int)] w (GivesElem deep zs k n w) := by
  have R0 := Lib.hid (hr.below (w' := w.alloc (.cells #[.int .i64 0, .slice none 0 0, .slice none 0 0] 28)) ((Below.refl _ _).alloc (Nat.le_refl _) _))
  have HE := Lib.hid hh
  have hhk := head_ok hh
  have hlen : (zs.drop k).length = n - k := by rw [List.length_drop, hr.1]
  rw [hlen] at hhk
  have hm := head_m (fun z hz => hr.2.1 z (List.mem_of_mem_drop hz)) hh
  have hl2 : ((zs.drop k).drop h).length = n - (k + h) := by rw [List.length_drop, hlen]; omega
  have hs' : ¬ ((zs.drop k).drop h).length < m := by rw [hl2]; omega
  obtain ⟨b, off, rfl, hb, hcell⟩ := R0.out.2.2 (by omega)
  have c0 := hcell k (by omega)
  have z0 := hr.byte k
  have e0 : at0 (zs.drop k) 0 = zs[k]?.getD 0 := by rw [at0_drop]; rfl
  have FB := Lib.hid (fun z => elemC_in_bad (deep := deep) (z := z) hh hs' hdp (by rw [e0]; exact hw))
  have FO := Lib.hid (fun ks => elemC_in_ok (deep := deep) (ks := ks) hh hs' hdp (by rw [e0]; exact hw))
  rw [content_eq, e0, List.drop_drop, List.drop_drop, ← Nat.add_assoc] at FO
  rw [content_eq] at FB
  have WI := Lib.hid hw
  have RZ := Lib.hid (hr.first (k + h + m) (by omega))
  have ZL : Hid ((zs.take (k + h + m)).length = k + h + m) := by rw [List.length_take, hr.1]; exact Lib.hid (by omega)
  have IH := Lib.hid ih
  clear hh hlen hl2 hs' e0 hw hcell ih
  generalize zs.take (k + h + m) = zs' at FB FO RZ ZL
  generalize zs[k]?.getD 0 = x0 at c0 z0 FO WI
  have XW : (Lit.int .i64 x0).wf = true := WalkArith.wf_i64 (by omega)
  go_enter Tryz.func62, Tryz.ntmps62
  go_wp2_with fail
  refine (head_any _ n ca k zs _ R0.out hn hk).mono ?_
  rw [HE.out]
  rintro e w2 ⟨rfl, q, rfl⟩
  go_wp2_with fail
  refine (within_any x0 _ XW).mono ?_
  rintro e w3 ⟨rfl, rfl⟩
  rw [WI.out]
  go_wp2_with fail
  go_loopw [15] (fun i wr => ∃ (j : Nat) (V : Value) (ks : List T), i = .int .i64 (j : Int) ∧ Mid w wr x0 deep (k + h) (k + h + m) zs' j V ks) (fun i _ => k + h + m - (intOf i).toNat)
  case atStart => exact ⟨k + h, _, _, rfl, Mid.start w q x0 deep (k + h) (k + h + m) zs' (by omega)⟩
  case round =>
    obtain ⟨j, V, ks, rfl, hmid⟩ := hrel
    have hlo := hmid.lo
    have hhi := hmid.hi
    have hfew := hmid.few
    obtain ⟨KA, KD, rfl⟩ := hmid.out.form
    have MD := Lib.hid hmid
    clear hmid
    by_cases hj : j < k + h + m
    · have RW := Lib.hid (RZ.out.below MD.out.out.1)
      have NE := Lib.hid (drop_ne ZL.out hj)
      have CI : Hid (∀ (nl : Nat) (ki ei di : Int), nl = k + h + m → ki = (j : Int) → ei = ((k + h + m : Nat) : Int) → di = ((deep + 1 : Nat) : Int) →
          Calls Tryz.prog 62 #[.slice (some ⟨b, off, none⟩) nl ca, .int .i64 ki, .int .i64 ei, .int .i64 di] wr (GivesElem (deep + 1) zs' j (k + h + m) wr)) := by
        intro nl ki ei di h0 h1 h2 h3
        subst h0
        subst h1
        subst h2
        subst h3
        exact IH.out (some ⟨b, off, none⟩) (k + h + m) ca j (deep + 1) zs' wr RW.out (by omega) (by omega) (by omega) (by omega) (by omega)
      go_wp2_with fail
      refine (CI.out _ _ _ _ (by omega) (by omega) (by omega) (by omega)).mono ?_
      rintro e w2 ⟨hb2, hways⟩
      have M2 := Lib.hid (MD.out.go hb2)
      clear CI RW
      rcases hways with ⟨z, hz, rfl⟩ | ⟨t, nx, v, ht, h1, h2, rfl, hin⟩
      · have zr := elemC_err hz
        have KB := Lib.hid (kids_bad NE.out hz)
        have F : Hid (elemC deep (zs.drop k) = .error (if z = 3 then 2 else z)) := FB.out z (by rw [MD.out.kids, KB.out]; rfl)
        have M3 := Lib.hid (M2.out.go (w2 := w2.alloc (.cells #[.int .i64 0, .slice none 0 0, .slice none 0 0] 28)) ((Below.refl _ _).alloc (Nat.le_refl _) _))
        obtain ⟨p0, p1, p2, f0, f1, f2⟩ := M3.out.res.facts
        clear hz MD hb2 M2
        by_cases hz3 : z = 3
        · subst hz3
          go_wp2_with fail
          exact bodyPost_ret (results_three rfl _ _ w.heap.size 28 #[.int .i64 0, .slice none 0 0, .slice none 0 0] (0, 0) _ rfl (zeroed_blk M3.out.res) Tryz.underlying28 rfl Tryz.sizeNode) rfl ⟨zeroed_below M3.out.out.1, .inl ⟨2, F.out, rfl⟩⟩
        · have t3 : (z == 3) = false := by simpa using hz3
          have t0 : (z != 0) = true := by simp; omega
          have F' : Hid (elemC deep (zs.drop k) = .error z) := by rw [F.out, if_neg hz3]; exact Lib.hid rfl
          clear hz3 F
          go_wp2_with fail
          exact bodyPost_ret (results_three rfl _ _ w.heap.size 28 #[.int .i64 0, .slice none 0 0, .slice none 0 0] (0, 0) _ rfl (zeroed_blk M3.out.res) Tryz.underlying28 rfl Tryz.sizeNode) rfl ⟨zeroed_below M3.out.out.1, .inl ⟨z, F'.out, rfl⟩⟩
      · obtain ⟨A, n', c', K', m', d', rfl⟩ := hin.form
        have V0 : Hid (t.InP (Apart (w.heap.size + 1) (.slice KA ks.length KD)) w2 (.agg #[.int .i64 t.tag, .slice A n' c', .slice K' m' d'])) := by
          refine T.InP.keep (fun b hb hp => ⟨⟨?_, fun e => ?_⟩, rfl⟩) (Nat.le_refl _) _ hin
          · have := MD.out.box.lt
            have hp' : wr.heap.size ≤ b := hp
            omega
          · have := nown_lt MD.out.out b e
            have hp' : wr.heap.size ≤ b := hp
            omega
        have M3 := Lib.hid (M2.out.go (w2 := w2.alloc (.cells #[.int .i64 t.tag, .slice A n' c', .slice K' m' d'] 28)) ((Below.refl _ _).alloc (Nat.le_refl _) _))
        have V3 := Lib.hid (T.InP.below (w' := w2.alloc (.cells #[.int .i64 t.tag, .slice A n' c', .slice K' m' d'] 28)) ((Below.refl _ _).alloc (Nat.le_refl _) _) (fun _ h => h) t V0.out)
        have HT := Lib.hid ht
        obtain ⟨p0, p1, p2, f0, f1, f2⟩ := M3.out.box.facts
        clear ht hin V0 MD hb2 M2
        go_wp2_with (at_builtin; refine nout_append (W0 := w) (g := w.heap.size + 1) (V := .slice KA ks.length KD) (ks := ks) (t := t) rfl _ _ rfl rfl M3.out.out V3.out (w2.heap.size + 1) (by simp) rfl (by omega) ?_; intro V4 w4 ho4 hat4 hk4 hb4; clear hb4 p0 p1 p2 f0 f1 f2; obtain ⟨K4, D4, rfl⟩ := ho4.form; rw [show (ks ++ [t]).length = ks.length + 1 by simp] at ho4 hat4; obtain ⟨p0, p1, p2, f0, f1, f2⟩ := (show Blk w4 _ _ _ from (hk4 _ M3.out.box.lt M3.out.offB).trans M3.out.box).facts; have HO4 := Lib.hid ho4; have HA4 := Lib.hid hat4; have HK4 := Lib.hid hk4; clear ho4 hat4 hk4)
        go_roundw
        case rel => exact ⟨nx, _, ks ++ [t], rfl, M3.out.next NE.out HT.out h1 h2 HO4.out (by rw [show (w2.alloc (.cells #[.int .i64 t.tag, .slice A n' c', .slice K' m' d'] 28)).heap.size = w2.heap.size + 1 by simp]; simpa using HA4.out) HK4.out⟩
        case measure => simp [intOf]; omega
    · obtain rfl : j = k + h + m := by omega
      have KN : Hid (kidsC (deep + 1) (zs'.drop (k + h)) = .ok ks) := by
        rw [MD.out.kids, List.drop_of_length_le (by rw [ZL.out]; exact Nat.le_refl _), kidsC_nil]
        simp [app, Hid]
      have F := Lib.hid (FO.out ks KN.out)
      obtain ⟨p0, p1, p2, f0, f1, f2⟩ := MD.out.res.facts
      obtain ⟨s0, s1, s2, g0, g1, g2⟩ := MD.out.box.facts
      go_wp2_with fail
      exact bodyPost_ret (results_three rfl _ _ w.heap.size 28 #[.int .i64 x0, .slice none 0 0, .slice KA ks.length KD] (0, 0) _ rfl (given_blk MD.out.res x0 _) Tryz.underlying28 rfl Tryz.sizeNode) rfl ⟨given_below MD.out.out.1 x0 _, .inr ⟨.node x0 [] ks, k + h + m, _, F.out, by omega, by omega, rfl, given_in MD.out.out MD.out.offA XW⟩⟩
end Go.Proofs.YtgmefdmeeihgoaaGreatDoor
