/-
  What the reference's lay answers, for stage 4 (tlv).
-/
import Derived.Test.YtefdfdnfpacfjaaRight
import Derived.Test.YtefdfdnfpacfjaaFork
namespace Go.Proofs.Ytefdfdnfpacfjaa
open Go.RowKit

/- An element's bytes. -/
mutual
def layT : T → List Int
  | .node t b ks => t :: (lenB (b.length + (layAll ks).length : Nat) ++ (b ++ layAll ks))
def layAll : List T → List Int
  | [] => []
  | x :: r => layT x ++ layAll r
end
theorem layT_eq (t : T) : layT t = t.tag :: (lenB (t.body.length + (layAll t.kids).length : Nat) ++ (t.body ++ layAll t.kids)) := by
  obtain ⟨tag, b, ks⟩ := t
  rw [layT]
  rfl
theorem lay_le (t : T) : ((layT t).length : Int) ≤ 5 * wt t := by
  refine T.each (p := fun t => ((layT t).length : Int) ≤ 5 * wt t) ?_ t
  intro t ih
  have key : ∀ ks : List T, (∀ t ∈ ks, ((layT t).length : Int) ≤ 5 * wt t) → ((layAll ks).length : Int) ≤ 5 * wtAll ks := by
    intro ks
    induction ks with
    | nil => intro _; simp [layAll, wtAll]
    | cons k r ihr =>
      intro h
      rw [layAll, wtAll, List.length_append]
      have := h k (by simp)
      have := ihr (fun x hx => h x (by simp [hx]))
      omega
  have h := key t.kids ih
  rw [layT_eq, wt_eq, List.length_cons, List.length_append, List.length_append]
  have := lenB_length ((t.body.length + (layAll t.kids).length : Nat) : Int)
  have := lenLen_range ((t.body.length + (layAll t.kids).length : Nat) : Int)
  have := wtAll_pos t.kids
  omega
theorem layAll_le (ks : List T) : ((layAll ks).length : Int) ≤ 5 * wtAll ks := by
  induction ks with
  | nil => simp [layAll, wtAll]
  | cons k r ih =>
    rw [layAll, wtAll, List.length_append]
    have := lay_le k
    omega
theorem wtAll_take (ks : List T) : ∀ k : Nat, wtAll (ks.take k) ≤ wtAll ks := by
  induction ks with
  | nil => intro k; simp
  | cons x r ih =>
    intro k
    cases k with
    | zero => rw [List.take_zero, wtAll]; exact wtAll_pos _
    | succ k =>
      rw [List.take_succ_cons, wtAll, wtAll]
      have := ih k
      omega
theorem layAll_take {ks : List T} {i : Nat} {k : T} (h : ks[i]? = some k) : layAll (ks.take (i + 1)) = layAll (ks.take i) ++ layT k := by
  obtain ⟨hi, rfl⟩ := List.getElem?_eq_some_iff.1 h
  have key : ∀ (xs ys : List T), layAll (xs ++ ys) = layAll xs ++ layAll ys := by
    intro xs ys
    induction xs with
    | nil => rw [layAll]; rfl
    | cons x r ih => rw [List.cons_append, layAll, layAll, ih, List.append_assoc]
  rw [List.take_succ_eq_append_getElem hi, key]
  congr 1
  rw [layAll, layAll, List.append_nil]

theorem tag_byte {z : Int} (h : tagB z = true) : 0 ≤ z ∧ z ≤ 255 := by
  unfold tagB at h
  simp only [Bool.and_eq_true, decide_eq_true_iff] at h
  omega
theorem lay_byte (t : T) : ∀ {w : World} {v : Value}, t.In w v → rightT t = true → ∀ z ∈ layT t, 0 ≤ z ∧ z ≤ 255 := by
  refine T.each (p := fun t => ∀ {w : World} {v : Value}, t.In w v → rightT t = true → ∀ z ∈ layT t, 0 ≤ z ∧ z ≤ 255) ?_ t
  clear t
  intro t ih w v hin hrt z hz
  obtain ⟨A, n, c, K, m, d, rfl, _, hr, _, _, hm, _, hks⟩ := hin.open
  obtain ⟨h1, _, _, h4⟩ := right_parts hrt
  have key : ∀ ks : List T, (∀ k ∈ ks, ∀ z ∈ layT k, 0 ≤ z ∧ z ≤ 255) → ∀ z ∈ layAll ks, 0 ≤ z ∧ z ≤ 255 := by
    intro ks
    induction ks with
    | nil => intro _ z hz; simp [layAll] at hz
    | cons k r ihr =>
      intro h z hz
      rw [layAll] at hz
      rcases List.mem_append.1 hz with hz | hz
      · exact h k (by simp) z hz
      · exact ihr (fun x hx => h x (by simp [hx])) z hz
  rw [layT_eq] at hz
  rcases List.mem_cons.1 hz with rfl | hz
  · exact tag_byte h1
  rcases List.mem_append.1 hz with hz | hz
  · exact lenB_byte (by omega) z hz
  rcases List.mem_append.1 hz with hz | hz
  · exact hr.2.1 z hz
  refine key t.kids (fun k hk => ?_) z hz
  obtain ⟨i, hi, rfl⟩ := List.mem_iff_getElem.1 hk
  obtain ⟨b, off, _, _, v0, v1, v2, _, _, _, hin'⟩ := hks i (by omega)
  rw [List.getElem?_eq_getElem hi, Option.getD_some] at hin'
  exact ih _ hk hin' (h4 _ hk)

/-- A row of bytes that a call hands back. -/
def GivesRow (zs : List Int) (w : World) (e : Ending) (w' : World) : Prop :=
  ∃ a c, e = .returned (.slice a zs.length c) ∧ Row w' a zs.length zs ∧ (a = none → c = 0) ∧ Below w.heap.size w w'
theorem Out.nilc {W0 wr : World} {a : Option Addr} {n c : Nat} {L : List Int} (h : Out W0 wr (.slice a n c) L) : a = none → c = 0 := by
  intro e
  subst e
  rcases h.1.2 with ⟨e, _⟩ | ⟨g, cap, cur, e, _⟩
  · injection e
  · cases e

/-- Bytes are appended, as one operation. -/
theorem out_op {o : Oper} {a : Act} {K : Act → World → Prop} {Q : Exit → Act → World → Prop} {W0 w : World} {V : Value} {L zs : List Int} {A : Option Addr} {m c : Nat} (s x : Operand)
    (hop : o.op = .call { callee := .builtin .append, args := #[s, x], argTypes := #[22, 22] }) (hs : a.eval s = V) (hout : Out W0 w V L) (hx : a.eval x = .slice A m c) (hr : Row w A m zs) (hnil : A = none → c = 0) (hl : L.length + m ≤ 1000000)
    (h : ∀ V' w', Out W0 w' V' (L ++ zs) → Below W0.heap.size w w' → K (a.put o.dst V') w') : o.wp Try.prog a w K Q := by
  obtain ⟨i0, hi5, hz0, hz1, hz2⟩ := info_parts Try.infoByte
  cases A with
  | none =>
    obtain rfl := hnil rfl
    have hm : m = 0 := by
      rcases Nat.eq_zero_or_pos m with h0 | h0
      · exact h0
      · obtain ⟨_, _, e, _⟩ := hr.2.2 h0
        cases e
    subst hm
    obtain rfl : zs = [] := List.eq_nil_of_length_eq_zero hr.1
    have hrun := run_append_owned_none (P := Try.prog) (w := w) W0.heap.size 22 o.type 5 i0 1 Try.underlying22 hi5 V L.length _ hout.1
    unfold Oper.wp
    simp [execOp, hop, resolve, invoke, builtin, hs, hx, hrun, Result.andThen]
    exact h V w (by simpa using hout) (Below.refl _ _)
  | some ad =>
    refine wp_append_own w s x 22 hop W0.heap.size 5 i0 (.int .u8 0) 1 1 Try.underlying22 hi5 hz0 hz1 hz2 rfl (by decide) V L.length (L.map (Value.int .u8)) hs hout.1 ad m c (zs.map (Value.int .u8)) hx (by rw [List.length_map, hr.1, Nat.mul_one]) hr.cells ?_ (by unfold maxLen; omega) (by omega) hout.2.size ?_
    · intro u hu
      obtain ⟨_, _, rfl⟩ := List.mem_map.1 hu
      rfl
    · intro V' w' hown hg _
      have hb : Below W0.heap.size w w' := (Below.refl _ _).grown hg hout.2.size (fun k hk => (hout.1.lt k hk).1)
      refine h V' w' ⟨?_, hout.2.trans hb⟩ hb
      rw [List.length_append, hr.1, List.map_append]
      exact hown

theorem out_empty {w : World} {o : Obj} : Out (w.alloc o) ((w.alloc o).alloc (.cells #[] 5)) (.slice (some ⟨w.heap.size + 1, 0, none⟩) 0 0) [] := by
  have h := Out.made (W0 := w.alloc o) 0 (by omega)
  rw [show (w.alloc o).heap.size = w.heap.size + 1 by simp, show madeCells #[.int .u8 0] 0 = #[] by simp [madeCells]] at h
  exact h
/-- W goes on from w, and nothing below block B has turned. -/
def Past (B : Nat) (w W : World) : Prop := Below B w W
theorem Past.refl (B : Nat) (w : World) : Past B w w := Below.refl _ _
theorem Past.trans {B : Nat} {a b c : World} (h : Past B a b) (k : Past B b c) : Past B a c := Below.trans h k
theorem Past.of {B : Nat} {w W : World} (h : Below w.heap.size w W) (hB : B ≤ w.heap.size) : Past B w W := h.mono hB
theorem Past.alloc {B : Nat} {w : World} (hB : B ≤ w.heap.size) (o : Obj) : Past B w (w.alloc o) := (Below.refl _ _).alloc hB o
theorem Blk.past {wr W : World} {g B : Nat} {t : TypeId} {cs : Array Value} (h : Blk wr g t cs) (hg : g < B) (hW : Past B wr.drew W) (j : Nat) {v : Value} (hv : cs[j]? = some v) : W.cell? ⟨g, j, none⟩ = some v :=
  ((Below.cell (p := ⟨g, j, none⟩) hW hg).trans (h.cell j)).trans hv
theorem Past.real {B : Nat} {wr W : World} (hB : B = wr.heap.size) (h : Past B wr.drew W) : Below wr.heap.size wr W := by
  subst hB
  exact ⟨h.os, h.tape, h.output, h.size, h.block⟩
/-- A new slice of one byte. -/
theorem out_one (w : World) (z : Int) : Out w (w.alloc (.cells #[.int .u8 z] 5)) (.slice (some ⟨w.heap.size, 0, none⟩) 1 1) [z] :=
  ⟨⟨rfl, .inr ⟨w.heap.size, 1, #[.int .u8 z], rfl, Nat.le_refl _, heap_alloc_new w _, Nat.le_refl _, by unfold maxLen; omega, rfl, rfl⟩⟩, (Below.refl _ _).alloc (Nat.le_refl _) _⟩
theorem gives_out {w X wr : World} {V : Value} {L zs : List Int} (h : Out X wr V L) (e : zs = L) (hz : ∀ z ∈ zs, 0 ≤ z ∧ z ≤ 255) (hb : Below w.heap.size w wr) : GivesRow zs w (.returned V) wr := by
  subst e
  obtain ⟨a, c, rfl, hr⟩ := h.row hz
  exact ⟨a, c, rfl, hr, h.nilc, hb⟩
/-- A box that was laid just ahead of W0's end. -/
theorem Box.out {w wr : World} {t : T} {A : Option Addr} {n c : Nat} {K : Option Addr} {m d : Nat} {W0 : World} (h : Box w W0 w.heap.size t A n c K m d) (hb : Below W0.heap.size W0 wr) : Box w wr w.heap.size t A n c K m d := h.go hb

set_option maxHeartbeats 4000000 in
theorem lay_any (t : T) : ∀ (v : Value) (w : World), t.In w v → tagB t.tag = true → rightT t = true → wt t < 30000 → Calls Try.prog 24 #[v] w (GivesRow (layT t) w) := by
  refine T.each (p := fun t => ∀ (v : Value) (w : World), t.In w v → tagB t.tag = true → rightT t = true → wt t < 30000 → Calls Try.prog 24 #[v] w (GivesRow (layT t) w)) ?_ t
  clear t
  intro t ih v w hin htg hrt hwt
  obtain ⟨A, n, c, K, m, d, rfl, hw, hr, hn, hc, hm, hm', hks⟩ := hin.open
  have BX := Lib.hid (Box.start hin)
  have IH := Lib.hid ih
  have HM := Lib.hid hm
  have HR := Lib.hid hr
  have RP := Lib.hid (right_parts hrt)
  have EL := Lib.hid (layT_eq t)
  have htb := tag_byte htg
  have HC := Lib.hid hc
  have hbl : n ≤ 30000 := by
    have := wt_eq t
    have := wtAll_pos t.kids
    have := hr.1
    omega
  have WE := Lib.hid (wt_eq t)
  have LBY := Lib.hid (lay_byte t hin hrt)
  clear hin ih hr hc hm hks htg hrt
  unfold maxLen at hn hm'
  go_enter Try.func24, Try.ntmps24
  go_wp2_with (at_builtin; refine out_append (W0 := w.alloc (.cells #[.int .i64 t.tag, .slice A n c, .slice K m d] 26)) (L := []) (zs := t.body) rfl _ _ rfl rfl out_empty rfl ((HR.out.below ((Below.refl _ _).alloc (Nat.le_refl _) _)).below ((Below.refl _ _).alloc (Nat.le_refl _) _)) HC.out (by simp; omega) ?_; intro V1 w1 ho1; have HO1 := Lib.hid ho1; clear ho1)
  go_loopw [3, 4] (fun V i wr => ∃ k : Nat, k ≤ m ∧ i = .int .i64 (k : Int) ∧ Out (w.alloc (.cells #[.int .i64 t.tag, .slice A n c, .slice K m d] 26)) wr V (t.body ++ layAll (t.kids.take k))) (fun _ i _ => m - (intOf i).toNat)
  case atStart => exact ⟨0, by omega, rfl, by simpa [layAll] using HO1.out⟩
  case round =>
    obtain ⟨k, hk, rfl, hout⟩ := hrel
    have HO := Lib.hid hout
    have HB := Lib.hid (BX.out.out hout.2)
    obtain ⟨g0, g1, g2⟩ := HB.out.cells
    clear hout BX HO1
    by_cases hlt : k < m
    · obtain ⟨x, bb, off, zz, A', n', c', K', m', d', hx, rfl, c0, c1, c2, hxin⟩ := HB.out.kid k hlt
      have hxm := List.mem_of_getElem? hx
      have hwx := wt_kid hxm
      have hxr := RP.out.2.2.2 x hxm
      have CI := Lib.hid (IH.out x hxm _ wr hxin (right_parts hxr).1 hxr (by omega))
      have LT : Hid (t.body ++ layAll (t.kids.take (k + 1)) = t.body ++ layAll (t.kids.take k) ++ layT x) := by
        rw [layAll_take hx, List.append_assoc]
        exact Lib.hid rfl
      have hlx := lay_le x
      have hll : ((t.body ++ layAll (t.kids.take k)).length : Int) ≤ 200000 := by
        have h1 := layAll_le (t.kids.take k)
        have h2 := wtAll_take t.kids k
        have h3 := WE.out
        rw [List.length_append]
        omega
      clear hx hxm hxr hxin
      generalize t.body ++ layAll (t.kids.take k) = L at HO hll LT
      go_wp2_with fail
      refine CI.out.mono ?_
      rintro e w2 ⟨a2, cc2, rfl, hrow, hnil, hb2⟩
      have HO2 := Lib.hid (HO.out.below hb2)
      have R2 := Lib.hid hrow
      have HN := Lib.hid hnil
      clear hrow hnil hb2
      go_wp2_with (at_builtin; refine out_append (L := L) (zs := layT x) rfl _ _ rfl rfl HO2.out rfl R2.out HN.out (by omega) ?_; intro V3 w3 ho3; have HO3 := Lib.hid ho3; clear ho3)
      go_roundw
      case rel => exact ⟨k + 1, by omega, by go_num, by rw [LT.out]; exact HO3.out⟩
      case measure => simp [intOf]; omega
    · have hall : t.kids.take k = t.kids := List.take_of_length_le (by rw [HM.out]; omega)
      rw [hall] at HO
      have hll : ((t.body ++ layAll t.kids).length : Int) ≤ 200000 := by
        have h1 := layAll_le t.kids
        have h3 := WE.out
        rw [List.length_append]
        omega
      have EL' : Hid (layT t = [t.tag] ++ lenB ((t.body ++ layAll t.kids).length : Int) ++ (t.body ++ layAll t.kids)) := by
        rw [EL.out, List.length_append, List.append_assoc, List.singleton_append]
        exact Lib.hid rfl
      have hby : ∀ z ∈ t.body ++ layAll t.kids, 0 ≤ z ∧ z ≤ 255 := by
        intro z hz
        refine LBY.out z ?_
        rw [EL.out]
        exact List.mem_cons_of_mem _ (List.mem_append_right _ hz)
      clear hall EL
      generalize t.body ++ layAll t.kids = L at HO hll EL' hby
      obtain ⟨a2, cc2, rfl, hrow⟩ := HO.out.row hby
      have R2 := Lib.hid hrow
      have HN := Lib.hid HO.out.nilc
      have hB : w.heap.size ≤ wr.heap.size := HB.out.below.size
      obtain ⟨B, hBe⟩ : ∃ B, B = wr.heap.size := ⟨_, rfl⟩
      have HBe := Lib.hid hBe
      have lg : ∀ W, Past B wr.drew W → W.cell? ⟨w.heap.size, 0, none⟩ = some (.int .i64 t.tag) := fun W hW => HB.out.blk.past (by rw [hBe]; exact HB.out.blk.lt) hW 0 rfl
      clear hBe
      clear hrow
      go_wp2_with fail
      clear g0 g1 g2
      refine wp_region_plan (Past B) (Past.refl B) (fun _ _ _ => Past.trans) (.take 0 (.take 1 (.take 2 (.take 4 (.take 5 (.take 8 (.fork 3 (.sole 6 (.sole 7 (.sole 9 (.take 10 .fin)))) 6 (.sole 3 (.sole 7 (.sole 9 (.take 10 .fin))))))))))) (by kernel_rfl) (by kernel_rfl) rfl (by kernel_rfl) (fun _ _ _ _ _ h => h) ?_
      repeat (refine plan_take _ rfl (by rfl) (fun W hW => by go_simp; first | done | rfl) ?_; simp only [Act.put, List.setIfInBounds_toArray, List.set_cons_zero, List.set_cons_succ])
      have wx : IntKind.u8.wrap t.tag = t.tag := IntWalk.u8_in _ (by omega)
      refine plan_fork ?_ ?_
      · refine sole_take rfl (by rfl) (fun K1 hK1 => ?_)
        go_simp
        have OA0 := Lib.hid (out_one wr.drew t.tag)
        refine hK1 _ _ (Past.alloc (by rw [HBe.out]; exact Nat.le_refl _) _) ?_
        clear hK1 K1
        refine plan_sole ?_
        refine sole_take rfl (by rfl) (fun K1 hK1 => ?_)
        go_simp
        refine (length_any _ _ (by omega) (by omega)).mono ?_
        rintro e w6 ⟨a6, c6, rfl, hr6, hb6⟩
        have OA := Lib.hid (OA0.out.below hb6)
        have RL := Lib.hid hr6
        have P6 : Hid (Past B wr.drew w6) := Past.trans (Past.alloc (by rw [HBe.out]; exact Nat.le_refl _) _) (Past.of hb6 (by rw [HBe.out]; simp))
        refine hK1 _ _ (Past.of hb6 (by rw [HBe.out]; simp)) ?_
        clear hK1 K1 hr6 hb6 OA0
        have hXB : B ≤ wr.drew.heap.size := by rw [HBe.out]; exact Nat.le_refl _
        refine plan_sole ?_
        refine sole_take rfl (by rfl) (fun K1 hK1 => ?_)
        refine out_op (W0 := wr.drew) (L := [t.tag]) (zs := lenB (L.length : Int)) _ _ rfl rfl OA.out rfl RL.out (fun e => by cases e) (by have := lenB_three (L.length : Int); simp; omega) ?_
        intro V7 w7 ho7 hb7
        have P7 := Lib.hid (Past.trans P6.out (show Past B _ w7 from hb7.mono hXB))
        have O7 := Lib.hid ho7
        refine hK1 _ _ (hb7.mono hXB) ?_
        clear hK1 K1 ho7 hb7
        simp only [Act.put, List.setIfInBounds_toArray, List.set_cons_zero, List.set_cons_succ]
        refine plan_sole ?_
        refine sole_take rfl (by rfl) (fun K1 hK1 => ?_)
        refine out_op (W0 := wr.drew) (L := [t.tag] ++ lenB (L.length : Int)) (zs := L) _ _ rfl rfl O7.out rfl (R2.out.below (Past.real HBe.out P7.out)) HN.out (by have := lenB_three (L.length : Int); simp; omega) ?_
        intro V9 w9 ho9 hb9
        have P9 := Lib.hid (Past.trans P7.out (show Past B _ w9 from hb9.mono hXB))
        have O9 := Lib.hid ho9
        refine hK1 _ _ (hb9.mono hXB) ?_
        clear hK1 K1 ho9 hb9
        simp only [Act.put, List.setIfInBounds_toArray, List.set_cons_zero, List.set_cons_succ]
        refine plan_take _ rfl (by rfl) (fun W hW => by go_simp; first | done | rfl) ?_; simp only [Act.put, List.setIfInBounds_toArray, List.set_cons_zero, List.set_cons_succ]
        refine plan_end ?_
        have GR := Lib.hid (gives_out (w := w) O9.out (zs := layT t) EL'.out LBY.out (Below.step HB.out.below (Past.real HBe.out P9.out)))
        clear O9 P9 O7 P7 P6 OA RL hXB
        go_wp2_with fail
        go_ret
        exact GR.out
      · refine sole_take rfl (by rfl) (fun K1 hK1 => ?_)
        go_simp
        refine (length_any _ _ (by omega) (by omega)).mono ?_
        rintro e w6 ⟨a6, c6, rfl, hr6, hb6⟩
        have P5 : Hid (Past B wr.drew w6) := Past.of hb6 (by rw [HBe.out]; exact Nat.le_refl _)
        have RL0 := Lib.hid hr6
        have hXB : B ≤ w6.heap.size := by rw [HBe.out]; exact hb6.size
        refine hK1 _ _ P5.out ?_
        clear hK1 K1 hr6 hb6
        refine plan_sole ?_
        refine sole_take rfl (by rfl) (fun K1 hK1 => ?_)
        go_simp
        have OA := Lib.hid (out_one w6 t.tag)
        have RL := Lib.hid (RL0.out.below ((Below.refl _ _).alloc (Nat.le_refl _) (.cells #[.int .u8 t.tag] 5)))
        have P6 : Hid (Past B wr.drew (w6.alloc (.cells #[.int .u8 t.tag] 5))) := Past.trans P5.out (Past.alloc hXB _)
        refine hK1 _ _ (Past.alloc hXB _) ?_
        clear hK1 K1 RL0 P5
        refine plan_sole ?_
        refine sole_take rfl (by rfl) (fun K1 hK1 => ?_)
        refine out_op (W0 := w6) (L := [t.tag]) (zs := lenB (L.length : Int)) _ _ rfl rfl OA.out rfl RL.out (fun e => by cases e) (by have := lenB_three (L.length : Int); simp; omega) ?_
        intro V7 w7 ho7 hb7
        have P7 := Lib.hid (Past.trans P6.out (show Past B _ w7 from hb7.mono hXB))
        have O7 := Lib.hid ho7
        refine hK1 _ _ (hb7.mono hXB) ?_
        clear hK1 K1 ho7 hb7
        simp only [Act.put, List.setIfInBounds_toArray, List.set_cons_zero, List.set_cons_succ]
        refine plan_sole ?_
        refine sole_take rfl (by rfl) (fun K1 hK1 => ?_)
        refine out_op (W0 := w6) (L := [t.tag] ++ lenB (L.length : Int)) (zs := L) _ _ rfl rfl O7.out rfl (R2.out.below (Past.real HBe.out P7.out)) HN.out (by have := lenB_three (L.length : Int); simp; omega) ?_
        intro V9 w9 ho9 hb9
        have P9 := Lib.hid (Past.trans P7.out (show Past B _ w9 from hb9.mono hXB))
        have O9 := Lib.hid ho9
        refine hK1 _ _ (hb9.mono hXB) ?_
        clear hK1 K1 ho9 hb9
        simp only [Act.put, List.setIfInBounds_toArray, List.set_cons_zero, List.set_cons_succ]
        refine plan_take _ rfl (by rfl) (fun W hW => by go_simp; first | done | rfl) ?_; simp only [Act.put, List.setIfInBounds_toArray, List.set_cons_zero, List.set_cons_succ]
        refine plan_end ?_
        have GR := Lib.hid (gives_out (w := w) O9.out (zs := layT t) EL'.out LBY.out (Below.step HB.out.below (Past.real HBe.out P9.out)))
        clear O9 P9 O7 P7 P6 OA RL hXB
        go_wp2_with fail
        go_ret
        exact GR.out

end Go.Proofs.Ytefdfdnfpacfjaa
