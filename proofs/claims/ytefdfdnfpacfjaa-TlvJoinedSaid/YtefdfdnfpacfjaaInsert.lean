/-
  What slices.Insert answers for a row of bytes with room, for stage 4 (tlv).
-/
import Derived.Test.YtefdfdnfpacfjaaOver
import Derived.Test.YtefdfdnfpacfjaaLay
import Derived.Laws.CopyOwn
import Derived.Deep.DeepMust
import Derived.Deep.DeepAppendRoom
namespace Go.Proofs.Ytefdfdnfpacfjaa
open Go.RowKit

/-- Block g is the call's own, has room for cap bytes, and begins with the bytes L. -/
def Buf (B : Nat) (w : World) (g cap : Nat) (L : List Int) : Prop := w.ownsRow B 5 1 (.slice (some ⟨g, 0, none⟩) L.length cap) L.length (L.map (Value.int .u8))
theorem Buf.open {B : Nat} {w : World} {g cap : Nat} {L : List Int} (h : Buf B w g cap L) : ∃ cur : Array Value, B ≤ g ∧ Blk w g 5 cur ∧ L.length ≤ cap ∧ cap ≤ maxLen ∧ cur.size = cap ∧ cur.toList.take L.length = L.map (Value.int .u8) := by
  rcases h.2 with ⟨e, _⟩ | ⟨g', cap', cur, e, h1, h2, h3, h4, h5, h6⟩
  · cases e
  · obtain ⟨rfl, rfl⟩ : g = g' ∧ cap = cap' := by simpa using e
    exact ⟨cur, h1, h2, h3, h4, by omega, by simpa using h6⟩
theorem Buf.of {B : Nat} {w : World} {g cap : Nat} {L : List Int} {cur : Array Value} (h1 : B ≤ g) (h2 : Blk w g 5 cur) (h3 : L.length ≤ cap) (h4 : cap ≤ maxLen) (h5 : cur.size = cap) (h6 : cur.toList.take L.length = L.map (Value.int .u8)) : Buf B w g cap L :=
  ⟨by simp, .inr ⟨g, cap, cur, rfl, h1, h2, h3, h4, by omega, by simpa using h6⟩⟩
theorem Buf.kept {B : Nat} {w w' : World} {g cap : Nat} {L : List Int} (h : Buf B w g cap L) (hb : w'.heap[g]? = w.heap[g]?) : Buf B w' g cap L := by
  obtain ⟨cur, h1, h2, h3, h4, h5, h6⟩ := h.open
  exact Buf.of h1 (hb.trans h2) h3 h4 h5 h6

/-- The row behind the two copies. -/
theorem ins_row {cur : List Value} {L zs : List Int} {i cap : Nat} (hi : i ≤ L.length) (hc : cur.length = cap) (hroom : L.length + zs.length ≤ cap) (h6 : cur.take L.length = L.map (Value.int .u8)) :
    (splice (splice cur (i + zs.length) ((L.drop i).map (Value.int .u8))) i (zs.map (Value.int .u8))).length = cap ∧
    (splice (splice cur (i + zs.length) ((L.drop i).map (Value.int .u8))) i (zs.map (Value.int .u8))).take (L.length + zs.length) = (L.take i ++ (zs ++ L.drop i)).map (Value.int .u8) := by
  have hl : (L.drop i).length = L.length - i := List.length_drop
  have h1 : (splice cur (i + zs.length) ((L.drop i).map (Value.int .u8))).length = cap := by
    rw [length_splice _ _ _ (by rw [List.length_map, hl]; omega), hc]
  refine ⟨by rw [length_splice _ _ _ (by rw [List.length_map, h1]; omega), h1], ?_⟩
  have e0 : cur.take i = (L.take i).map (Value.int .u8) := by
    rw [List.map_take, ← h6, List.take_take]
    congr 1
    omega
  have e1 : (splice cur (i + zs.length) ((L.drop i).map (Value.int .u8))).take i = (L.take i).map (Value.int .u8) := by
    unfold splice
    rw [List.take_append_of_le_length (by rw [List.length_take]; omega), List.take_take, ← e0]
    congr 1
    omega
  have e2 : (splice cur (i + zs.length) ((L.drop i).map (Value.int .u8))).drop (i + zs.length) = (L.drop i).map (Value.int .u8) ++ cur.drop (L.length + zs.length) := by
    unfold splice
    rw [List.drop_append_of_le_length (by rw [List.length_take]; omega), List.drop_take, List.length_map, hl]
    rw [show i + zs.length - (i + zs.length) = 0 by omega, List.take_zero, List.nil_append]
    congr 2
    omega
  unfold splice at e1 e2 ⊢
  rw [e1, List.length_map, e2, ← List.append_assoc, ← List.append_assoc, List.take_append_of_le_length (by simp; omega), List.take_of_length_le (by simp; omega)]
  simp

def GivesIns (B g cap : Nat) (L : List Int) (w : World) (e : Ending) (w' : World) : Prop :=
  e = .returned (.slice (some ⟨g, 0, none⟩) L.length cap) ∧ Buf B w' g cap L ∧ w.grownBy w' (some g)

theorem grown_drew {w w' : World} {r : Option Nat} (h : w.drew.grownBy w' r) : w.grownBy w' r := ⟨h.os, h.tape, h.output, h.size, h.block⟩

set_option maxHeartbeats 2000000 in
theorem insert_end (B g cap b : Nat) (L zs : List Int) (w : World) (hbuf : Buf B w g cap L) (hv : Blk w b 5 (zs.map (Value.int .u8)).toArray) (hz : 0 < zs.length) (hroom : L.length + zs.length ≤ cap) :
    Calls Try.prog 33 #[.slice (some ⟨g, 0, none⟩) L.length cap, .int .i64 (L.length : Int), .slice (some ⟨b, 0, none⟩) zs.length zs.length] w (GivesIns B g cap (L ++ zs) w) := by
  obtain ⟨i0, hi5, hz0, hz1, hz2⟩ := info_parts Try.infoByte
  obtain ⟨cur, h1, h2, h3, h4, h5, h6⟩ := hbuf.open
  unfold maxLen at h4
  have HB := Lib.hid hbuf
  have HV := Lib.hid hv
  clear hbuf hv h1 h2 h5 h6 hz0 hz2
  have CE : Hid (∀ j u, (zs.map (Value.int .u8))[j]? = some u → w.cell? ((⟨b, 0, none⟩ : Addr).add j) = some u) := by
    intro j u hu
    rw [Addr.add_lit, Nat.zero_add, HV.out.cell j]
    simpa using hu
  have t0 : ((zs.length : Int) == 0) = false := by simp; intro h; rw [h] at hz; simp at hz
  go_enter Try.func33, Try.ntmps33
  go_wp2_with (at_builtin; refine wpList_append_own_spare _ rfl _ _ 22 rfl B 5 i0 1 Try.underlying22 hi5 hz1 g L.length cap (L.map (Value.int .u8)) rfl HB.out ⟨b, 0, none⟩ zs.length zs.length (zs.map (Value.int .u8)) rfl (by simp) CE.out ?one hroom ?next)
  case one =>
    intro u hu
    obtain ⟨_, _, rfl⟩ := List.mem_map.1 hu
    rfl
  case next =>
    intro w1 hown hg1
    have HO := Lib.hid hown
    have HG := Lib.hid hg1
    clear hown hg1
    go_wp2_with fail
    go_ret
    refine ⟨by rw [List.length_append]; rfl, ?_, HG.out⟩
    unfold Buf
    rw [List.length_append, List.map_append]
    exact HO.out

/-- A copy within a row that is known whole. -/
theorem copy_op {o : Oper} {a : Act} {K : Act → World → Prop} {Q : Exit → Act → World → Prop} {w : World} (d s : Operand) (hop : o.op = .call { callee := .builtin .copy, args := #[d, s], argTypes := #[22, 22] })
    (g off dLen dCap : Nat) (ad : Addr) (sLen sCap : Nat) (hd : a.eval d = .slice (some ⟨g, off, none⟩) dLen dCap) (hs : a.eval s = .slice (some ad) sLen sCap)
    (cur : List Value) (hg : Blk w g 5 cur.toArray) (cs : List Value) (hn : cs.length = Nat.min sLen dLen) (hsrc : ∀ j v, cs[j]? = some v → w.cell? (ad.add j) = some v) (hfit : off + cs.length ≤ cur.length) (h1 : ∀ v ∈ cs, v.oneCell' = true)
    (h : ∀ w', Blk w' g 5 (splice cur off cs).toArray → w.grownBy w' (some g) → K (a.put o.dst (goInt cs.length)) w') : o.wp Try.prog a w K Q := by
  have hrun := run_copy_row (P := Try.prog) w 22 22 o.type 5 g off dLen dCap ad sLen sCap cur.toArray 5 cs Try.underlying22 Try.sizeU8 hg hn hsrc (by simpa using hfit) h1
  unfold Oper.wp
  simp [execOp, hop, resolve, invoke, builtin, hd, hs, hrun, Result.andThen]
  refine h _ (show _ = _ by simpa [splice] using setRow_heap w g _ _ _ _ hg) ⟨rfl, rfl, rfl, by simp [World.setRow], fun k _ hk => ?_⟩
  exact setRow_other w g k _ (fun e => hk (by simp [e]))

theorem copy_list {ops : Array Oper} {rest : List Oper} {o : Oper} {a : Act} {Q : Exit → Act → World → Prop} {w : World} (hgd : o.guard = none) (d s : Operand) (hop : o.op = .call { callee := .builtin .copy, args := #[d, s], argTypes := #[22, 22] })
    (g off dLen dCap : Nat) (ad : Addr) (sLen sCap : Nat) (hd : a.eval d = .slice (some ⟨g, off, none⟩) dLen dCap) (hs : a.eval s = .slice (some ad) sLen sCap)
    (cur : List Value) (hg : Blk w g 5 cur.toArray) (cs : List Value) (hn : cs.length = Nat.min sLen dLen) (hsrc : ∀ j v, cs[j]? = some v → w.cell? (ad.add j) = some v) (hfit : off + cs.length ≤ cur.length) (h1 : ∀ v ∈ cs, v.oneCell' = true)
    (h : ∀ w', Blk w' g 5 (splice cur off cs).toArray → w.grownBy w' (some g) → wpList Try.prog ops Q rest (a.put o.dst (goInt cs.length)) w') : wpList Try.prog ops Q (o :: rest) a w :=
  wpList_plain hgd fun _ hK => copy_op d s hop g off dLen dCap ad sLen sCap hd hs cur hg cs hn hsrc hfit h1 fun w' h1 h2 => hK _ _ (h w' h1 h2)

set_option maxHeartbeats 4000000 in
theorem insert_mid (B g cap b i : Nat) (L zs : List Int) (w : World) (hbuf : Buf B w g cap L) (hv : Blk w b 5 (zs.map (Value.int .u8)).toArray) (hbg : b ≠ g) (hz : 0 < zs.length) (hi : i < L.length) (hroom : L.length + zs.length ≤ cap) :
    Calls Try.prog 33 #[.slice (some ⟨g, 0, none⟩) L.length cap, .int .i64 (i : Int), .slice (some ⟨b, 0, none⟩) zs.length zs.length] w (GivesIns B g cap (L.take i ++ (zs ++ L.drop i)) w) := by
  obtain ⟨cur, h1, h2, h3, h4, h5, h6⟩ := hbuf.open
  unfold maxLen at h4
  have HB := Lib.hid hbuf
  have HV := Lib.hid hv
  have HC := Lib.hid h2
  have HS : Hid (cur.toList.length = cap) := by simpa [Hid] using h5
  have HT := Lib.hid h6
  have HGB := Lib.hid h1
  have HR := Lib.hid (ins_row (zs := zs) (Nat.le_of_lt hi) HS.out hroom h6)
  clear hbuf hv h1 h2 h5 h6
  have t0 : ((zs.length : Int) == 0) = false := by simp; intro h; rw [h] at hz; simp at hz
  have t1 : ((i : Int) == (L.length : Int)) = false := by simp; omega
  have ov := fun (off lb cb lg cg : Nat) => over_no HV.out HC.out hbg off lb cb lg cg
  have e0 : ¬ cap = i := by omega
  have e1 : ¬ cap = i + zs.length := by omega
  go_enter Try.func33, Try.ntmps33
  go_wp2_with fail
  clear ov
  have wr : IntKind.i64.wrap ((i : Int) + (zs.length : Int)) = (i : Int) + (zs.length : Int) := IntWalk.i64_in _ (by omega)
  have tn : ((i : Int) + (zs.length : Int)).toNat = i + zs.length := by omega
  have nn : 0 ≤ (i : Int) + (zs.length : Int) := by omega
  have ll : (i : Int) + (zs.length : Int) ≤ (L.length : Int) + (zs.length : Int) := by omega
  have l2 : (i : Int) ≤ (L.length : Int) + (zs.length : Int) := by omega
  have n0 : L.length + zs.length - (i + zs.length) = L.length - i := by omega
  refine wp_region_ord (Past B) (Past.refl B) (fun _ _ _ => Past.trans) [(0, false), (1, false), (2, false), (3, false), (4, false), (5, false), (6, false), (7, false), (8, true)] (by kernel_rfl) (by kernel_rfl) rfl (by kernel_rfl) (fun _ _ _ _ _ h => h) ?_
  repeat (refine ord_take _ rfl (by rfl) (fun W hW => by go_simp; first | done | rfl) ?_; simp only [Act.put, List.setIfInBounds_toArray, List.set_cons_zero, List.set_cons_succ])
  refine ord_sole rfl (by rfl) (fun K1 hK1 => ?_)
  refine copy_op (.tmp 73) (.tmp 76) rfl g (i + zs.length) (L.length - i) (cap - (i + zs.length)) ⟨g, i, none⟩ (L.length + zs.length - i) (cap - i) rfl rfl cur.toList (by have h : Blk w.drew g 5 cur := HC.out; simpa using h) ((L.drop i).map (Value.int .u8)) (by rw [List.length_map, List.length_drop]; exact (Nat.min_eq_right (by omega)).symm) ?src (by rw [List.length_map, List.length_drop, HS.out]; omega) ?one ?next
  case src =>
    intro j v hv
    rw [Addr.add_lit]
    refine ((show Blk w.drew g _ _ from HC.out).cell (i + j)).trans ?_
    rw [List.getElem?_map, List.getElem?_drop] at hv
    have h := congrArg (fun l => l[i + j]?) HT.out
    simp only [List.getElem?_take, List.getElem?_map] at h
    rcases Nat.lt_or_ge (i + j) L.length with hl | hl
    · rw [if_pos hl, hv] at h
      simpa using h
    · rw [List.getElem?_eq_none hl] at hv
      cases hv
  case one =>
    intro u hu
    obtain ⟨_, _, rfl⟩ := List.mem_map.1 hu
    rfl
  case next =>
    intro w1 hb1 hg1
    have HB1 := Lib.hid hb1
    have HG1 := Lib.hid (grown_drew hg1)
    have HV1 : Hid (Blk w1 b 5 (zs.map (Value.int .u8)).toArray) := (hg1.block b HV.out.lt (by simpa using hbg)).trans HV.out
    have HP1 : Hid (Past B w.drew w1) := (Below.refl B w.drew).grown hg1 (by have := HC.out.lt; have := HGB.out; simp; omega) (fun k hk => by injection hk with hk; rw [← hk]; exact HGB.out)
    refine hK1 _ _ HP1.out ?_
    clear hK1 K1 hb1 hg1 HC HT HV HP1
    simp only [Act.put, List.setIfInBounds_toArray, List.set_cons_zero, List.set_cons_succ]
    refine ord_end ?_
    have HL : Hid ((splice cur.toList (i + zs.length) ((L.drop i).map (Value.int .u8))).length = cap) := by
      rw [length_splice _ _ _ (by rw [List.length_map, List.length_drop, HS.out]; omega)]
      exact HS
    generalize splice cur.toList (i + zs.length) ((L.drop i).map (Value.int .u8)) = cur2 at HB1 HR HL
    go_wp2_with (refine copy_list rfl (.tmp 80) (.tmp 81) rfl g i (L.length + zs.length - i) (cap - i) ⟨b, 0, none⟩ zs.length zs.length rfl rfl cur2 HB1.out (zs.map (Value.int .u8)) ?n2 ?src2 ?fit2 ?one2 ?next2)
    case n2 => rw [List.length_map]; exact (Nat.min_eq_left (by omega)).symm
    case src2 =>
      intro j u hu
      rw [Addr.add_lit, Nat.zero_add, HV1.out.cell j]
      simpa using hu
    case fit2 => rw [List.length_map, HL.out]; omega
    case one2 =>
      intro u hu
      obtain ⟨_, _, rfl⟩ := List.mem_map.1 hu
      rfl
    case next2 =>
      intro w2 hb2 hg2
      have HB2 := Lib.hid hb2
      have HG2 : Hid (w.grownBy w2 (some g)) := ⟨hg2.os.trans HG1.out.os, hg2.tape.trans HG1.out.tape, hg2.output.trans HG1.out.output, Nat.le_trans HG1.out.size hg2.size, fun k hk hne => (hg2.block k (Nat.lt_of_lt_of_le hk HG1.out.size) hne).trans (HG1.out.block k hk hne)⟩
      clear hb2 hg2
      have LE : Hid ((L.take i ++ (zs ++ L.drop i)).length = L.length + zs.length) := by simp [Hid]; omega
      go_wp2_with fail
      go_ret
      refine ⟨by rw [LE.out]; rfl, Buf.of HGB.out HB2.out (by rw [LE.out]; exact hroom) (by unfold maxLen; omega) (by rw [List.size_toArray]; exact HR.out.1) (by rw [LE.out]; exact HR.out.2), HG2.out⟩

end Go.Proofs.Ytefdfdnfpacfjaa
