/-
  What the reference's right answers, for stage 4 (tlv).
-/
import Derived.Test.YtefdfdnfpacfjaaSizeT
import Derived.Handy
namespace Go.Proofs.Ytefdfdnfpacfjaa
open Go.RowKit

mutual
def rightT : T → Bool
  | .node t b ks => tagB t && (!(withinB t && decide (0 < b.length)) && (!(!withinB t && decide (0 < ks.length)) && rightAll ks))
def rightAll : List T → Bool
  | [] => true
  | x :: r => rightT x && rightAll r
end
theorem rightT_eq (t : T) : rightT t = (tagB t.tag && (!(withinB t.tag && decide (0 < t.body.length)) && (!(!withinB t.tag && decide (0 < t.kids.length)) && rightAll t.kids))) := by
  obtain ⟨tag, b, ks⟩ := t
  rw [rightT]
  rfl
theorem right_kid {ks : List T} {i : Nat} {k : T} (h : ks[i]? = some k) : rightAll (ks.drop i) = (rightT k && rightAll (ks.drop (i + 1))) := by
  obtain ⟨hi, rfl⟩ := List.getElem?_eq_some_iff.1 h
  rw [List.drop_eq_getElem_cons hi, rightAll]
theorem right_end {ks : List T} {i : Nat} (h : ks.length ≤ i) : rightAll (ks.drop i) = true := by
  rw [List.drop_of_length_le h, rightAll]
theorem right_all {ks : List T} (h : rightAll ks = true) : ∀ k ∈ ks, rightT k = true := by
  induction ks with
  | nil => intro k hk; simp at hk
  | cons x r ih =>
    rw [rightAll, Bool.and_eq_true] at h
    intro k hk
    rcases List.mem_cons.1 hk with rfl | hk
    · exact h.1
    · exact ih h.2 k hk
theorem right_parts {t : T} (h : rightT t = true) : tagB t.tag = true ∧ (withinB t.tag = true → t.body = []) ∧ (withinB t.tag = false → t.kids = []) ∧ ∀ k ∈ t.kids, rightT k = true := by
  rw [rightT_eq] at h
  simp only [Bool.and_eq_true, Bool.not_eq_true', Bool.and_eq_false_iff] at h
  obtain ⟨h1, h2, h3, h4⟩ := h
  refine ⟨h1, fun e => ?_, fun e => ?_, right_all h4⟩
  · rcases h2 with h2 | h2
    · rw [e] at h2
      cases h2
    · simpa using h2
  · rcases h3 with h3 | h3
    · rw [e] at h3
      cases h3
    · simpa using h3

set_option maxHeartbeats 4000000 in
theorem right_any (t : T) : ∀ (v : Value) (w : World), t.In w v → Calls Try.prog 23 #[v] w fun e w' => e = .returned (.bool (rightT t)) ∧ Below w.heap.size w w' := by
  refine T.each (p := fun t => ∀ (v : Value) (w : World), t.In w v → Calls Try.prog 23 #[v] w fun e w' => e = .returned (.bool (rightT t)) ∧ Below w.heap.size w w') ?_ t
  clear t
  intro t ih v w hin
  obtain ⟨A, n, c, K, m, d, rfl, hw, hr, hn, hc, hm, hm', hks⟩ := hin.open
  have BX := Lib.hid (Box.start hin)
  have IH := Lib.hid ih
  have HM := Lib.hid hm
  have BL := Lib.hid hr.1
  have ER := Lib.hid (rightT_eq t)
  clear hin ih hr hc hm hks
  unfold maxLen at hn hm'
  cases htg : tagB t.tag
  · have TG := Lib.hid htg
    have F : Hid (rightT t = false) := by rw [ER.out, htg]; rfl
    clear htg
    go_enter Try.func23, Try.ntmps23
    go_wp2_with fail
    refine (tag_any t.tag _ hw).mono ?_
    rintro e w2 ⟨rfl, rfl⟩
    rw [TG.out]
    go_wp2_with fail
    go_ret
    exact ⟨ret_bool F.out.symm, BX.out.below⟩
  have TG := Lib.hid htg
  have key : (withinB t.tag = true ∧ 0 < n) ∨ (withinB t.tag = false ∧ 0 < m) ∨ (withinB t.tag = true ∧ n = 0) ∨ (withinB t.tag = false ∧ m = 0) := by
    cases withinB t.tag
    · rcases Nat.eq_zero_or_pos m with h | h
      · exact .inr (.inr (.inr ⟨rfl, h⟩))
      · exact .inr (.inl ⟨rfl, h⟩)
    · rcases Nat.eq_zero_or_pos n with h | h
      · exact .inr (.inr (.inl ⟨rfl, h⟩))
      · exact .inl ⟨rfl, h⟩
  rcases key with ⟨hwi, h0⟩ | ⟨hwi, h0⟩ | ⟨hwi, h0⟩ | ⟨hwi, h0⟩
  · have F : Hid (rightT t = false) := by rw [ER.out, hwi, BL.out]; simp [h0, Hid]
    have WI := Lib.hid hwi
    clear htg hwi
    go_enter Try.func23, Try.ntmps23
    go_wp2_with fail
    refine (tag_any t.tag _ hw).mono ?_
    rintro e w2 ⟨rfl, rfl⟩
    rw [TG.out]
    go_wp2_with fail
    refine (within_any t.tag _ hw).mono ?_
    rintro e w2 ⟨rfl, rfl⟩
    rw [WI.out]
    go_wp2_with fail
    go_ret
    exact ⟨ret_bool F.out.symm, BX.out.below⟩
  · have F : Hid (rightT t = false) := by rw [ER.out, hwi, HM.out]; simp [h0, Hid]
    have WI := Lib.hid hwi
    clear htg hwi
    go_enter Try.func23, Try.ntmps23
    go_wp2_with fail
    refine (tag_any t.tag _ hw).mono ?_
    rintro e w2 ⟨rfl, rfl⟩
    rw [TG.out]
    go_wp2_with fail
    refine (within_any t.tag _ hw).mono ?_
    rintro e w2 ⟨rfl, rfl⟩
    rw [WI.out]
    go_wp2_with fail
    refine (within_any t.tag _ hw).mono ?_
    rintro e w2 ⟨rfl, rfl⟩
    rw [WI.out]
    go_wp2_with fail
    go_ret
    exact ⟨ret_bool F.out.symm, BX.out.below⟩
  all_goals
    have SA : Hid (rightT t = rightAll t.kids) := by rw [ER.out, hwi, htg, BL.out, HM.out, h0]; simp [Hid]
    have WI := Lib.hid hwi
    have H0 := Lib.hid h0
    clear htg hwi h0
    obtain rfl := H0.out
    clear H0
    go_enter Try.func23, Try.ntmps23
    go_wp2_with fail
    refine (tag_any t.tag _ hw).mono ?_
    rintro e w2 ⟨rfl, rfl⟩
    rw [TG.out]
    go_wp2_with fail
    refine (within_any t.tag _ hw).mono ?_
    rintro e w2 ⟨rfl, rfl⟩
    rw [WI.out]
    go_wp2_with fail
    refine (within_any t.tag _ hw).mono ?_
    rintro e w2 ⟨rfl, rfl⟩
    rw [WI.out]
    go_wp2_with fail
  · go_loopw [3] (fun i wr => ∃ k : Nat, k ≤ m ∧ i = .int .i64 (k : Int) ∧ rightT t = rightAll (t.kids.drop k) ∧ Box w wr w.heap.size t A 0 c K m d) (fun i _ => m - (intOf i).toNat)
    case atStart => exact ⟨0, by omega, rfl, SA.out, BX.out⟩
    case round =>
      obtain ⟨k, hk, rfl, hs, hbox⟩ := hrel
      have HS := Lib.hid hs
      have HB := Lib.hid hbox
      obtain ⟨g0, g1, g2⟩ := hbox.cells
      clear hs hbox BX SA
      by_cases hlt : k < m
      · obtain ⟨x, bb, off, zz, A', n', c', K', m', d', hx, rfl, c0, c1, c2, hxin⟩ := HB.out.kid k hlt
        have ST := Lib.hid (HS.out.trans (right_kid hx))
        have CI := Lib.hid (IH.out x (List.mem_of_getElem? hx) _ wr hxin)
        clear hx hxin HS
        cases hxr : rightT x
        · have F : Hid (rightT t = false) := by rw [ST.out, hxr]; rfl
          rw [hxr] at CI
          clear hxr ST
          go_wp2_with fail
          refine CI.out.mono ?_
          rintro e w2 ⟨rfl, hb2⟩
          have B2 := Lib.hid (Below.step HB.out.below hb2)
          clear hb2
          go_wp2_with fail
          go_ret
          exact ⟨ret_bool F.out.symm, B2.out⟩
        · have N : Hid (rightT t = rightAll (t.kids.drop (k + 1))) := by rw [ST.out, hxr]; simp [Hid]
          rw [hxr] at CI
          clear hxr ST
          go_wp2_with fail
          refine CI.out.mono ?_
          rintro e w2 ⟨rfl, hb2⟩
          have HB2 := Lib.hid (HB.out.go hb2)
          clear hb2
          go_wp2_with fail
          go_roundw
          case rel => exact ⟨k + 1, by omega, by go_num, N.out, HB2.out⟩
          case measure => simp [intOf]; omega
      · have F : Hid (rightT t = true) := by rw [HS.out, right_end (by rw [HM.out]; omega)]; exact Lib.hid rfl
        clear HS
        go_wp2_with fail
        go_ret
        exact ⟨ret_bool F.out.symm, HB.out.below⟩
  · have F : Hid (rightT t = true) := by
      have h := SA.out
      rw [← List.drop_zero (l := t.kids), right_end (by rw [HM.out]; omega)] at h
      exact Lib.hid h
    have B2 := Lib.hid BX.out.below
    clear SA
    refine wp_loop_rounds 1 ?_
    rw [rounds_succ]
    go_wp2_with fail
    go_ret
    exact ⟨ret_bool F.out.symm, B2.out⟩

end Go.Proofs.Ytefdfdnfpacfjaa
