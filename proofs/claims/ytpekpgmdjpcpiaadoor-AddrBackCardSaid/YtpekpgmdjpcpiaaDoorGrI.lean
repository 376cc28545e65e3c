/-
  Merged texts: AgF.
-/
import Derived.Test.YtpekpgmdjpcpiaaDoorGrH
namespace Go.Proofs.YtpekpgmdjpcpiaaDoor
open Go.RowKit
set_option linter.unusedVariables false

theorem textE_size {v : Bool} {A : List Int} {L : Int} (hA : Sixteen A) : (strOfNums (textE v A L)).size ≤ 4000000 := by
  rw [strOfNums_size]
  unfold textE
  split
  · rename_i h
    have hr := (right_is ..).1 h
    have ml := most_le v
    have a1 := addrT_size hA v
    rw [strOfNums_size] at a1
    have d1 := dig_len (b := 10) (by omega) L.toNat
    show ((if v then sixZ A else fourZ A) ++ [47] ++ digZ 10 L.toNat).length ≤ _
    have a2 : (if v = true then sixZ A else fourZ A).length ≤ 2000000 := a1
    simp only [List.length_append, List.length_cons, List.length_nil]
    omega
  · simp
/-- A prefix's text read. -/
theorem text_read (v : Bool) (A : List Int) (L : Int) (hA : Sixteen A) (l0 : -9223372036854775808 ≤ L) (l1 : L ≤ 9223372036854775807) : ∃ u B M j, Sixteen B ∧
    (∀ W, Std W → Calls Tryd.prog 12 #[.string (strOfNums (textE v A L))] W fun e w' => e = .returned (.tuple #[.agg (pcells u B M), .int .i64 j]) ∧ Below W.heap.size W w') ∧
    ((rightA v A L = true ∧ textR v A L = 0 ∧ j = 0 ∧ pcells u B M = pcells v A L) ∨ (rightA v A L = false ∧ textR v A L = 1)) := by
  by_cases h : rightA v A L = true
  · have e : textE v A L = textZ v A L := if_pos h
    exact ⟨v, A, L, 0, hA, fun W hs => (read_any _ W (textE_size hA) hs).mono fun e' w' k => doc_one hA h (by rw [e]) k, .inl ⟨h, if_pos h, rfl, rfl⟩⟩
  · obtain ⟨u, B, M, j, hB, R1, _, _⟩ := read_one (strOfNums (textE v A L)) (textE_size hA)
    exact ⟨u, B, M, j, hB, R1, .inr ⟨by simpa using h, if_neg h⟩⟩

set_option maxHeartbeats 8000000 in
set_option maxRecDepth 100000 in
theorem back_walk (v : Bool) (A : List Int) (L : Int) (s : ByteArray) (w : World) (ht : Std w) (hp : Sixteen A ∧ -9223372036854775808 ≤ L ∧ L ≤ 9223372036854775807) :
    Calls Tryd.prog 5 #[.agg (pcells v A L), .string s] w fun e w' => e = .returned (.bool true) ∧ Below w.heap.size w w' := by
  have BX : Hid (Blk _ _ 24 (pcells v A L)) := Lib.hid (pbox w v A L)
  have BW := Lib.hid (box_below w (.cells (pcells v A L) 24))
  have AW := Lib.hid (awake_any _ (ht.later BW.out))
  have HS := Lib.hid ht
  obtain ⟨hA, l0, l1⟩ := hp
  have C1 := Lib.hid (fun W (h : Std W) => text_any v A L W hA l0 l1 h)
  have C5 := Lib.hid (fun W => right_any v A L W hA l0 l1)
  obtain ⟨u, B, M, j, hB, R1, hd⟩ := text_read v A L hA l0 l1
  have C2 := Lib.hid R1
  have HD := Lib.hid hd
  have EQ := fun W => two_prefix v v A A L L hA.1 hA.1 W
  rw [decide_eq_true ⟨rfl, rfl, rfl⟩] at EQ
  have Z1 := Lib.hid (Tryd.sizeP (v := v) (L := L) hA.1)
  have Z2 := Lib.hid (Tryd.sizeP (v := u) (L := M) hB.1)
  have P2 := Lib.hid (pcells_one u B M)
  have E2 : Hid (ZP.size = (pcells u B M).size) := Lib.hid (by rw [pcells_size hB.1]; rfl)
  clear ht hA R1 hd hB
  go_enter Tryd.func5, Tryd.ntmps5
  generalize hw2 : (w.alloc (.cells (pcells v A L) 24)) = w2 at *
  generalize pcells v A L = P at *
  generalize pcells u B M = D at *
  generalize strOfNums (textE v A L) = T at *
  generalize textR v A L = r0 at *
  generalize rightA v A L = k at *
  go_wp2_with fail
  refine AW.out.mono ?_
  rintro r w3 ⟨rfl, hb3⟩
  have B3 := Lib.hid (Below.step BW.out hb3)
  have X3 := Lib.hid (Blk.below BX.out hb3 BX.out.lt)
  clear hb3 AW BW BX hw2
  by_cases hl : 200 < s.size
  · have t1 : decide ((200 : Int) < (s.size : Int)) = true := decide_eq_true (by omega)
    go_wp2_with fail
    go_ret
    exact ⟨rfl, B3.out⟩
  have t1 : decide ((200 : Int) < (s.size : Int)) = false := decide_eq_false (by omega)
  have H3 := Lib.hid (HS.out.later B3.out)
  go_upto_region 5 with (first
    | (refine wpList_load_row rfl 24 (.tmp 2) rfl w.heap.size rfl 24 P (0, 0) _ X3.out Tryd.underlying24 rfl Z1.out ?_)
    | (go_at_call 10; refine (C1.out _ H3.out).mono ?_; rintro r w4 ⟨rfl, hb4⟩; have B4 := Lib.hid (Below.step B3.out hb4); have X4 := Lib.hid (Blk.below X3.out hb4 X3.out.lt); clear hb4 C1))
  clear B3 X3 H3
  have H4 := Lib.hid (HS.out.later B4.out)
  go_upto_region 6 with (first
    | (go_at_call 12; refine (C2.out _ H4.out).mono ?_; rintro r w6 ⟨rfl, hb6⟩; have B6 := Lib.hid (Below.step B4.out hb6); have X6 := Lib.hid (Blk.below X4.out hb6 X4.out.lt); have S6 := Lib.hid (Blk.new w6 24 ZP); clear hb6 C2)
    | (refine Great.wpList_allocTo rfl (some 8) rfl (.pointer (some ⟨w6.heap.size, 0, none⟩)) (.cells ZP 24) rfl ?_)
    | (refine wpList_store_rowTo rfl 24 (.tmp 8) (.tmp 27) rfl rfl w6.heap.size D rfl rfl 24 ZP S6.out Z2.out E2.out P2.out ?_))
  try simp only [Act.put, List.setIfInBounds_toArray, List.set_cons_zero, List.set_cons_succ]
  have D7 : Hid (Blk ((w6.alloc (.cells ZP 24)).setRow w6.heap.size D) w6.heap.size 24 D) := Lib.hid (setRow_heap _ _ _ _ _ _ S6.out)
  have b7 : Below w6.heap.size w6 ((w6.alloc (.cells ZP 24)).setRow w6.heap.size D) := below_setRow (box_below w6 (.cells ZP 24)) (Nat.le_refl _) _
  have B7 := Lib.hid (Below.step B6.out b7)
  have X7 := Lib.hid (Blk.below X6.out b7 X6.out.lt)
  clear b7 B4 X4 H4 B6 X6 S6 E2 P2
  generalize (w6.alloc (.cells ZP 24)).setRow w6.heap.size D = w7 at *
  generalize w6.heap.size = g7 at *
  obtain ⟨u', B', M', j', hB', R1', _, hd'⟩ := read_one s (by omega)
  have C3 := Lib.hid R1'
  have DB := Lib.hid hd'
  have Z3 := Lib.hid (Tryd.sizeP (v := u') (L := M') hB'.1)
  have P3 := Lib.hid (pcells_one u' B' M')
  have E3 : Hid (ZP.size = (pcells u' B' M').size) := Lib.hid (by rw [pcells_size hB'.1]; rfl)
  have CT : Hid (rightA u' B' M' = true ∧ -9223372036854775808 ≤ M' ∧ M' ≤ 9223372036854775807 ∧ strOfNums (textZ u' B' M') = s → (∀ W, Std W → Calls Tryd.prog 10 #[.agg (pcells u' B' M')] W fun e w' => e = .returned (.tuple #[.string s, .int .i64 0]) ∧ Below W.heap.size W w') ∧ (∀ W, Calls Tryd.prog 14 #[.agg (pcells u' B' M')] W fun e w' => e = .returned (.bool true) ∧ Below W.heap.size W w')) :=
    Lib.hid (fun ⟨h1, h2, h3, h4⟩ => ⟨fun W hs => by
      have h := text_any u' B' M' W hB' h2 h3 hs
      rwa [show textE u' B' M' = textZ u' B' M' from if_pos h1, h4, show textR u' B' M' = 0 from if_pos h1] at h, fun W => by
      have h := right_any u' B' M' W hB' h2 h3
      rwa [h1] at h⟩)
  clear R1' hd' hB'
  have ES : (s.toList == s.toList) = true := beq_self_eq_true _
  have BOTH : Hid ((r0 = 0 ∧ k = true ∧ j = 0 ∧ D = P) ∨ (r0 = 1 ∧ k = false)) := Lib.hid (by
    rcases HD.out with ⟨h1, h2, h3, h4⟩ | ⟨h1, h2⟩
    · exact .inl ⟨h2, h1, h3, h4⟩
    · exact .inr ⟨h2, h1⟩)
  clear HD
  generalize hD' : pcells u' B' M' = D' at *
  rcases BOTH.out with ⟨rfl, rfl, rfl, rfl⟩ | ⟨rfl, rfl⟩
  all_goals
    clear BOTH
    go_upto_region 8 with (first
      | (refine wpList_load_rowG (by rfl) 24 (.tmp 8) rfl g7 rfl 24 D (0, 0) _ D7.out Tryd.underlying24 rfl Z1.out ?_)
      | (refine wpList_load_rowG (by rfl) 24 (.tmp 2) rfl w.heap.size rfl 24 D (0, 0) _ X7.out Tryd.underlying24 rfl Z1.out ?_))
    clear D7
    have H7 := Lib.hid (HS.out.later B7.out)
    go_upto_region 9 with (first
      | (go_at_call 12; refine (C3.out _ H7.out).mono ?_; rintro r w8 ⟨rfl, hb8⟩; have B8 := Lib.hid (Below.step B7.out hb8); have X8 := Lib.hid (Blk.below X7.out hb8 X7.out.lt); have S8 := Lib.hid (Blk.new w8 24 ZP); clear hb8 C3)
      | (refine Great.wpList_allocTo rfl (some 10) rfl (.pointer (some ⟨w8.heap.size, 0, none⟩)) (.cells ZP 24) rfl ?_)
      | (refine wpList_store_rowTo rfl 24 (.tmp 10) (.tmp 43) rfl rfl w8.heap.size D' rfl rfl 24 ZP S8.out Z3.out E3.out P3.out ?_))
    try simp only [Act.put, List.setIfInBounds_toArray, List.set_cons_zero, List.set_cons_succ]
    have D9 : Hid (Blk ((w8.alloc (.cells ZP 24)).setRow w8.heap.size D') w8.heap.size 24 D') := Lib.hid (setRow_heap _ _ _ _ _ _ S8.out)
    have b9 : Below w8.heap.size w8 ((w8.alloc (.cells ZP 24)).setRow w8.heap.size D') := below_setRow (box_below w8 (.cells ZP 24)) (Nat.le_refl _) _
    have B9 := Lib.hid (Below.step B8.out b9)
    have X9 := Lib.hid (Blk.below X8.out b9 X8.out.lt)
    clear b9 B7 X7 H7 B8 X8 S8 E3 P3
    generalize (w8.alloc (.cells ZP 24)).setRow w8.heap.size D' = w9 at *
    generalize w8.heap.size = g9 at *
    rcases DB.out with ⟨rfl, hd⟩ | rfl
    · obtain ⟨CA, CB⟩ := CT.out hd
      have C7 := Lib.hid CA
      have C8 := Lib.hid CB
      have H9 := Lib.hid (HS.out.later B9.out)
      clear CA CB CT DB hd C5
      go_upto_region 12 with (first
        | (refine wpList_load_row rfl 24 (.tmp 10) rfl g9 rfl 24 D' (0, 0) _ D9.out Tryd.underlying24 rfl Z3.out ?_)
        | (go_at_call 10; refine (C7.out _ H9.out).mono ?_; rintro r wa ⟨rfl, hba⟩; have Ba := Lib.hid (Below.step B9.out hba); have Da := Lib.hid (Blk.below D9.out hba D9.out.lt); clear hba C7))
      clear B9 X9 D9 H9
      go_wp2_with (refine wpList_load_rowG (by rfl) 24 (.tmp 10) rfl g9 rfl 24 D' (0, 0) _ Da.out Tryd.underlying24 rfl Z3.out ?_)
      refine (C8.out _).mono ?_
      rintro r wb ⟨rfl, hbb⟩
      have Bb := Lib.hid (Below.step Ba.out hbb)
      clear hbb
      go_wp2_with fail
      go_ret
      exact ⟨rfl, Bb.out⟩
    · clear CT DB
      go_wp2_with (refine wpList_load_rowG (by rfl) 24 (.tmp 2) rfl w.heap.size rfl 24 _ (0, 0) _ X9.out Tryd.underlying24 rfl Z1.out ?_)
      refine (C5.out _).mono ?_
      rintro r wb ⟨rfl, hbb⟩
      have Bb := Lib.hid (Below.step B9.out hbb)
      clear hbb
      go_wp2_with fail
      go_ret
      exact ⟨rfl, Bb.out⟩

end Go.Proofs.YtpekpgmdjpcpiaaDoor
