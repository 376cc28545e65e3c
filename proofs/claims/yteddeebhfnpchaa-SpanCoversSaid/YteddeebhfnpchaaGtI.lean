/-
  Merged texts: SrV, SrW.
-/
import Derived.Test.YteddeebhfnpchaaGtG
import Derived.Test.YteddeebhfnpchaaGtE
import Derived.Test.YteddeebhfnpchaaGtH
namespace Go.Proofs.Yteddeebhfnpchaa
set_option linter.unusedVariables false

theorem pow_parts {l m : Nat} (hm : m ≤ 128) (h : l ≤ m) : (2 : Nat) ^ (128 - l) = 2 ^ (128 - m) * 2 ^ (m - l) := by
  rw [← Nat.pow_add, show 128 - m + (m - l) = 128 - l by omega]
/-- Blocks of numbers: one lies in the other. -/
theorem blocks_in {a b l m : Nat} (hl : l ≤ 128) (hm : m ≤ 128) (ha : a % 2 ^ (128 - l) = 0) (hb : b % 2 ^ (128 - m) = 0) : (a ≤ b ∧ b + 2 ^ (128 - m) ≤ a + 2 ^ (128 - l)) ↔ (l ≤ m ∧ a / 2 ^ (128 - l) = b / 2 ^ (128 - l)) := by
  have pl : 0 < 2 ^ (128 - l) := Nat.two_pow_pos _
  have pm : 0 < 2 ^ (128 - m) := Nat.two_pow_pos _
  constructor
  · rintro ⟨h1, h2⟩
    have hq : 2 ^ (128 - m) ≤ 2 ^ (128 - l) := by omega
    have hlm : l ≤ m := by
      by_cases h : l ≤ m
      · exact h
      · exfalso
        have h3 := pow_parts hl (show m ≤ l by omega)
        have h4 : 2 ≤ 2 ^ (l - m) := by
          have : (2 : Nat) ^ 1 ≤ 2 ^ (l - m) := Nat.pow_le_pow_right (by omega) (by omega)
          simpa using this
        have h5 : 2 ^ (128 - l) * 2 ≤ 2 ^ (128 - l) * 2 ^ (l - m) := Nat.mul_le_mul_left _ h4
        omega
    refine ⟨hlm, ?_⟩
    have e := Nat.div_add_mod a (2 ^ (128 - l))
    rw [ha, Nat.add_zero] at e
    symm
    refine Nat.div_eq_of_lt_le ?_ ?_
    · rw [Nat.mul_comm]
      omega
    · rw [Nat.succ_mul, Nat.mul_comm]
      omega
  · rintro ⟨h1, h2⟩
    have e := Nat.div_add_mod a (2 ^ (128 - l))
    rw [ha, Nat.add_zero] at e
    have f := Nat.div_add_mod b (2 ^ (128 - l))
    have g := Nat.mod_lt b pl
    rw [← h2] at f
    refine ⟨by omega, ?_⟩
    have p := pow_parts hm h1
    -- what is left over is a multiple of the smaller block
    have r : (b % 2 ^ (128 - l)) % 2 ^ (128 - m) = 0 := by
      rw [p, Nat.mod_mul_right_mod]
      exact hb
    have q1 := Nat.div_add_mod (b % 2 ^ (128 - l)) (2 ^ (128 - m))
    rw [r, Nat.add_zero] at q1
    have q2 : (b % 2 ^ (128 - l)) / 2 ^ (128 - m) < 2 ^ (m - l) := by
      refine Nat.div_lt_of_lt_mul ?_
      rw [← p]
      exact g
    have q3 : 2 ^ (128 - m) * ((b % 2 ^ (128 - l)) / 2 ^ (128 - m) + 1) ≤ 2 ^ (128 - m) * 2 ^ (m - l) := Nat.mul_le_mul_left _ q2
    rw [Nat.mul_add, Nat.mul_one, q1, ← p] at q3
    omega
theorem onL_one {s : SpanZ} (h : SpanOk s) : onL [s] = [lineS s] := onL_ok (l := [s]) (fun t ht => by rw [List.mem_singleton.1 ht]; exact h)
theorem inZ_one {x : Nat} {p : Nat × Nat} : InZ x [p] ↔ p.1 ≤ x ∧ x ≤ p.2 := by
  rw [inZ_cons]
  constructor
  · rintro (h | h)
    · exact h
    · exact absurd h inZ_nil
  · exact .inl
theorem in_one {s t : SpanZ} (hs : SpanOk s) (ht : SpanOk t) : inS [s] [t] = true ↔ (lineS t).1 ≤ (lineS s).1 ∧ (lineS s).2 ≤ (lineS t).2 := by
  have l : (lineS s).1 ≤ (lineS s).2 := (line_le (ok_parts hs).1 (ok_parts hs).2.1).2 (ok_parts hs).2.2
  rw [inS_is (spans_ok (fun u hu => by rw [List.mem_singleton.1 hu]; exact hs)) (spans_ok (fun u hu => by rw [List.mem_singleton.1 hu]; exact ht)), onL_one hs, onL_one ht]
  constructor
  · intro h
    have h1 := inZ_one.1 (h (lineS s).1 (inZ_one.2 ⟨Nat.le_refl _, l⟩))
    have h2 := inZ_one.1 (h (lineS s).2 (inZ_one.2 ⟨l, Nat.le_refl _⟩))
    exact ⟨h1.1, h2.2⟩
  · rintro ⟨h1, h2⟩ x hx
    have := inZ_one.1 hx
    exact inZ_one.2 ⟨by omega, by omega⟩
theorem covers_in {v u : Bool} {A B : List Int} {L M : Int} (hA : Sixteen A) (hB : Sixteen B) (ra : rightA v A L = true) (rb : rightA u B M = true) : inS [⟨u, B, hiA u B M⟩] [⟨v, A, hiA v A L⟩] = coversA v A L u B M := by
  have oa := of_ok hA ra
  have ob := of_ok hB rb
  have pa := ok_parts oa
  have pb := ok_parts ob
  have na := hiA_num hA ra
  have nb := hiA_num hB rb
  have wa := (right_is v A L).1 ra
  have wb := (right_is u B M).1 rb
  have ma := most_le v
  have mb := most_le u
  rw [Bool.eq_iff_iff, in_one ob oa, covers_is]
  by_cases e : v = u
  · subst e
    have k1 : (lineS ⟨v, A, hiA v A L⟩).1 ≤ (lineS ⟨v, B, hiA v B M⟩).1 ↔ aN A ≤ aN B := line_le pa.1 pb.1
    have k2 : (lineS ⟨v, B, hiA v B M⟩).2 ≤ (lineS ⟨v, A, hiA v A L⟩).2 ↔ aN (hiA v B M) ≤ aN (hiA v A L) := line_le pb.2.1 pa.2.1
    rw [k1, k2]
    have bl := blocks_in (a := aN A) (b := aN B) (l := L.toNat) (m := M.toNat) (by omega) (by omega) wa.2.2 wb.2.2
    have c : (aN A ≤ aN B ∧ aN (hiA v B M) ≤ aN (hiA v A L)) ↔ (aN A ≤ aN B ∧ aN B + 2 ^ (128 - M.toNat) ≤ aN A + 2 ^ (128 - L.toNat)) := by
      constructor
      · rintro ⟨h1, h2⟩
        exact ⟨h1, by omega⟩
      · rintro ⟨h1, h2⟩
        exact ⟨h1, by omega⟩
    rw [c, bl]
    constructor
    · rintro ⟨h1, h2⟩
      exact ⟨ra, rb, rfl, by omega, h2⟩
    · rintro ⟨_, _, _, h1, h2⟩
      exact ⟨by omega, h2⟩
  · constructor
    · rintro ⟨h1, h2⟩
      exfalso
      have p : (2 : Nat) ^ 32 < 2 ^ 40 := by decide
      have h3 : lineZ v A ≤ lineZ u B := h1
      have h4 : lineZ u (hiA u B M) ≤ lineZ v (hiA v A L) := h2
      cases v <;> cases u
      · exact e rfl
      · have := line_four (hiA_ok hA ra)
        have := line_six (hiA true B M)
        omega
      · have := line_four hB
        have := line_six A
        omega
      · exact e rfl
    · rintro ⟨_, _, h, _⟩
      exact absurd h e

end Go.Proofs.Yteddeebhfnpchaa

namespace Go.Proofs.Yteddeebhfnpchaa
open Go.RowKit
set_option linter.unusedVariables false

theorem PfOut.one {W0 wr : World} {V : Value} {p : PfZ} (h : PfOut W0 wr V [p]) : ∃ g cap, V = .slice (some ⟨g, 0, none⟩) 1 cap ∧ g < wr.heap.size ∧ wr.rangeAt g 0 (qcL p) := by
  rcases h.form with ⟨_, e⟩ | ⟨g, cap, rfl, _, h2, _⟩
  · cases e
  · refine ⟨g, cap, rfl, h2, ?_⟩
    obtain ⟨a, c, hV, hrow, _⟩ := h.row
    injection hV with e1
    subst e1
    have := hrow.range 0 (by simp)
    simpa using this
def PfAt (wr : World) (g : Nat) (p : PfZ) : Prop := g < wr.heap.size ∧ wr.rangeAt g 0 (qcL p)
theorem PfAt.below {w W : World} {g : Nat} {p : PfZ} (h : PfAt w g p) (hW : Below w.heap.size w W) : PfAt W g p := ⟨Nat.lt_of_lt_of_le h.1 hW.size, range_ext h.2 h.1 hW⟩
theorem ofS_yes {v : Bool} {A : List Int} {L : Int} (h : rightA v A L = true) : ofS v A L = ⟨v, A, hiA v A L⟩ ∧ ofE v A L = 0 := by
  unfold ofS ofE
  rw [if_pos h, if_pos h]
  exact ⟨rfl, rfl⟩
theorem ofE_no {v : Bool} {A : List Int} {L : Int} (h : rightA v A L = false) : ofE v A L = 1 := by
  unfold ofE
  rw [if_neg (by rw [h]; simp)]
theorem of_case (v : Bool) (A : List Int) (L : Int) : (rightA v A L = true ∧ ofE v A L = 0) ∨ (rightA v A L = false ∧ ofE v A L = 1) := by
  cases h : rightA v A L
  · exact Or.inr ⟨rfl, ofE_no h⟩
  · exact Or.inl ⟨rfl, (ofS_yes h).2⟩
theorem told_of {v : Bool} {A : List Int} {L : Int} (hA : Sixteen A) (h : rightA v A L = true) (W : World) : Calls Try.prog 20 #[.agg (scells (ofS v A L)), .int .i64 9] W fun e w' => ∃ V, e = .returned V ∧ PfOut W w' V [⟨v, A, L⟩] := by
  have e := (ofS_yes h).1
  have p : prefS (ofS v A L) = [(A, L)] := by rw [e]; exact pref_of hA h
  have k := told_any (ofS v A L) 9 W (ofS_six hA) (by rw [p]; simp) (by omega)
  rw [p, show (ofS v A L).v = v by rw [e]] at k
  exact k

set_option maxHeartbeats 1000000 in
set_option maxRecDepth 10000 in
theorem covers_walk (v : Bool) (A : List Int) (L : Int) (u : Bool) (B : List Int) (M : Int) (w : World) (hA : Sixteen A) (l0 : -9223372036854775808 ≤ L) (l1 : L ≤ 9223372036854775807) (hB : Sixteen B) (m0 : -9223372036854775808 ≤ M) (m1 : M ≤ 9223372036854775807) :
    Calls Try.prog 6 #[.agg (pcells v A L), .agg (pcells u B M)] w fun e w' => e = .returned (.bool true) ∧ Below w.heap.size w w' := by
  have UP := Lib.hid (fun W => awake_any W)
  have CA := Lib.hid (fun W => of_any v A L W hA l0 l1)
  have CB := Lib.hid (fun W => of_any u B M W hB m0 m1)
  have RA := Lib.hid (fun W => right_any v A L W hA l0 l1)
  have RB := Lib.hid (fun W => right_any u B M W hB m0 m1)
  have CC := Lib.hid (fun W => covers_any v A L u B M W hA l0 l1 hB m0 m1)
  have sa : SixS (ofS v A L) := ofS_six hA
  have sb : SixS (ofS u B M) := ofS_six hB
  have SPA := Lib.hid (Try.sizeP (v := v) (L := L) hA.1)
  have SPB := Lib.hid (Try.sizeP (v := u) (L := M) hB.1)
  have SSA := Lib.hid (Try.sizeS sa)
  have SSB := Lib.hid (Try.sizeS sb)
  have ZSA : Hid ((scells zeroS).size = (scells (ofS v A L)).size) := Lib.hid (by rw [scells_size sa, scells_size zeroS_six])
  have ZSB : Hid ((scells zeroS).size = (scells (ofS u B M)).size) := Lib.hid (by rw [scells_size sb, scells_size zeroS_six])
  have OSA := Lib.hid (scells_one (ofS v A L))
  have OSB := Lib.hid (scells_one (ofS u B M))
  have CW := Lib.hid (fun (g h : Nat) (W : World) (k : SpRow W (some ⟨g, 0, none⟩) 1 [ofS u B M]) (l : SpRow W (some ⟨h, 0, none⟩) 1 [ofS v A L]) => within_any (some ⟨g, 0, none⟩) (some ⟨h, 0, none⟩) 1 1 1 1 _ _ W k (fun e => by cases e) (by omega) l (fun e => by cases e) (by omega))
  have IN : Hid (rightA v A L = true → rightA u B M = true → inS [ofS u B M] [ofS v A L] = coversA v A L u B M) := Lib.hid (fun ra rb => by rw [(ofS_yes ra).1, (ofS_yes rb).1]; exact covers_in hA hB ra rb)
  have CT := Lib.hid (fun (h : rightA v A L = true) W => told_of hA h W)
  have EA := Lib.hid (of_case v A L)
  have EB := Lib.hid (of_case u B M)
  have OA := Lib.hid (fun W => sp_one W sa)
  have OB := Lib.hid (fun W => sp_one W sb)
  have BA := Lib.hid (built_one _ sa)
  have BB := Lib.hid (built_one _ sb)
  have EQ : ∀ W, (Op.equalIn 10000 37 (.agg (pcells v A L)) (.agg (pcells v A L))).run Try.prog W = .ok true W := fun W => by
    rw [two_prefix v v A A L L hA.1 hA.1 W]
    simp
  have EPA : Hid ((qcL ⟨v, A, L⟩).toArray = pcells v A L) := Lib.hid rfl
  have LPA : Hid ((Try.prog.info? 37).map (·.size) = some (qcL ⟨v, A, L⟩).length) := Lib.hid (by rw [qcL_len (s := ⟨v, A, L⟩) hA]; kernel_rfl)
  obtain ⟨n, hn⟩ : ∃ n, w.heap.size = n := ⟨_, rfl⟩
  obtain ⟨bx, by', bw⟩ := two_boxes w v A L u B M
  rw [hn] at bx by'
  have XB : Hid (Blk ((w.alloc (.cells (pcells v A L) 37)).alloc (.cells (pcells u B M) 37)) n 37 (pcells v A L)) := Lib.hid bx
  have YB : Hid (Blk ((w.alloc (.cells (pcells v A L) 37)).alloc (.cells (pcells u B M) 37)) (n + 1) 37 (pcells u B M)) := Lib.hid by'
  have BW : Hid (Below w.heap.size w ((w.alloc (.cells (pcells v A L) 37)).alloc (.cells (pcells u B M) 37))) := Lib.hid (Below.step (box_below w _) (box_below _ _))
  clear bx by' bw sa sb hA l0 l1 hB m0 m1
  go_enter Try.func6, Try.ntmps6
  generalize inS [ofS u B M] [ofS v A L] = i0 at *
  generalize coversA v A L u B M = c0 at *
  generalize rightA v A L = r1 at *
  generalize rightA u B M = r2 at *
  generalize ofE v A L = e1 at *
  generalize ofE u B M = e2 at *
  generalize scells (ofS v A L) = SA at *
  generalize scells (ofS u B M) = SB at *
  generalize ofS v A L = sA at *
  generalize ofS u B M = sB at *
  generalize (⟨v, A, L⟩ : PfZ) = pA at *
  generalize pcells v A L = PA at *
  generalize pcells u B M = PB at *
  generalize hw0 : (w.alloc (.cells PA 37)).alloc (.cells PB 37) = w0 at *
  go_upto_region 4 with (first
    | (go_at_call 7
       refine (UP.out _).mono ?_
       rintro r w1 ⟨rfl, hb1⟩
       have X1 := Lib.hid (XB.out.below hb1 XB.out.lt)
       have Y1 := Lib.hid (YB.out.below hb1 YB.out.lt)
       have B1 := Lib.hid (Below.step BW.out hb1)
       clear hb1 UP XB YB BW)
    | (refine wpList_load_row rfl 37 (.tmp 2) rfl n rfl 37 PA (0, 0) _ X1.out Try.underlying37 rfl SPA.out ?_)
    | (go_at_call 18
       refine (CA.out _).mono ?_
       rintro r w2 ⟨rfl, hb2⟩
       have X2 := Lib.hid ((X1.out.below hb2 X1.out.lt).alloc (.cells SA 30))
       have Y2 := Lib.hid ((Y1.out.below hb2 Y1.out.lt).alloc (.cells SA 30))
       have B2 := Lib.hid (Below.step (Below.step B1.out hb2) (box_below w2 (.cells SA 30)))
       have AZ : Hid (Blk (w2.alloc (.cells (scells zeroS) 30)) w2.heap.size 30 (scells zeroS)) := Lib.hid (Blk.new _ _ _)
       have S2 : Hid (Blk (w2.alloc (.cells SA 30)) w2.heap.size 30 SA) := Lib.hid (Blk.new _ _ _)
       clear hb2 CA X1 Y1 B1)
    | (refine Great.wpList_allocTo rfl (some 6) rfl (.pointer (some ⟨w2.heap.size, 0, none⟩)) (.cells (scells zeroS) 30) (alloc_span_run rfl) ?_)
    | (refine wpList_store_rowTo rfl 30 (.tmp 6) (.tmp 16) rfl rfl w2.heap.size SA rfl rfl 30 (scells zeroS) AZ.out SSA.out ZSA.out OSA.out ?_; rw [alloc_setRow]; clear AZ)
    | (refine wpList_load_row rfl 37 (.tmp 3) rfl (n + 1) rfl 37 PB (0, 0) _ Y2.out Try.underlying37 rfl SPB.out ?_)
    | (go_at_call 18
       refine (CB.out _).mono ?_
       rintro r w3 ⟨rfl, hb3⟩
       have X3 := Lib.hid ((X2.out.below hb3 X2.out.lt).alloc (.cells SB 30))
       have Y3 := Lib.hid ((Y2.out.below hb3 Y2.out.lt).alloc (.cells SB 30))
       have S3 := Lib.hid ((S2.out.below hb3 S2.out.lt).alloc (.cells SB 30))
       have B3 := Lib.hid (Below.step (Below.step B2.out hb3) (box_below w3 (.cells SB 30)))
       have AZ : Hid (Blk (w3.alloc (.cells (scells zeroS) 30)) w3.heap.size 30 (scells zeroS)) := Lib.hid (Blk.new _ _ _)
       have T3 : Hid (Blk (w3.alloc (.cells SB 30)) w3.heap.size 30 SB) := Lib.hid (Blk.new _ _ _)
       clear hb3 CB X2 Y2 B2 S2)
    | (refine Great.wpList_allocTo rfl (some 8) rfl (.pointer (some ⟨w3.heap.size, 0, none⟩)) (.cells (scells zeroS) 30) (alloc_span_run rfl) ?_)
    | (refine wpList_store_rowTo rfl 30 (.tmp 8) (.tmp 21) rfl rfl w3.heap.size SB rfl rfl 30 (scells zeroS) AZ.out SSB.out ZSB.out OSB.out ?_; rw [alloc_setRow]; clear AZ))
  generalize w2.heap.size = n2 at *
  generalize hw4 : w3.alloc (.cells SB 30) = w4 at *
  generalize w3.heap.size = n3 at *
  clear hw4
  have ea := EA.out
  have eb := EB.out
  clear EA EB
  rcases ea with ⟨rfl, rfl⟩ | ⟨rfl, rfl⟩
  · rcases eb with ⟨rfl, rfl⟩ | ⟨rfl, rfl⟩
    · have hi := IN.out rfl rfl
      have C9 := Lib.hid (CT.out rfl)
      subst hi
      clear IN CT RA RB
      go_upto_region 7 with (first
        | (refine wpList_load_row rfl 30 (.tmp 8) rfl n3 rfl 30 SB (0, 0) _ T3.out Try.underlying30 rfl SSB.out ?_)
        | (refine build_to rfl 22 30 1 _ rfl w4.heap.size rfl (some 41) rfl Try.underlying22 SB _ BB.out (by kernel_rfl) ?_
           have X5 := Lib.hid (X3.out.alloc (.cells SB 30))
           have Y5 := Lib.hid (Y3.out.alloc (.cells SB 30))
           have S5 := Lib.hid (S3.out.alloc (.cells SB 30))
           have R5 := Lib.hid (OB.out w4)
           have B5 := Lib.hid (Below.step B3.out (box_below w4 (.cells SB 30)))
           generalize hw5 : w4.alloc (.cells SB 30) = w5 at *
           clear hw5 X3 Y3 S3 T3 B3)
        | (refine wpList_load_row rfl 30 (.tmp 6) rfl n2 rfl 30 SA (0, 0) _ S5.out Try.underlying30 rfl SSA.out ?_)
        | (refine build_to rfl 22 30 1 _ rfl w5.heap.size rfl (some 43) rfl Try.underlying22 SA _ BA.out (by kernel_rfl) ?_
           have X6 := Lib.hid (X5.out.alloc (.cells SA 30))
           have Y6 := Lib.hid (Y5.out.alloc (.cells SA 30))
           have S6 := Lib.hid (S5.out.alloc (.cells SA 30))
           have Q6 := Lib.hid (OA.out w5)
           have R6 := Lib.hid (R5.out.below (box_below w5 (.cells SA 30)))
           have B6 := Lib.hid (Below.step B5.out (box_below w5 (.cells SA 30)))
           generalize hw6 : w5.alloc (.cells SA 30) = w6 at *
           clear hw6 X5 Y5 S5 R5 B5)
        | (go_at_call 13
           refine (CW.out _ _ _ R6.out Q6.out).mono ?_
           rintro r w7 ⟨rfl, hb7⟩
           have X7 := Lib.hid (X6.out.below hb7 X6.out.lt)
           have Y7 := Lib.hid (Y6.out.below hb7 Y6.out.lt)
           have S7 := Lib.hid (S6.out.below hb7 S6.out.lt)
           have B7 := Lib.hid (Below.step B6.out hb7)
           clear hb7 X6 Y6 S6 Q6 R6 B6 CW))
      go_upto_region 8 with (first
        | (refine wpList_load_row rfl 30 (.tmp 6) rfl n2 rfl 30 SA (0, 0) _ S7.out Try.underlying30 rfl SSA.out ?_)
        | (go_at_call 20
           refine (C9.out _).mono ?_
           rintro r w8 ⟨V8, rfl, ho8⟩
           obtain ⟨g8, c8, rfl, q1, q2⟩ := ho8.one
           have P8 : Hid (PfAt w8 g8 pA) := Lib.hid ⟨q1, q2⟩
           have X8 := Lib.hid (X7.out.below ho8.2.1 X7.out.lt)
           have Y8 := Lib.hid (Y7.out.below ho8.2.1 Y7.out.lt)
           have B8 := Lib.hid (Below.step B7.out ho8.2.1)
           clear ho8 q1 q2 X7 Y7 S7 B7 C9))
      have X9 : Hid (Blk w8.drew n 37 PA) := X8
      have Y9 : Hid (Blk w8.drew (n + 1) 37 PB) := Y8
      have P9 : Hid (PfAt w8.drew g8 pA) := P8
      have B9 : Hid (Below w.heap.size w w8.drew) := Lib.hid B8.out.drew
      clear X8 Y8 P8 B8
      have hk : (i0 == i0) = true := beq_self_eq_true i0
      refine wp_region_ord Ext Ext.refl (fun _ _ _ => Ext.trans) ((0, false) :: (1, false) :: (2, false) :: (3, false) :: (4, false) :: (5, true) :: (6, false) :: (7, false) :: (8, false) :: (9, false) :: (10, false) :: (11, false) :: (12, false) :: (13, false) :: (14, false) :: (15, false) :: (16, false) :: (17, false) :: (18, false) :: (19, false) :: (20, false) :: []) (by kernel_rfl) (by kernel_rfl) rfl (by kernel_rfl) (fun _ _ _ _ _ h => h) ?_
      generalize w8.drew = w9 at *
      repeat (first
        | (refine ord_skip rfl (by rfl) ?_; simp only [Act.put, List.setIfInBounds_toArray, List.set_cons_zero, List.set_cons_succ])
        | (refine ord_take _ rfl (by rfl) (fun W hW => yields_row 37 (.tmp 2) rfl n 37 PA _ rfl (Blk.below X9.out hW X9.out.lt) Try.underlying37 rfl SPA.out) ?_; simp only [Act.put, List.setIfInBounds_toArray, List.set_cons_zero, List.set_cons_succ])
        | (refine ord_take _ rfl (by rfl) (fun W hW => yields_row 37 (.tmp 3) rfl (n + 1) 37 PB _ rfl (Blk.below Y9.out hW Y9.out.lt) Try.underlying37 rfl SPB.out) ?_; simp only [Act.put, List.setIfInBounds_toArray, List.set_cons_zero, List.set_cons_succ])
        | (refine ord_take (.agg PA) rfl (by rfl) (fun W hW => by rw [← EPA.out]; exact yields_part 37 (.tmp 62) rfl g8 0 (qcL pA) _ rfl ((P9.out.below hW).2) Try.underlying37 rfl LPA.out) ?_; simp only [Act.put, List.setIfInBounds_toArray, List.set_cons_zero, List.set_cons_succ])
        | (refine ord_take _ rfl (by rfl) (fun W hW => by go_simp; first | done | rfl) ?_; simp only [Act.put, List.setIfInBounds_toArray, List.set_cons_zero, List.set_cons_succ])
        | (refine ord_sole rfl (by rfl) (fun K1 hK1 => ?_)
           go_simp
           first
             | refine (CC.out _).mono ?_
           rintro r w5 ⟨rfl, hb5⟩
           refine hK1 _ _ hb5 ?_
           clear hK1 K1
           replace X9 := Lib.hid (X9.out.below hb5 X9.out.lt)
           replace Y9 := Lib.hid (Y9.out.below hb5 Y9.out.lt)
           replace P9 := Lib.hid (P9.out.below hb5)
           replace B9 := Lib.hid (Below.step B9.out hb5)
           clear hb5))
      refine ord_end ?_
      go_wp2_with fail
      go_ret
      exact ⟨rfl, B9.out⟩
    · clear IN CT CW CC
      go_wp2_with (first
        | (refine wpList_load_rowG (by rfl) 37 (.tmp 2) rfl n rfl 37 PA (0, 0) _ X3.out Try.underlying37 rfl SPA.out ?_)
        | (go_at_call 19
           refine (RA.out _).mono ?_
           rintro r w5 ⟨rfl, hb5⟩
           have B5 := Lib.hid (Below.step B3.out hb5)
           have Y5 := Lib.hid (Y3.out.below hb5 Y3.out.lt)
           clear hb5 B3 X3 Y3 S3 T3 RA)
        | (refine wpList_load_rowG (by rfl) 37 (.tmp 3) rfl (n + 1) rfl 37 PB (0, 0) _ Y5.out Try.underlying37 rfl SPB.out ?_)
        | (go_at_call 19
           refine (RB.out _).mono ?_
           rintro r w6 ⟨rfl, hb6⟩
           replace B5 := Lib.hid (Below.step B5.out hb6)
           clear hb6 Y5 RB))
      go_ret
      exact ⟨rfl, B5.out⟩
  · clear IN CT CW CC
    rcases eb with ⟨rfl, rfl⟩ | ⟨rfl, rfl⟩
    all_goals
      go_wp2_with (first
        | (refine wpList_load_rowG (by rfl) 37 (.tmp 2) rfl n rfl 37 PA (0, 0) _ X3.out Try.underlying37 rfl SPA.out ?_)
        | (go_at_call 19
           refine (RA.out _).mono ?_
           rintro r w5 ⟨rfl, hb5⟩
           have B5 := Lib.hid (Below.step B3.out hb5)
           have Y5 := Lib.hid (Y3.out.below hb5 Y3.out.lt)
           clear hb5 B3 X3 Y3 S3 T3 RA)
        | (refine wpList_load_rowG (by rfl) 37 (.tmp 3) rfl (n + 1) rfl 37 PB (0, 0) _ Y5.out Try.underlying37 rfl SPB.out ?_)
        | (go_at_call 19
           refine (RB.out _).mono ?_
           rintro r w6 ⟨rfl, hb6⟩
           replace B5 := Lib.hid (Below.step B5.out hb6)
           clear hb6 Y5 RB))
      go_ret
      exact ⟨rfl, B5.out⟩

end Go.Proofs.Yteddeebhfnpchaa
