/-
  Proved: for every two slices of bytes the law RadixParts returns true, and each argument reads afterwards as it read before. No condition. (The frame is the guide's; the walk is by hand.)
-/
import Derived.Test.YtmmcmiljnmbfcaaRows
import Derived.Test.YtmmcmiljnmbfcaaAwake
import Derived.Test.YtmmcmiljnmbfcaaOpen
import Derived.Test.YtmmcmiljnmbfcaaApp
import Derived.WalkKit
import Derived.ProofKit
import Derived.OpenShut
import Derived.ShutString
import Derived.ChangeOld
import Derived.Below
namespace Go.Proofs.Ytmmcmiljnmbfcaa.radixParts
open Go.ChangeShapes Go.WideShapes Go.ChangeAt Go.RowKit
open Go.ChangeMaps (open_string shut_string)
set_option linter.unusedVariables false

theorem own : ownKnob Try.prog.godebug = none := by kernel_rfl
theorem laidOut : laidOutB Try.prog = true := by kernel_rfl

/-- WHAT THE WALK IS TOLD OF A SLICE OF INTEGERS THAT CAME IN: it is nil; or it leads to a row of 'cap' cells, the numbers 'zs' (the first 'len' are its elements, the rest its spare room), each fitting its kind. -/
def IsRow (k : IntKind) (w : World) (a : Option Addr) (len cap : Nat) (zs : List Int) : Prop :=
  (a = none ∧ len = 0 ∧ cap = 0 ∧ zs = []) ∨
  ∃ x, a = some x ∧ len ≤ cap ∧ cap ≤ maxLen ∧ zs.length = cap ∧ (∀ i, i < zs.length → w.cell? (x.add i) = some (.int k (zs.getD i 0))) ∧ ∀ n ∈ zs, (Lit.int k n).wf = true

theorem row_cap {w : World} {a : Option Addr} {len cap : Nat} {zs : List Int} (h : IsRow .u8 w a len cap zs) : len ≤ cap ∧ (a = none → cap = 0) := by
  rcases h with ⟨_, rfl, rfl, _⟩ | ⟨_, rfl, h, _⟩
  · exact ⟨Nat.le_refl _, fun _ => rfl⟩
  · exact ⟨h, fun e => by cases e⟩

theorem str_append (xs ys : List Int) : strOfNums (xs ++ ys) = strOfNums xs ++ strOfNums ys := by
  apply ByteArray.ext
  apply Array.ext'
  simp [strOfNums_data]

theorem out_empty (w : World) : Out w (w.alloc (.cells #[] 5)) (.slice (some ⟨w.heap.size, 0, none⟩) 0 0) [] :=
  ⟨World.ownsRow_made w _ 0 (Nat.le_refl _) (by unfold maxLen; omega) (by simp), (Below.refl _ _).alloc (Nat.le_refl _) _⟩

/-- The row that was made by the call, and its room. -/
theorem Out.row_cap {W0 wr : World} {V : Value} {L : List Int} (h : Out W0 wr V L) (hL : ∀ x ∈ L, 0 ≤ x ∧ x ≤ 255) : ∃ a c, V = .slice a L.length c ∧ Row wr a L.length L ∧ L.length ≤ c := by
  obtain ⟨a, c, rfl, hr⟩ := h.row hL
  exact ⟨a, c, rfl, hr, own_cap h.1⟩

/-! ### STEP 1: THE WALK: the Go text returns true, AND WRITES NOTHING THAT WAS THERE: 'Below w.heap.size w w'' (Derived/Below.lean: '.refl', '.alloc', '.drew', '.setCell' at a new block, '.trans'). Open each 'IsRow' by 'rcases' AHEAD of 'go_enter'; part every test ahead of the walk. -/
set_option maxHeartbeats 2000000 in
theorem walk (a0 : Option Addr) (len0 cap0 : Nat) (z0 : List Int) (a1 : Option Addr) (len1 cap1 : Nat) (z1 : List Int) (w : World) (w0 : IsRow .u8 w a0 len0 cap0 z0) (w1 : IsRow .u8 w a1 len1 cap1 z1) :
    Calls Try.prog 5 #[.slice a0 len0 cap0, .slice a1 len1 cap1] w fun e w' => e = .returned (.bool true) ∧ Below w.heap.size w w' := by
  obtain ⟨hcap0, hnil0⟩ := row_cap w0
  obtain ⟨hcap1, hnil1⟩ := row_cap w1
  obtain ⟨r0, m0⟩ := row_of w0
  obtain ⟨r1, m1⟩ := row_of w1
  clear w0 w1
  have R0 := Lib.hid r0
  have R1 := Lib.hid r1
  have N0 := Lib.hid hnil0
  have N1 := Lib.hid hnil1
  clear r0 r1 hnil0 hnil1
  unfold maxLen at m0 m1
  by_cases h0 : 900 < len0
  · have t0 : decide (900 < (len0 : Int)) = true := by simp; omega
    go_enter Try.func5, Try.ntmps5
    go_wp2_with fail
    refine (awake_any w).mono ?_
    rintro e w9 ⟨rfl, hb⟩
    go_wp2
    go_ret
    exact ⟨rfl, hb⟩
  · by_cases h1 : 900 < len1
    · go_enter Try.func5, Try.ntmps5
      go_wp2_with fail
      refine (awake_any w).mono ?_
      rintro e w9 ⟨rfl, hb⟩
      go_wp2
      go_ret
      exact ⟨rfl, hb⟩
    · obtain ⟨k, hk⟩ : ∃ k, k = len0 / 3 * 3 := ⟨_, rfl⟩
      have hint : (len0 : Int) / 3 * 3 = (k : Int) := by omega
      have hkl : k ≤ len0 := by omega
      have HK := Lib.hid hk
      clear hk
      generalize List.take len0 z0 = zs at R0
      generalize List.take len1 z1 = ys at R1
      go_enter Try.func5, Try.ntmps5
      go_wp2_with fail
      refine (awake_any w).mono ?_
      rintro e w2 ⟨rfl, hb2⟩
      have RF := Lib.hid ((R0.out.below hb2).first k hkl)
      have RB := Lib.hid (R1.out.below hb2)
      have OU := Lib.hid (out_empty w2)
      have BA := Lib.hid ((Below.refl w2.heap.size w2).alloc (Nat.le_refl _) (.cells #[] 5))
      have LF : Hid ((zs.take k).length = k) := by rw [List.length_take, R0.out.1]; exact Nat.min_eq_left hkl
      have t0 : decide (900 < (len0 : Int)) = false := by simp; omega
      have t1 : decide (900 < (len1 : Int)) = false := by simp; omega
      go_wp2_with (first | (at_builtin; refine out_append (W0 := w2) (A := a0) (m := k) (c := cap0) (L := []) (zs := zs.take k) rfl (.tmp 24) (.tmp 25) rfl rfl OU.out rfl (RF.out.below BA.out) N0.out (by simp; omega) ?_; intro V1 w3 ho1; have HO1 := Lib.hid ho1; clear ho1) | (at_builtin; refine out_append (W0 := w2) (A := a1) (m := len1) (c := cap1) (L := zs.take k) (zs := ys) rfl (.tmp 26) (.tmp 27) rfl rfl HO1.out rfl (RB.out.below HO1.out.2) N1.out (by rw [LF.out]; omega) ?_; intro V2 w4 ho2; have HO2 := Lib.hid ho2; clear ho2))
      have HL : Hid ((zs.take k ++ ys).length ≤ 10000) := by rw [List.length_append, LF.out, R1.out.1]; show _ ≤ _; omega
      obtain ⟨A, C, rfl, hr2, hc2⟩ := Out.row_cap HO2.out (fun x hx => (List.mem_append.1 hx).elim (fun h => RF.out.2.1 x h) (fun h => R1.out.2.1 x h))
      have R2 := Lib.hid hr2
      clear hr2
      have HB2 := Lib.hid HO2.out.2
      clear HO2 HO1 OU BA
      refine (enc_any _ _ _ _ _ R2.out HL.out hc2).mono ?_
      rintro e w5 ⟨rfl, hb5⟩
      have B5 := Lib.hid hb5
      clear hb5
      go_wp2_with fail
      refine (enc_any _ _ _ _ _ ((RF.out.below HB2.out).below B5.out) (by omega) (by omega)).mono ?_
      rintro e w6 ⟨rfl, hb6⟩
      have B6 := Lib.hid hb6
      clear hb6
      go_wp2_with fail
      refine (enc_any _ _ _ _ _ (((RB.out.below HB2.out).below B5.out).below B6.out) (by omega) hcap1).mono ?_
      rintro e w7 ⟨rfl, hb7⟩
      have B7 := Lib.hid hb7
      clear hb7
      have ES : strOfNums (encZ (zs.take k ++ ys)) = strOfNums (encZ (zs.take k)) ++ strOfNums (encZ ys) := by
        rw [encZ_append (len0 / 3) _ _ (by rw [LF.out, HK.out]; omega), str_append]
      rw [ES]
      clear ES
      have s1 : (strOfNums (encZ (zs.take k))).size ≤ 2000 := by rw [strOfNums_size, encZ_length _ _ (Nat.le_refl _), LF.out]; omega
      have s2 : (strOfNums (encZ ys)).size ≤ 2000 := by rw [strOfNums_size, encZ_length _ _ (Nat.le_refl _), R1.out.1]; omega
      generalize strOfNums (encZ (zs.take k)) = S1 at s1 ⊢
      generalize strOfNums (encZ ys) = S2 at s2 ⊢
      go_wp2
      go_ret
      exact ⟨rfl, Below.step (Below.step (Below.step (Below.step hb2 HB2.out) B5.out) B6.out) B7.out⟩

/-! ### THE ROW's STEP: WRITTEN OUT: -/
set_option maxRecDepth 100000 in
theorem lifted (os : Os) (started : os.Started) (H : Type) (enc : TypeId × Value → H) :
    ReturnsInHanded {} Try.checked os 5 .any (Rows.radixPartsSpec.pre6 enc Try.prog Try.f5 Rows.radixPartsRow.domain false) (Rows.radixPartsSpec.post enc Try.prog Try.f5 false true false false) := by
  refine returnsInHanded_of_change (C := Try.checked) own started (by kernel_rfl) Try.func5
    (ChangeSpec.witness6 (enc := enc) (C := Try.checked) false ⟨#[], #[.slice none 0 0, .slice none 0 0], []⟩ 8 (by kernel_rfl) (by kernel_rfl) (by kernel_rfl) (by kernel_rfl)) ?_
  intro W base args ds gs before hval0 hW hcnd _
  have hval : ∀ (j : Nat) t v, Try.f5.params[j]? = some t → args[j]? = some v → Value.okWide Try.prog W .any base t v := hval0
  have hW' := hW
  obtain ⟨p, q, hA0, hV, rfl, hfz, hnd⟩ := hW
  have hA : DataW.TrodAll enc Try.prog W 0 (fun _ => true) true Try.f5.params.toList args.toList ds p := hA0
  rw [Try.params5] at hA hval
  obtain ⟨v0, vs0, d0, ds0, p0, q0, hargs, rfl, rfl, h0, r0⟩ := trodAll_cons hA
  obtain ⟨v1, vs1, d1, ds1, p1, q1, rfl, rfl, rfl, h1, r1⟩ := trodAll_cons r0
  obtain ⟨rfl, rfl, rfl⟩ := trodAll_nil r1
  obtain rfl : args = #[v0, v1] := by cases args; simp_all
  obtain ⟨rfl, rfl⟩ := trodVars_none hV
  obtain ⟨a0, len0, cap0, rfl⟩ := okWide_slice Try.underlying22 (hval 0 22 v0 rfl rfl)
  have k0 := h0
  have lt0 : ∀ x ∈ p0, x.block < W.heap.size := by obtain ⟨m, hm⟩ := k0; exact DataW.trod_lt m _ _ _ hm
  obtain ⟨z0, w0⟩ : ∃ zs, IsRow .u8 W a0 len0 cap0 zs := by
    obtain ⟨fuel, hf⟩ := h0
    rcases open_ints Try.underlying22 Try.underlying5 (by kernel_rfl) hf with ⟨hcs, _⟩ | ⟨x, l, c, zs, hcs, _, hl, hm, hz, _, hcell, hwz⟩
    · simp [Value.cells] at hcs
      obtain ⟨rfl, rfl, rfl⟩ := hcs
      exact ⟨[], .inl ⟨rfl, rfl, rfl, rfl⟩⟩
    · simp [Value.cells] at hcs
      obtain ⟨rfl, rfl, rfl⟩ := hcs
      exact ⟨zs, .inr ⟨_, rfl, hl, hm, by simpa using hz, hcell, hwz⟩⟩
  obtain ⟨a1, len1, cap1, rfl⟩ := okWide_slice Try.underlying22 (hval 1 22 v1 rfl rfl)
  have k1 := h1
  have lt1 : ∀ x ∈ p1, x.block < W.heap.size := by obtain ⟨m, hm⟩ := k1; exact DataW.trod_lt m _ _ _ hm
  obtain ⟨z1, w1⟩ : ∃ zs, IsRow .u8 W a1 len1 cap1 zs := by
    obtain ⟨fuel, hf⟩ := h1
    rcases open_ints Try.underlying22 Try.underlying5 (by kernel_rfl) hf with ⟨hcs, _⟩ | ⟨x, l, c, zs, hcs, _, hl, hm, hz, _, hcell, hwz⟩
    · simp [Value.cells] at hcs
      obtain ⟨rfl, rfl, rfl⟩ := hcs
      exact ⟨[], .inl ⟨rfl, rfl, rfl, rfl⟩⟩
    · simp [Value.cells] at hcs
      obtain ⟨rfl, rfl, rfl⟩ := hcs
      exact ⟨zs, .inr ⟨_, rfl, hl, hm, by simpa using hz, hcell, hwz⟩⟩
  clear hA0 hval0
  refine (walk a0 len0 cap0 z0 a1 len1 cap1 z1 W w0 w1).mono fun e W' ⟨he, bel⟩ => ?_
  subst he
  exact ⟨_, rfl, _, _, _, [], _, [], hW', trodAll_mk1 (shut_bool Try.underlying4 _), (trodAll_cons_mk (Below.trod laidOut (by kernel_rfl) (of_decide_eq_true (by kernel_rfl)) k0 bel lt0) (trodAll_cons_mk (Below.trod laidOut (by kernel_rfl) (of_decide_eq_true (by kernel_rfl)) k1 bel lt1) trodAll_mk0)), rfl, bel.frame _, fun h => by cases h⟩

theorem over : Rows.radixPartsRow.holds Try.pinned (OpenSpec.ofChange Rows.radixPartsSpec) :=
  OpenClaim.holds_of_wide 5 Try.f5 rfl rfl rfl rfl rfl rfl rfl ⟨rfl, rfl, rfl, rfl, rfl⟩ rfl rfl rfl rfl rfl (by kernel_rfl) Try.func5 (by kernel_rfl)
    (of_decide_eq_true (by kernel_rfl)) (by unfold Func.isWrapper; first | (rw [if_pos (by decide +kernel)]; kernel_rfl) | (rw [if_neg (by decide +kernel)]; exact ⟨rfl, rfl⟩))
    (fun os started H enc _ => lifted os started H enc)

/-- ████ THE STATEMENT ████ -/
theorem proved : Rows.RadixPartsSaid := over
#print axioms proved
end Go.Proofs.Ytmmcmiljnmbfcaa.radixParts
