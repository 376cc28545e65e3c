/-
  Proved: for every slice of bytes and every string the law RadixTexts returns true, and each argument reads afterwards as it read before. No condition. (The frame is the guide's; the walk is by hand.)
-/
import Derived.Test.YtmmcmiljnmbfcaaRows
import Derived.Test.YtmmcmiljnmbfcaaAwake
import Derived.Test.YtmmcmiljnmbfcaaOpen
import Derived.Test.YtmmcmiljnmbfcaaRefDecWalk
import Derived.WalkKit
import Derived.ProofKit
import Derived.OpenShut
import Derived.ShutString
import Derived.ChangeOld
import Derived.Below
namespace Go.Proofs.Ytmmcmiljnmbfcaa.radixTexts
open Go.ChangeShapes Go.WideShapes Go.ChangeAt Go.RowKit
open Go.ChangeMaps (open_string shut_string)
set_option linter.unusedVariables false

theorem own : ownKnob Try.prog.godebug = none := by kernel_rfl
theorem laidOut : laidOutB Try.prog = true := by kernel_rfl

/-- WHAT THE WALK IS TOLD OF A SLICE OF INTEGERS THAT CAME IN: it is nil; or it leads to a row of 'cap' cells, the numbers 'zs' (the first 'len' are its elements, the rest its spare room), each fitting its kind. -/
def IsRow (k : IntKind) (w : World) (a : Option Addr) (len cap : Nat) (zs : List Int) : Prop :=
  (a = none ∧ len = 0 ∧ cap = 0 ∧ zs = []) ∨
  ∃ x, a = some x ∧ len ≤ cap ∧ cap ≤ maxLen ∧ zs.length = cap ∧ (∀ i, i < zs.length → w.cell? (x.add i) = some (.int k (zs.getD i 0))) ∧ ∀ n ∈ zs, (Lit.int k n).wf = true

theorem row_cap {w : World} {a : Option Addr} {len cap : Nat} {zs : List Int} (h : IsRow .u8 w a len cap zs) : len ≤ cap := by
  rcases h with ⟨_, rfl, rfl, _⟩ | ⟨_, _, h, _⟩
  · exact Nat.le_refl _
  · exact h

/-! ### STEP 1: THE WALK: the Go text returns true, AND WRITES NOTHING THAT WAS THERE: 'Below w.heap.size w w'' (Derived/Below.lean: '.refl', '.alloc', '.drew', '.setCell' at a new block, '.trans'). Open each 'IsRow' by 'rcases' AHEAD of 'go_enter'; part every test ahead of the walk. -/
set_option maxHeartbeats 2000000 in
theorem walk (a0 : Option Addr) (len0 cap0 : Nat) (z0 : List Int) (a1 : ByteArray) (w : World) (w0 : IsRow .u8 w a0 len0 cap0 z0) (w1 : a1.size ≤ maxLen) :
    Calls Try.prog 3 #[.slice a0 len0 cap0, .string a1] w fun e w' => e = .returned (.bool true) ∧ Below w.heap.size w w' := by
  have hcap := row_cap w0
  obtain ⟨r0, m0⟩ := row_of w0
  clear w0
  have R0 := Lib.hid r0
  clear r0
  unfold maxLen at m0 w1
  by_cases h0 : 1000 < len0
  · have t0 : decide (1000 < (len0 : Int)) = true := by simp; omega
    go_enter Try.func3, Try.ntmps3
    go_wp2_with fail
    refine (awake_any w).mono ?_
    rintro e w9 ⟨rfl, hb⟩
    go_wp2
    go_ret
    exact ⟨rfl, hb⟩
  · by_cases h1 : 1000 < a1.size
    · go_enter Try.func3, Try.ntmps3
      go_wp2_with fail
      refine (awake_any w).mono ?_
      rintro e w9 ⟨rfl, hb⟩
      go_wp2
      go_ret
      exact ⟨rfl, hb⟩
    · generalize List.take len0 z0 = zs at R0
      have D1 := Lib.hid (fun W => dec_any a1 W (by omega))
      have D2 := Lib.hid (fun W => rdec_any a1 W (by omega))
      generalize decS (numsOf a1) = r at D1 D2
      cases r with
      | none =>
        go_enter Try.func3, Try.ntmps3
        go_wp2_with fail
        refine (awake_any w).mono ?_
        rintro e w2 ⟨rfl, hb2⟩
        go_wp2_with fail
        refine (D1.out _).mono ?_
        rintro e w3 ⟨ac, cc, rfl, hc, _, hb3⟩
        have HC : Hid (Row w3 ac 0 []) := hc
        clear hc
        simp only [Option.getD_none, Option.isSome_none, List.length_nil]
        go_wp2_with fail
        refine (D2.out _).mono ?_
        rintro e w4 ⟨ad, cd, rfl, hd, _, hb4⟩
        have HD : Hid (Row w4 ad 0 []) := hd
        clear hd
        simp only [Option.getD_none, Option.isSome_none, List.length_nil]
        go_wp2_with fail
        refine (enc_any _ _ _ _ _ (((R0.out.below hb2).below hb3).below hb4) (by omega) hcap).mono ?_
        rintro e w5 ⟨rfl, hb5⟩
        go_wp2_with fail
        refine (renc_any _ _ _ _ _ ((((R0.out.below hb2).below hb3).below hb4).below hb5) (by omega)).mono ?_
        rintro e w6 ⟨rfl, hb6⟩
        have kc := conv_at cc (((HC.out.below hb4).below hb5).below hb6)
        have kd := conv_at cd ((HD.out.below hb5).below hb6)
        go_wp2
        go_ret
        exact ⟨rfl, Below.step (Below.step (Below.step (Below.step hb2 hb3) hb4) hb5) hb6⟩
      | some ys =>
        go_enter Try.func3, Try.ntmps3
        go_wp2_with fail
        refine (awake_any w).mono ?_
        rintro e w2 ⟨rfl, hb2⟩
        go_wp2_with fail
        refine (D1.out _).mono ?_
        rintro e w3 ⟨ac, cc, rfl, hc, _, hb3⟩
        have HC : Hid (Row w3 ac ys.length ys) := hc
        clear hc
        simp only [Option.getD_some, Option.isSome_some]
        go_wp2_with fail
        refine (D2.out _).mono ?_
        rintro e w4 ⟨ad, cd, rfl, hd, _, hb4⟩
        have HD : Hid (Row w4 ad ys.length ys) := hd
        clear hd
        simp only [Option.getD_some, Option.isSome_some]
        go_wp2_with fail
        refine (enc_any _ _ _ _ _ (((R0.out.below hb2).below hb3).below hb4) (by omega) hcap).mono ?_
        rintro e w5 ⟨rfl, hb5⟩
        go_wp2_with fail
        refine (renc_any _ _ _ _ _ ((((R0.out.below hb2).below hb3).below hb4).below hb5) (by omega)).mono ?_
        rintro e w6 ⟨rfl, hb6⟩
        have kc := conv_at cc (((HC.out.below hb4).below hb5).below hb6)
        have kd := conv_at cd ((HD.out.below hb5).below hb6)
        go_wp2
        go_ret
        exact ⟨rfl, Below.step (Below.step (Below.step (Below.step hb2 hb3) hb4) hb5) hb6⟩

/-! ### THE ROW's STEP: WRITTEN OUT: -/
set_option maxRecDepth 100000 in
theorem lifted (os : Os) (started : os.Started) (H : Type) (enc : TypeId × Value → H) :
    ReturnsInHanded {} Try.checked os 3 .any (Rows.radixTextsSpec.pre6 enc Try.prog Try.f3 Rows.radixTextsRow.domain false) (Rows.radixTextsSpec.post enc Try.prog Try.f3 false true false false) := by
  refine returnsInHanded_of_change (C := Try.checked) own started (by kernel_rfl) Try.func3
    (ChangeSpec.witness6 (enc := enc) (C := Try.checked) false ⟨#[], #[.slice none 0 0, .string ByteArray.empty], []⟩ 8 (by kernel_rfl) (by kernel_rfl) (by kernel_rfl) (by kernel_rfl)) ?_
  intro W base args ds gs before hval0 hW hcnd _
  have hval : ∀ (j : Nat) t v, Try.f3.params[j]? = some t → args[j]? = some v → Value.okWide Try.prog W .any base t v := hval0
  have hW' := hW
  obtain ⟨p, q, hA0, hV, rfl, hfz, hnd⟩ := hW
  have hA : DataW.TrodAll enc Try.prog W 0 (fun _ => true) true Try.f3.params.toList args.toList ds p := hA0
  rw [Try.params3] at hA hval
  obtain ⟨v0, vs0, d0, ds0, p0, q0, hargs, rfl, rfl, h0, r0⟩ := trodAll_cons hA
  obtain ⟨v1, vs1, d1, ds1, p1, q1, rfl, rfl, rfl, h1, r1⟩ := trodAll_cons r0
  obtain ⟨rfl, rfl, rfl⟩ := trodAll_nil r1
  obtain rfl : args = #[v0, v1] := by cases args; simp_all
  obtain ⟨rfl, rfl⟩ := trodVars_none hV
  obtain ⟨a0, len0, cap0, rfl⟩ := okWide_slice Try.underlying22 (hval 0 22 v0 rfl rfl)
  have k0 := h0
  have lt0 : ∀ x ∈ p0, x.block < W.heap.size := by obtain ⟨m, hm⟩ := k0; exact DataW.trod_lt m _ _ _ hm
  obtain ⟨z0, w0⟩ : ∃ zs, IsRow .u8 W a0 len0 cap0 zs := by
    obtain ⟨fuel, hf⟩ := h0
    rcases open_ints Try.underlying22 Try.underlying5 (by kernel_rfl) hf with ⟨hcs, _⟩ | ⟨x, l, c, zs, hcs, _, hl, hm, hz, _, hcell, hwz⟩
    · simp [Value.cells] at hcs
      obtain ⟨rfl, rfl, rfl⟩ := hcs
      exact ⟨[], .inl ⟨rfl, rfl, rfl, rfl⟩⟩
    · simp [Value.cells] at hcs
      obtain ⟨rfl, rfl, rfl⟩ := hcs
      exact ⟨zs, .inr ⟨_, rfl, hl, hm, by simpa using hz, hcell, hwz⟩⟩
  obtain ⟨a1, rfl, rfl, rfl, w1⟩ := open_string Try.underlying9 (hval 1 9 v1 rfl rfl) h1
  clear hA0 hval0
  refine (walk a0 len0 cap0 z0 a1 W w0 w1).mono fun e W' ⟨he, bel⟩ => ?_
  subst he
  exact ⟨_, rfl, _, _, _, [], _, [], hW', trodAll_mk1 (shut_bool Try.underlying4 _), (trodAll_cons_mk (Below.trod laidOut (by kernel_rfl) (of_decide_eq_true (by kernel_rfl)) k0 bel lt0) (trodAll_cons_mk (shut_string Try.underlying9 w1) trodAll_mk0)), rfl, bel.frame _, fun h => by cases h⟩

theorem over : Rows.radixTextsRow.holds Try.pinned (OpenSpec.ofChange Rows.radixTextsSpec) :=
  OpenClaim.holds_of_wide 3 Try.f3 rfl rfl rfl rfl rfl rfl rfl ⟨rfl, rfl, rfl, rfl, rfl⟩ rfl rfl rfl rfl rfl (by kernel_rfl) Try.func3 (by kernel_rfl)
    (of_decide_eq_true (by kernel_rfl)) (by unfold Func.isWrapper; first | (rw [if_pos (by decide +kernel)]; kernel_rfl) | (rw [if_neg (by decide +kernel)]; exact ⟨rfl, rfl⟩))
    (fun os started H enc _ => lifted os started H enc)

/-- ████ THE STATEMENT ████ -/
theorem proved : Rows.RadixTextsSaid := over
#print axioms proved
end Go.Proofs.Ytmmcmiljnmbfcaa.radixTexts
