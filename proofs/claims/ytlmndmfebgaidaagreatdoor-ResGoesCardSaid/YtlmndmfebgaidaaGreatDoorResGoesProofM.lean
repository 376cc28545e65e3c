/-
  Proved: for every resources (package api's Res, each of its fields anything), every two others, and every prefix the law ResGoes returns true, and its arguments read afterwards as they read before. The condition is the card's own: the listed variables (one of the package, two of the library) hold what the program's text lays. (The frame is the guide's; the walk is by hand.)
-/
import Derived.Test.YtlmndmfebgaidaaGreatDoorCards
import Derived.Test.YtlmndmfebgaidaaGreatDoorTie
import Derived.Test.YtlmndmfebgaidaaGreatDoorGrM
import Derived.SevenTiedAt
import Derived.Test.YtlmndmfebgaidaaGreatDoorGrV
import Derived.Test.YtlmndmfebgaidaaGreatDoorGrS
import Derived.WalkKit
import Derived.ProofKit
import Derived.OpenShut
import Derived.ShutString
import Derived.ChangeOld
import Derived.Below
namespace Go.Proofs.YtlmndmfebgaidaaGreatDoor.resGoes
open Go.ChangeShapes Go.WideShapes Go.ChangeAt Go.RowKit
open Go.ChangeMaps (open_string shut_string)
set_option linter.unusedVariables false

/-! ### STEP 1: THE WALK -/
set_option maxHeartbeats 1000000 in
theorem walk (u0 : Value) (rz0 : ResZ) (x1 y1 : ResZ) (ja1 : Option Addr) (na1 ca1 : Nat) (oa1 : Option Addr) (ma1 da1 : Nat) (jb1 : Option Addr) (nb1 cb1 : Nat) (ob1 : Option Addr) (mb1 db1 : Nat) (pv2 : Bool) (pA2 : List Int) (pL2 : Int) (w : World) (ht : Fam w) (w0 : ResAt w u0 rz0) (w1 : ResAt w (.agg (resC x1.inh (.slice ja1 na1 ca1) (.slice oa1 ma1 da1))) x1 ∧ ResAt w (.agg (resC y1.inh (.slice jb1 nb1 cb1) (.slice ob1 mb1 db1))) y1) (w2 : Sixteen pA2 ∧ -9223372036854775808 ≤ pL2 ∧ pL2 ≤ 9223372036854775807) :
    Calls Tryz.prog 6 #[u0, .agg (resC2 x1.inh (.slice ja1 na1 ca1) (.slice oa1 ma1 da1) y1.inh (.slice jb1 nb1 cb1) (.slice ob1 mb1 db1)), .agg (pcells pv2 pA2 pL2)] w fun e w' => e = .returned (.bool true) ∧ Below w.heap.size w w' := by
  exact goes13_any pkUp13 pkResolve13 pkHas13 rz0 x1 y1 ⟨pv2, pA2, pL2⟩ u0 ja1 na1 ca1 oa1 ma1 da1 jb1 nb1 cb1 ob1 mb1 db1 w ht w0 w1.1 w1.2 w2.1 w2.2.1 w2.2.2

/-! ### THE ROW's STEP -/
set_option maxRecDepth 100000 in
theorem lifted (os : Os) (started : os.Started) (H : Type) (enc : TypeId × Value → H) :
    ReturnsInHanded {} Tryz.checked os 6 .any (fun w args => (Rows.resGoesSpec.pre enc Tryz.prog Tryz.f6 Rows.resGoesRow.domain false w args ∧ laidMetH Tryz.prog laids w) ∧ sizedMet enc Tryz.prog Tryz.f6 (OpenSpec.ofChange Rows.resGoesSpec) false w args)
      (Rows.resGoesSpec.post enc Tryz.prog Tryz.f6 false true false false) := by
  refine wrapped started (by kernel_rfl) Tryz.func6
    (ChangeSpec.witness_shaped (enc := enc) (C := Tryz.checked) (os := os) (X := fun w _ => laidMetH Tryz.prog laids w) false (World.laidAll Tryz.prog os laids) #[.agg #[.bool false, .slice none 0 0, .slice none 0 0], .agg #[.bool false, .slice none 0 0, .slice none 0 0, .bool false, .slice none 0 0, .slice none 0 0], .agg #[.bool false, .int .u8 0, .int .u8 0, .int .u8 0, .int .u8 0, .int .u8 0, .int .u8 0, .int .u8 0, .int .u8 0, .int .u8 0, .int .u8 0, .int .u8 0, .int .u8 0, .int .u8 0, .int .u8 0, .int .u8 0, .int .u8 0, .int .i64 0]] 8 (World.laidAll_os _ _ _)
      (World.shaped_of_ZipB (by kernel_rfl) (by kernel_rfl)) (by kernel_rfl) (by kernel_rfl) (by kernel_rfl)
      (by rw [MakeChecks.laidMetH_plain _ _ _ (by kernel_rfl)]; exact laidMet_laidAll _ (by kernel_rfl) (by kernel_rfl))) ?_
  intro W base args ds gs before hval0 hW hsh
  have hval : ∀ (j : Nat) t v, Tryz.f6.params[j]? = some t → args[j]? = some v → Value.okWide Tryz.prog W .any base t v := hval0
  have hW' := hW
  obtain ⟨p, q, hA0, hV, rfl, hfz, hnd⟩ := hW
  have hA : DataW.TrodAll enc Tryz.prog W 0 (fun _ => true) true Tryz.f6.params.toList args.toList ds p := hA0
  rw [Tryz.params6] at hA hval
  obtain ⟨v0, vs0, d0, ds0, p0, q0, hargs, rfl, rfl, h0, r0⟩ := trodAll_cons hA
  obtain ⟨v1, vs1, d1, ds1, p1, q1, rfl, rfl, rfl, h1, r1⟩ := trodAll_cons r0
  obtain ⟨v2, vs2, d2, ds2, p2, q2, rfl, rfl, rfl, h2, r2⟩ := trodAll_cons r1
  obtain ⟨rfl, rfl, rfl⟩ := trodAll_nil r2
  obtain rfl : args = #[v0, v1, v2] := by cases args; simp_all
  obtain ⟨rfl, rfl⟩ := trodVars_none hV
  have k0 := h0
  have lt0 : ∀ x ∈ p0, x.block < W.heap.size := by obtain ⟨m, hm⟩ := k0; exact DataW.trod_lt m _ _ _ hm
  obtain ⟨rz0, w0⟩ := open_res (hval 0 25 v0 rfl rfl) h0
  have k1 := h1
  have lt1 : ∀ x ∈ p1, x.block < W.heap.size := by obtain ⟨m, hm⟩ := k1; exact DataW.trod_lt m _ _ _ hm
  obtain ⟨x1, y1, ja1, na1, ca1, oa1, ma1, da1, jb1, nb1, cb1, ob1, mb1, db1, rfl, w1⟩ := open_res2 (hval 1 47 v1 rfl rfl) h1
  have k2 := h2
  have lt2 : ∀ x ∈ p2, x.block < W.heap.size := by obtain ⟨m, hm⟩ := k2; exact DataW.trod_lt m _ _ _ hm
  obtain ⟨pv2, pA2, pL2, rfl, w2⟩ := open_prefix (hval 2 43 v2 rfl rfl) h2
  clear hA0 hval0
  refine (walk v0 rz0 x1 y1 ja1 na1 ca1 oa1 ma1 da1 jb1 nb1 cb1 ob1 mb1 db1 pv2 pA2 pL2 W hsh w0 w1 w2).mono fun e W' ⟨he, bel⟩ => ?_
  subst he
  exact ⟨_, rfl, _, _, _, [], _, [], hW', trodAll_mk1 (shut_bool Tryz.underlying4 _), (trodAll_cons_mk (Below.trod laidOut (by kernel_rfl) (of_decide_eq_true (by kernel_rfl)) k0 bel lt0) (trodAll_cons_mk (Below.trod laidOut (by kernel_rfl) (of_decide_eq_true (by kernel_rfl)) k1 bel lt1) (trodAll_cons_mk (Below.trod laidOut (by kernel_rfl) (of_decide_eq_true (by kernel_rfl)) k2 bel lt2) trodAll_mk0))), rfl, bel.frame _, fun h => by cases h⟩

theorem over : Rows.resGoesRow.holds Tryz.pinned (OpenSpec.ofChange Rows.resGoesSpec) :=
  OpenClaim.holds_of_wide 6 Tryz.f6 rfl rfl rfl rfl rfl rfl rfl ⟨rfl, rfl, rfl, rfl, rfl⟩ rfl rfl rfl rfl rfl (by kernel_rfl) Tryz.func6 (by kernel_rfl)
    (of_decide_eq_true (by kernel_rfl)) (by unfold Func.isWrapper; first | (rw [if_pos (by decide +kernel)]; kernel_rfl) | (rw [if_neg (by decide +kernel)]; exact ⟨rfl, rfl⟩))
    (fun os started H enc _ => lifted os started H enc)

theorem row_proved : Rows.ResGoesSaid := over

theorem proved : Rows.ResGoesCardSaid :=
  Claim7.holds_tied_plain_at .later [] [.data, .data, .pinned] true (true, "afbce0745d57452475c6941ef4f5466f9ca5a82942587dcae90b5f6cf7da4fe5") false
    row_proved (fun _ h => by cases h) (by kernel_rfl) (fun _ h => by cases h) resGoes_row_tie rfl ⟨rfl, rfl⟩ (by kernel_rfl) rfl
    (fun f fn hf hfn => by
      obtain rfl : f = 6 := Option.some.inj ((show Tryz.prog.funcNamed "lanyard/lanyardlaw13.ResGoes" = some 6 by kernel_rfl).symm.trans hf) |>.symm
      obtain rfl : fn = Tryz.f6 := (Option.some.inj (Tryz.func6.symm.trans hfn)).symm
      exact ⟨by kernel_rfl, fun j t ht => by
        rw [Tryz.params6] at ht
        have hm : t ∈ [25, 47, 43] := by simpa using Array.mem_of_getElem? ht
        have hall : ([25, 47, 43].all fun u => !Tryz.prog.wantsStandIn u) = true := by kernel_rfl
        exact (show Tryz.prog.wantsStandIn t = false by simpa using List.all_eq_true.1 hall t hm)⟩)
    (by kernel_rfl)
#print axioms proved
end Go.Proofs.YtlmndmfebgaidaaGreatDoor.resGoes
