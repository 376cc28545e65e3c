/-
  Proved: for every 64-bit integer the law ClockNext returns true. No condition. (The frame is the guide's; the walk is by hand.)
-/
import Derived.Test.YtebefamnmmbdnaaRows
import Derived.Test.YtebefamnmmbdnaaTexts
import Derived.Test.YtebefamnmmbdnaaSame
import Derived.Deep.Cut
import Derived.WalkKit
import Derived.ProofKit
import Derived.OpenShut
import Derived.ShutString
import Derived.ChangeOld
import Derived.Below
namespace Go.Proofs.Ytebefamnmmbdnaa.clockNext
open Go.ChangeShapes Go.WideShapes Go.ChangeAt Go.RowKit
open Go.ChangeMaps (open_string shut_string)
set_option linter.unusedVariables false

theorem own : ownKnob Try.prog.godebug = none := by kernel_rfl
theorem laidOut : laidOutB Try.prog = true := by kernel_rfl

/-- The cells of the first date, as they are read behind the second call. -/
theorem six_cells {w : World} {g : Nat} {y m d h i s : Int} (k : Blk w g 22 (d6c y m d h i s)) : w.cell? ⟨g, 0, none⟩ = some (.int .i64 y) ∧ w.cell? ⟨g, 1, none⟩ = some (.int .i64 m) ∧ w.cell? ⟨g, 2, none⟩ = some (.int .i64 d) ∧ w.cell? ⟨g, 3, none⟩ = some (.int .i64 h) ∧ w.cell? ⟨g, 4, none⟩ = some (.int .i64 i) ∧ w.cell? ⟨g, 5, none⟩ = some (.int .i64 s) :=
  ⟨k.cell 0, k.cell 1, k.cell 2, k.cell 3, k.cell 4, k.cell 5⟩

/-! ### STEP 1: THE WALK -/
set_option maxRecDepth 100000 in
set_option maxHeartbeats 8000000 in
theorem walk (a0 : Int) (w : World) (w0 : (Lit.int .i64 a0).wf = true) :
    Calls Try.prog 7 #[.int .i64 a0] w fun e w' => e = .returned (.bool true) ∧ Below w.heap.size w w' := by
  have hw := bounds_i64 w0
  clear w0
  have C := Lib.hid (fun W => date_any a0 W)
  have C' := Lib.hid (fun W => date_any (a0 + 1) W)
  go_enter Try.func7, Try.ntmps7
  go_wp2_with fail
  refine (awake_any w).mono ?_
  rintro e w1 ⟨rfl, hb1⟩
  go_wp2_with fail
  refine (C.out _).mono ?_
  rintro e w2 ⟨a, ok, hR, rfl, hb2⟩
  have B2 := Lib.hid (Below.step hb1 hb2)
  clear C hb1 hb2
  rcases hR with ⟨rfl, hd⟩ | ⟨rfl, rfl, ho⟩
  · by_cases hs : 7258118398 < a0
    · obtain ⟨y, m, d, h, i, s'⟩ := a
      simp only [D6.cells, d6c]
      have ts : decide (7258118398 < a0) = true := by simpa using hs
      go_wp2
      go_ret
      exact ⟨rfl, B2.out.alloc B2.out.size _⟩
    · have ts : decide (7258118398 < a0) = false := by simpa using hs
      have NX := Lib.hid (next_is hd (by omega))
      have hrg := secs_rng hd.1
      rw [hd.2] at hrg
      have hok := hd.1
      clear hd
      have K := Lib.hid (Blk.new w2 22 a.cells)
      have B3 := Lib.hid (B2.out.alloc B2.out.size (.cells a.cells 22))
      obtain ⟨y, m, d, h, i, s'⟩ := a
      simp only [D6.cells, d6c] at K B3 ⊢
      go_wp2_with fail
      refine (C'.out _).mono ?_
      rintro e w4 ⟨b, ok, hR, rfl, hb4⟩
      obtain ⟨rfl, rfl⟩ := hR.eq (.inl ⟨rfl, NX.out⟩)
      clear hR NX C'
      have KA : Hid (Blk w4 w2.heap.size 22 (d6c y m d h i s')) := Lib.hid (K.out.below hb4 (by simp))
      have B4 := Lib.hid (Below.step B3.out hb4)
      have hz : w2.heap.size < w4.heap.size := KA.out.lt
      clear K B3 hb4
      obtain ⟨h1, h2, h3, h4, h5, h6, h7, h8, h9, h10, h11, h12⟩ := hok
      simp only at h1 h2 h3 h4 h5 h6 h7 h8 h9 h10 h11 h12
      have hl := ml_rng y m
      have hd31 : d ≤ 31 := by omega
      by_cases c1 : s' < 59
      · have t1 : decide (s' < 59) = true := by simpa using c1
        have EN : (⟨y, m, d, h, i, s'⟩ : D6).next = ⟨y, m, d, h, i, s' + 1⟩ := by unfold D6.next; simp only; rw [if_pos c1]
        rw [EN]
        clear EN
        simp only [D6.cells, d6c]
        obtain ⟨q0, q1, q2, q3, q4, q5⟩ := six_cells KA.out
        have f5 := KA.out.free 5
        have hq := fun W => eq6 y m d h i (s' + 1) y m d h i (s' + 1) W
        rw [same6_refl] at hq
        go_wp2
        go_ret
        exact ⟨rfl, (B4.out.setCell (p := ⟨w2.heap.size, 5, none⟩) B2.out.size _).alloc (by simpa using B4.out.size) _⟩
      · obtain rfl : s' = 59 := by omega
        clear c1
        by_cases c2 : i < 59
        · have EN : (⟨y, m, d, h, i, 59⟩ : D6).next = ⟨y, m, d, h, i + 1, 0⟩ := by unfold D6.next; simp only; rw [if_neg (by omega), if_pos c2]
          rw [EN]
          clear EN
          simp only [D6.cells, d6c]
          obtain ⟨q0, q1, q2, q3, q4, q5⟩ := six_cells KA.out
          have f5 := KA.out.free 5
          have t1 : decide (i < 59) = true := by simpa using c2
          have e1 : (h == (h * 60 + i + 1) / 60) = true := by simp; omega
          have e2 : (i + 1 == (h * 60 + i + 1) % 60) = true := by simp; omega
          by_cases c3 : h < 23
          · have t2 : decide (h < 23) = true := by simpa using c3
            go_wp2
            go_ret
            exact ⟨rfl, B4.out.alloc B4.out.size _⟩
          · have t2 : decide (h < 23) = false := by simpa using c3
            go_wp2
            go_ret
            exact ⟨rfl, B4.out.alloc B4.out.size _⟩
        · obtain rfl : i = 59 := by omega
          clear c2
          by_cases c3 : h < 23
          · have EN : (⟨y, m, d, h, 59, 59⟩ : D6).next = ⟨y, m, d, h + 1, 0, 0⟩ := by unfold D6.next; simp only; rw [if_neg (by omega), if_neg (by omega), if_pos c3]
            rw [EN]
            clear EN
            simp only [D6.cells, d6c]
            obtain ⟨q0, q1, q2, q3, q4, q5⟩ := six_cells KA.out
            have f5 := KA.out.free 5
            have t2 : decide (h < 23) = true := by simpa using c3
            have e1 : (h + 1 == (h * 60 + 59 + 1) / 60) = true := by simp; omega
            have e2 : (0 == (h * 60 + 59 + 1) % 60) = true := by simp; omega
            go_wp2
            go_ret
            exact ⟨rfl, B4.out.alloc B4.out.size _⟩
          · obtain rfl : h = 23 := by omega
            clear c3
            by_cases c4 : d < ml y m
            · have EN : (⟨y, m, d, 23, 59, 59⟩ : D6).next = ⟨y, m, d + 1, 0, 0, 0⟩ := by unfold D6.next; simp only; rw [if_neg (by omega), if_neg (by omega), if_neg (by omega), if_pos c4]
              rw [EN]
              clear EN
              simp only [D6.cells, d6c]
              obtain ⟨q0, q1, q2, q3, q4, q5⟩ := six_cells KA.out
              have f5 := KA.out.free 5
              go_upto_region 15 with (fail)
              simp only [List.append_eq, List.cons_append, List.nil_append]
              go_wp2
              go_ret
              exact ⟨rfl, B4.out.alloc B4.out.size _⟩
            · have hd28 : 28 ≤ d := by omega
              by_cases c5 : m < 12
              · have EN : (⟨y, m, d, 23, 59, 59⟩ : D6).next = ⟨y, m + 1, 1, 0, 0, 0⟩ := by unfold D6.next; simp only; rw [if_neg (by omega), if_neg (by omega), if_neg (by omega), if_neg c4, if_pos c5]
                rw [EN]
                clear EN
                simp only [D6.cells, d6c]
                obtain ⟨q0, q1, q2, q3, q4, q5⟩ := six_cells KA.out
                have f5 := KA.out.free 5
                have e1 : ((1 : Int) == d + 1) = false := by simp; omega
                have e2 : decide (28 ≤ d) = true := by simpa using hd28
                go_upto_region 15 with (fail)
                simp only [List.append_eq, List.cons_append, List.nil_append]
                go_wp2
                go_ret
                exact ⟨rfl, B4.out.alloc B4.out.size _⟩
              · obtain rfl : m = 12 := by omega
                have e31 : ml y 12 = 31 := rfl
                obtain rfl : d = 31 := by omega
                have EN : (⟨y, 12, 31, 23, 59, 59⟩ : D6).next = ⟨y + 1, 1, 1, 0, 0, 0⟩ := by unfold D6.next; simp only; rw [if_neg (by omega), if_neg (by omega), if_neg (by omega), if_neg (by omega), if_neg (by omega)]
                clear e31 c4
                rw [EN]
                clear EN
                simp only [D6.cells, d6c]
                obtain ⟨q0, q1, q2, q3, q4, q5⟩ := six_cells KA.out
                have f5 := KA.out.free 5
                go_upto_region 15 with (fail)
                simp only [List.append_eq, List.cons_append, List.nil_append]
                go_wp2
                go_ret
                exact ⟨rfl, B4.out.alloc B4.out.size _⟩
  · simp only [D6.cells, d6c, zeroD]
    go_wp2
    go_ret
    exact ⟨rfl, B2.out.alloc B2.out.size _⟩

/-! ### THE ROW's STEP -/
set_option maxRecDepth 100000 in
theorem lifted (os : Os) (started : os.Started) (H : Type) (enc : TypeId × Value → H) :
    ReturnsInHanded {} Try.checked os 7 .any (Rows.clockNextSpec.pre6 enc Try.prog Try.f7 Rows.clockNextRow.domain false) (Rows.clockNextSpec.post enc Try.prog Try.f7 false true false false) := by
  refine returnsInHanded_of_change (C := Try.checked) own started (by kernel_rfl) Try.func7
    (ChangeSpec.witness6 (enc := enc) (C := Try.checked) false ⟨#[], #[.int .i64 0], []⟩ 8 (by kernel_rfl) (by kernel_rfl) (by kernel_rfl) (by kernel_rfl)) ?_
  intro W base args ds gs before hval0 hW hcnd _
  have hval : ∀ (j : Nat) t v, Try.f7.params[j]? = some t → args[j]? = some v → Value.okWide Try.prog W .any base t v := hval0
  have hW' := hW
  obtain ⟨p, q, hA0, hV, rfl, hfz, hnd⟩ := hW
  have hA : DataW.TrodAll enc Try.prog W 0 (fun _ => true) true Try.f7.params.toList args.toList ds p := hA0
  rw [Try.params7] at hA hval
  obtain ⟨v0, vs0, d0, ds0, p0, q0, hargs, rfl, rfl, h0, r0⟩ := trodAll_cons hA
  obtain ⟨rfl, rfl, rfl⟩ := trodAll_nil r0
  obtain rfl : args = #[v0] := by cases args; simp_all
  obtain ⟨rfl, rfl⟩ := trodVars_none hV
  obtain ⟨a0, rfl, rfl, rfl, w0⟩ := open_int Try.underlying2 (hval 0 2 v0 rfl rfl) h0
  clear hA0 hval0
  refine (walk a0 W w0).mono fun e W' ⟨he, bel⟩ => ?_
  subst he
  exact ⟨_, rfl, _, _, _, [], _, [], hW', trodAll_mk1 (shut_bool Try.underlying4 _), (trodAll_cons_mk (shut_int Try.underlying2 w0) trodAll_mk0), rfl, bel.frame _, fun h => by cases h⟩

theorem over : Rows.clockNextRow.holds Try.pinned (OpenSpec.ofChange Rows.clockNextSpec) :=
  OpenClaim.holds_of_wide 7 Try.f7 rfl rfl rfl rfl rfl rfl rfl ⟨rfl, rfl, rfl, rfl, rfl⟩ rfl rfl rfl rfl rfl (by kernel_rfl) Try.func7 (by kernel_rfl)
    (of_decide_eq_true (by kernel_rfl)) (by unfold Func.isWrapper; first | (rw [if_pos (by decide +kernel)]; kernel_rfl) | (rw [if_neg (by decide +kernel)]; exact ⟨rfl, rfl⟩))
    (fun os started H enc _ => lifted os started H enc)

theorem proved : Rows.ClockNextSaid := over
#print axioms proved
end Go.Proofs.Ytebefamnmmbdnaa.clockNext
