/-
  What the package's estimate answers, for stage 8 (modulo).
-/
import Derived.Test.YthpdeaappchnpaaMdE
import Derived.Test.YthpdeaappchnpaaMdC
import Derived.Test.YthpdeaappchnpaaLnF
import Derived.ChangeKeysEq
namespace Go.Proofs.Ythpdeaappchnpaa
open Go.RowKit
set_option linter.unusedVariables false

theorem yields_arr {P : Program} {o : Oper} {a : Act} {W : World} (ty : TypeId) (x : Operand) (ho : o.op = .load ty x) (g : Nat) (t : TypeId) (cs : Array Value) (d : TypeDesc) (hx : a.eval x = .pointer (some ⟨g, 0, none⟩)) (hg : Blk W g t cs)
    (hu : P.underlying ty = some d) (hd : (match d with | .struct _ | .array _ _ => true | _ => false) = true) (hi : (P.info? ty).map (·.size) = some cs.size) : (execOp a.eval o).run P W = .ok (.value (.agg cs)) W := by
  unfold execOp
  simp only [ho, hx, Instr.loadAt, Instr.sureAddr, Sem.run_bind, Sem.run_pure, Result.andThen_ok, run_loadVar_row W g t ty cs (0, 0) d hg hu hd hi]
/-- Two numbers in an array. -/
def two (a b : Int) : Array Value := #[.int .u32 a, .int .u32 b]
theorem two_one (a b : Int) : (two a b).all (·.oneCell') = true := by
  unfold two
  simp [Value.oneCell']
theorem Try.size2 : (Try.prog.info? 36).map (·.size) = some 2 := by kernel_rfl
theorem Try.info35s : (Try.prog.info? 35).isSome = true := by kernel_rfl
theorem Try.cells35 : Try.prog.cellsOf 35 = 1 := by kernel_rfl
theorem eq_two (a b c d : Int) (w : World) : (Op.equalIn 10000 36 (.agg (two a b)) (.agg (two c d))).run Try.prog w = .ok (a == c && b == d) w := by
  obtain ⟨i0, hi⟩ := Option.isSome_iff_exists.1 Try.info35s
  rw [run_equalIn_array w 9999 _ _ Try.underlying36 hi, Try.cells35]
  have q : ∀ (a b : Int) (w : World), (Op.equalIn 9999 35 (.int .u32 a) (.int .u32 b)).run Try.prog w = .ok (a == b) w := fun a b w => run_equalIn_int w 9998 35 .u32 .u32 a b Try.underlying35
  have p : ∀ (xs : Array Value) (j : Nat) (v : Int) (h : xs[j]? = some (.int .u32 v)) (w : World), (part 35 xs j).run Try.prog w = .ok (.int .u32 v) w := by
    intro xs j v h w
    simp [part, h, go_sem]
  show (Op.eqItems 9999 35 1 (two a b) (two c d) [0, 1]).run Try.prog w = _
  by_cases h1 : a = c
  · subst h1
    by_cases h2 : b = d
    · subst h2
      simp [Op.eqItems, Sem.run_bind, p (two a b) 0 a rfl, p (two a b) 1 b rfl, q]
    · simp [Op.eqItems, Sem.run_bind, p (two a b) 0 a rfl, p (two a b) 1 b rfl, p (two a d) 0 a rfl, p (two a d) 1 d rfl, q, h2]
  · simp [Op.eqItems, Sem.run_bind, p (two a b) 0 a rfl, p (two c d) 0 c rfl, q, h1]

set_option maxHeartbeats 2000000 in
set_option maxRecDepth 100000 in
theorem estimate_any (a b : Option Addr) (r n ca cb : Nat) (ps ys : List Int) (w : World) (hr : Row32 w a r ps) (hs : Row32 w b n ys) (hrn : r = n + 1) (h2 : 2 ≤ n) (hn : n ≤ 100000) (htop : ys[n - 1]?.getD 0 ≠ 0) (hlt : valZ ps < valZ ys * 4294967296) :
    Calls Try.prog 41 #[.slice a r ca, .slice b n cb] w fun e w' => ∃ d, e = .returned (.int .u32 d) ∧ valZ ps / valZ ys ≤ d ∧ 0 ≤ d ∧ d ≤ 4294967295 ∧ Below w.heap.size w w' := by
  obtain ⟨t, ht⟩ : ∃ t, n = t + 2 := ⟨n - 2, by omega⟩
  obtain ⟨p, hp⟩ : ∃ p, n = p + 1 := ⟨n - 1, by omega⟩
  rw [show n - 1 = t + 1 by omega] at htop
  obtain ⟨b1, o1, rfl, hb1, hc1⟩ := hr.2.2 (by omega)
  obtain ⟨b2, o2, rfl, hb2, hc2⟩ := hs.2.2 (by omega)
  have EO := est_over (t := t) hr.2.1 hs.2.1 (by rw [hr.1]; omega) (by rw [hs.1]; omega) rfl rfl rfl rfl rfl htop hlt
  have cA := later32 (hc1 n (by omega)) hb1
  have cB := later32 (hc1 p (by omega)) hb1
  have cC := later32 (hc1 t (by omega)) hb1
  have cD := hc2 p (by omega)
  have cE := hc2 t (by omega)
  have C0 := Lib.hid (hc1 t (by omega))
  have rA := hr.num n
  have rB := hr.num p
  have rC := hr.num t
  have rD := hs.num p
  have rE := hs.num t
  rw [show t + 2 = n by omega, show t + 1 = p by omega] at EO
  generalize ps[n]?.getD 0 = xa at *
  generalize ps[p]?.getD 0 = xb at *
  generalize ps[t]?.getD 0 = xc at *
  generalize ys[p]?.getD 0 = xd at *
  generalize ys[t]?.getD 0 = xe at *
  obtain ⟨q0, q1, EN⟩ := EO
  have HEN := Lib.hid EN
  have HD := Lib.hid cD
  have HE := Lib.hid cE
  have w1 : IntKind.i64.wrap ((n : Int) - 1) = (p : Int) := by rw [show (n : Int) - 1 = (p : Int) by omega]; exact IntWalk.i64_in _ (by omega)
  have w2 : IntKind.i64.wrap ((p : Int) + 1) = (n : Int) := by rw [show (p : Int) + 1 = (n : Int) by omega]; exact IntWalk.i64_in _ (by omega)
  have w3 : IntKind.i64.wrap ((p : Int) - 1) = (t : Int) := by rw [show (p : Int) - 1 = (t : Int) by omega]; exact IntWalk.i64_in _ (by omega)
  have i1 : (n : Int) < (r : Int) := by omega
  have i2 : (p : Int) < (r : Int) := by omega
  have i3 : (t : Int) < (r : Int) := by omega
  have i4 : (p : Int) < (n : Int) := by omega
  have i5 : (t : Int) < (n : Int) := by omega
  generalize valZ ps / valZ ys = Q at *
  clear hr hs hc1 hc2 hlt EN cD cE hrn ht hp
  go_enter Try.func41, Try.ntmps41
  go_wp2_with fail
  refine wp_region_ord (Below w.heap.size) (Below.refl _) (fun _ _ _ => Below.trans) [(0, false), (1, false), (2, false), (3, false), (4, false), (5, false), (6, false), (7, false), (8, false), (9, false), (10, true), (11, true)] (by kernel_rfl) (by kernel_rfl) rfl (by kernel_rfl) (fun _ _ _ _ _ h => h) ?_
  repeat (refine ord_take _ rfl (by rfl) (fun W hW => by go_simp; first | done | rfl) ?_; simp only [Act.put, List.setIfInBounds_toArray, List.set_cons_zero, List.set_cons_succ])
  refine ord_sole rfl (by rfl) (fun K1 hK1 => ?_)
  unfold Oper.wp
  go_simp
  refine hK1 _ _ (both32 ((Below.refl _ _).alloc (Nat.le_refl _) _)) ?_
  clear hK1 K1
  have S1 := Lib.hid (Blk.new w 36 #[.int .u32 0, .int .u32 0])
  have B1 := Lib.hid (below_setRow (both32 ((Below.refl w.heap.size w).alloc (Nat.le_refl _) (.cells #[.int .u32 0, .int .u32 0] 36))) (Nat.le_refl _) (two xa xb))
  have K1 : Hid (Blk (((w.alloc (.cells #[.int .u32 0, .int .u32 0] 36)).drew).setRow w.heap.size (two xa xb)) w.heap.size 36 (two xa xb)) := Lib.hid (setRow_heap _ _ _ _ _ _ S1.out)
  refine ord_sole rfl (by rfl) (fun K2 hK2 => ?_)
  refine wp_store_row 36 (.tmp 6) (.tmp 22) rfl w.heap.size (two xa xb) rfl rfl 36 #[.int .u32 0, .int .u32 0] S1.out Try.size2 rfl (two_one _ _) ?_
  refine hK2 _ _ (below_setRow (Below.refl _ _) (Nat.le_refl _) _) ?_
  clear hK2 K2
  refine ord_end ?_
  generalize ((w.alloc (.cells #[.int .u32 0, .int .u32 0] 36)).drew).setRow w.heap.size (two xa xb) = w2 at *
  have hS := K1.out.lt
  have B1' := of_both32 B1.out
  have hsz := B1'.size
  generalize hSe : w.heap.size = S at *
  have HSZ := Lib.hid hSe
  clear hSe
  -- the second array
  have cD := later32 ((B1'.cell (p := ⟨b2, o2 + p, none⟩) hb2).trans HD.out) (base := w2.heap.size) (by omega)
  have cE := later32 ((B1'.cell (p := ⟨b2, o2 + t, none⟩) hb2).trans HE.out) (base := w2.heap.size) (by omega)
  clear S1 cA cB HD HE
  go_wp2_with fail
  refine wp_region_ord (Below w2.heap.size) (Below.refl _) (fun _ _ _ => Below.trans) [(0, false), (1, false), (2, false), (3, false), (4, false), (5, false), (6, false), (7, false), (8, false), (9, false), (10, true), (11, true)] (by kernel_rfl) (by kernel_rfl) rfl (by kernel_rfl) (fun _ _ _ _ _ h => h) ?_
  repeat (refine ord_take _ rfl (by rfl) (fun W hW => by go_simp; first | done | rfl) ?_; simp only [Act.put, List.setIfInBounds_toArray, List.set_cons_zero, List.set_cons_succ])
  refine ord_sole rfl (by rfl) (fun K3 hK3 => ?_)
  unfold Oper.wp
  go_simp
  refine hK3 _ _ (both32 ((Below.refl _ _).alloc (Nat.le_refl _) _)) ?_
  clear hK3 K3
  have S2 := Lib.hid (Blk.new w2 36 #[.int .u32 0, .int .u32 0])
  have B2 := Lib.hid (below_setRow (both32 ((Below.refl w2.heap.size w2).alloc (Nat.le_refl _) (.cells #[.int .u32 0, .int .u32 0] 36))) (Nat.le_refl _) (two xd xe))
  have K2 : Hid (Blk (((w2.alloc (.cells #[.int .u32 0, .int .u32 0] 36)).drew).setRow w2.heap.size (two xd xe)) w2.heap.size 36 (two xd xe)) := Lib.hid (setRow_heap _ _ _ _ _ _ S2.out)
  refine ord_sole rfl (by rfl) (fun K4 hK4 => ?_)
  refine wp_store_row 36 (.tmp 7) (.tmp 32) rfl w2.heap.size (two xd xe) rfl rfl 36 #[.int .u32 0, .int .u32 0] S2.out Try.size2 rfl (two_one _ _) ?_
  refine hK4 _ _ (below_setRow (Below.refl _ _) (Nat.le_refl _) _) ?_
  clear hK4 K4
  refine ord_end ?_
  generalize ((w2.alloc (.cells #[.int .u32 0, .int .u32 0] 36)).drew).setRow w2.heap.size (two xd xe) = w3 at *
  have B2' := of_both32 B2.out
  have KA := Lib.hid (K1.out.below B2' hS)
  have hT := K2.out.lt
  have hS2 := KA.out.lt
  have B3 := Lib.hid (B1'.trans (B2'.mono hsz))
  have cC3 := (B3.out.cell (p := ⟨b1, o1 + t, none⟩) hb1).trans C0.out
  clear S2 cC cD cE C0 K1
  generalize w2.heap.size = T at *
  by_cases hEq : xa = xd ∧ xb = xe
  · obtain ⟨rfl, rfl⟩ := hEq
    have EQ : ∀ W : World, (Op.equalIn 10000 36 (.agg (two xa xb)) (.agg (two xa xb))).run Try.prog W = .ok true W := fun W => by rw [eq_two]; simp
    go_wp2_with (first
      | (refine wpList_load_row rfl 36 (.tmp 6) rfl S rfl 36 (two xa xb) (0, 0) (.array 2 35) KA.out Try.underlying36 rfl Try.size2 ?_)
      | (refine wpList_load_row rfl 36 (.tmp 7) rfl T rfl 36 (two xa xb) (0, 0) (.array 2 35) K2.out Try.underlying36 rfl Try.size2 ?_))
    go_ret
    exact ⟨_, rfl, by omega, by omega, by omega, by rw [HSZ.out]; exact B3.out⟩
  · have EQ : ∀ W : World, (Op.equalIn 10000 36 (.agg (two xa xb)) (.agg (two xd xe))).run Try.prog W = .ok false W := fun W => by
      rw [eq_two]
      have : (xa == xd && xb == xe) = false := by
        by_cases h1 : xa = xd
        · have h2 : xb ≠ xe := fun h2 => hEq ⟨h1, h2⟩
          simp [h2]
        · simp [h1]
      rw [this]
    obtain ⟨E1, E2, E3⟩ := HEN.out hEq
    go_wp2_with (first
      | (refine wpList_load_row rfl 36 (.tmp 6) rfl S rfl 36 (two xa xb) (0, 0) (.array 2 35) KA.out Try.underlying36 rfl Try.size2 ?_)
      | (refine wpList_load_row rfl 36 (.tmp 7) rfl T rfl 36 (two xd xe) (0, 0) (.array 2 35) K2.out Try.underlying36 rfl Try.size2 ?_))
    have e0 := later32 ((KA.out.cell 0).trans rfl) (base := w3.heap.size) hS2 (v := .int .u32 xa)
    have e1 := later32 ((KA.out.cell 1).trans rfl) (base := w3.heap.size) hS2 (v := .int .u32 xb)
    have f0 := later32 ((K2.out.cell 0).trans rfl) (base := w3.heap.size) hT (v := .int .u32 xd)
    have f1 := later32 ((K2.out.cell 1).trans rfl) (base := w3.heap.size) hT (v := .int .u32 xe)
    have e2 := later32 cC3 (base := w3.heap.size) (by have := B3.out.size; have := HSZ.out; omega)
    clear EQ hEq HEN KA K2 cC3
    have DV := Lib.hid (div64_all xa (xb * 4294967296 + xc) (xd * 4294967296 + xe) w3.drew rA.1 E1 (by omega) (by omega) (by omega))
    have k1 : IntKind.u64.wrap xa = xa := IntWalk.u64_in _ (by omega)
    generalize (xa * 18446744073709551616 + (xb * 4294967296 + xc)) / (xd * 4294967296 + xe) = D at *
    have D0 : 0 ≤ D := by omega
    have k2 : IntKind.u32.wrap D = D := IntWalk.u32_in _ (by omega)
    refine wp_region_ord (Below w3.heap.size) (Below.refl _) (fun _ _ _ => Below.trans) [(0, false), (1, false), (2, false), (3, false), (4, false), (5, false), (6, false), (7, false), (8, false), (9, false), (11, false), (12, false), (13, false), (14, false), (10, true), (15, true), (16, true), (17, false), (18, false), (19, false), (20, false), (21, false)] (by kernel_rfl) (by kernel_rfl) rfl (by kernel_rfl) (fun _ _ _ _ _ h => h) ?_
    repeat (refine ord_take _ rfl (by rfl) (fun W hW => by go_simp; first | done | rfl) ?_; simp only [Act.put, List.setIfInBounds_toArray, List.set_cons_zero, List.set_cons_succ])
    refine ord_sole rfl (by rfl) (fun K3 hK3 => ?_)
    go_simp
    refine (joined_any _ _ _ rB.1 rB.2 rC.1 rC.2).mono ?_
    rintro e w4 ⟨rfl, rfl⟩
    refine hK3 _ _ (Below.refl _ _) ?_
    clear hK3 K3
    refine ord_sole rfl (by rfl) (fun K3 hK3 => ?_)
    go_simp
    refine (joined_any _ _ _ rD.1 rD.2 rE.1 rE.2).mono ?_
    rintro e w4 ⟨rfl, rfl⟩
    refine hK3 _ _ (Below.refl _ _) ?_
    clear hK3 K3
    refine ord_sole rfl (by rfl) (fun K3 hK3 => ?_)
    go_simp
    refine DV.out.mono ?_
    rintro e w4 ⟨⟨r64, rfl⟩, hb⟩
    refine hK3 _ _ hb ?_
    clear hK3 K3
    repeat (refine ord_take _ rfl (by rfl) (fun W hW => by go_simp; first | done | rfl) ?_; simp only [Act.put, List.setIfInBounds_toArray, List.set_cons_zero, List.set_cons_succ])
    refine ord_end ?_
    have B4 := Lib.hid (B3.out.trans ((of_both32 hb).mono (by have := B3.out.size; have := HSZ.out; show S ≤ w3.heap.size; omega)))
    clear e0 e1 f0 f1 e2 hb
    go_wp2_with fail
    go_ret
    exact ⟨_, rfl, by omega, by omega, by omega, by rw [HSZ.out]; exact B4.out⟩
end Go.Proofs.Ythpdeaappchnpaa
